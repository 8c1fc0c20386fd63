/- Contract: Add of any numbers. -/
import Derived.Test.YtceofnkjdkbebaaAddB
namespace Go.Proofs.Ytceofnkjdkbebaa
open Go.RowKit
set_option linter.unusedVariables false
set_option linter.unusedSimpArgs false

/-- Numbers that lie at ao, one behind the other: of each its slice of limbs, and its value. -/
def Nats (w : World) (ao : Option Addr) (ls : List (Option Addr × Nat × Nat × Int)) : Prop :=
  (ls = [] ∨ ∃ b off, ao = some ⟨b, off, none⟩ ∧ ∀ i (h : i < ls.length), w.cell? ⟨b, off + i, none⟩ = some (.slice ls[i].1 ls[i].2.1 ls[i].2.2.1)) ∧ ∀ x ∈ ls, IsNat w x.1 x.2.1 x.2.2.2 ∧ x.2.1 ≤ 1000

theorem Nats.kept {w w' : World} {ao : Option Addr} {ls : List (Option Addr × Nat × Nat × Int)} (h : Nats w ao ls) (hb : Below w.heap.size w w') : Nats w' ao ls := by
  refine ⟨?_, fun x hx => ⟨(h.2 x hx).1.kept hb, (h.2 x hx).2⟩⟩
  rcases h.1 with h | ⟨b, off, rfl, hc⟩
  · exact Or.inl h
  · exact Or.inr ⟨b, off, rfl, fun i hi => (hb.cell (World.block_lt_of_cell? w _ (hc i hi))).trans (hc i hi)⟩

/-- The sum of the first ones. -/
def sumN (ls : List (Option Addr × Nat × Nat × Int)) : Int := (ls.map (·.2.2.2)).sum

theorem sumN_take (ls : List (Option Addr × Nat × Nat × Int)) (k : Nat) (h : k < ls.length) : sumN (ls.take (k + 1)) = sumN (ls.take k) + ls[k].2.2.2 := by
  rw [sumN, sumN, List.take_succ_eq_append_getElem h, List.map_append, List.sum_append]
  simp

set_option maxHeartbeats 1600000 in
theorem add_any (ao : Option Addr) (n cap : Nat) (V : Int) (aoM : Option Addr) (k0 capM : Nat) (ls : List (Option Addr × Nat × Nat × Int)) (w : World) (hN : IsNat w ao n V) (hn : n ≤ 1000) (hM : Nats w aoM ls) (hk0 : ls.length = k0) (hkb : k0 ≤ 1000) :
    Calls Try.prog 10 #[.agg #[.slice ao n cap], .slice aoM k0 capM] w fun e w' => ∃ ao' m, e = .returned (.agg #[.slice ao' m m]) ∧ IsNat w' ao' m (V + sumN ls) ∧ m ≤ 1000 + k0 ∧ Below w.heap.size w w' := by
  obtain ⟨zs, hR, hD, hNz, hV⟩ := hN
  have HV := hide hV
  clear hV
  obtain ⟨W, hW, hbW, hcA, hcB, hsW⟩ := two_boxes w (.slice ao n cap) (.slice none 0 0) 30
  have hfB : W.frozen? ⟨w.heap.size + 1, 0, none⟩ = false := by rw [hW]; exact frozen_new _ _ _ (by simp)
  have hWs : W.heap.size = w.heap.size + 2 := by rw [hW]; simp
  go_enter Try.func10, Try.ntmps10
  go_wp2_with fail
  rw [← hW]
  clear hW
  refine (limbs_any ao n cap zs W (hR.kept hbW) (by omega)).mono ?_
  rintro e w1 ⟨g, rfl, hO1, hb1⟩
  rw [hWs] at hO1 hb1
  have hcB1 := (bcell hb1 (b := w.heap.size + 1) (o := 0) (by omega)).trans hcB
  have hfB1 := (bfrozen hb1 (b := w.heap.size + 1) (o := 0) (by omega)).trans hfB
  have hs1 : w.heap.size + 2 ≤ w1.heap.size := by have := hb1.size; omega
  have hbw1 : Below w.heap.size w w1 := hbW.trans (hb1.mono (by omega))
  clear hcA hcB hfB hsW hWs hb1 hbW
  go_wp2
  go_loopw [5, 12] (fun v i wr => ∃ (k : Nat) (aoS : Option Addr) (nS capS : Nat) (ds : List Int), k ≤ k0 ∧ i = .int .i64 k ∧ v = .slice aoS nS capS ∧ nS ≤ 1000 + k ∧ Own .u32 43 wr (w.heap.size + 2) aoS nS capS ds ∧ Dg 4294967296 ds ∧ Hid (pv 4294967296 ds = V + sumN (ls.take k)) ∧ Below (w.heap.size + 2) w1 wr)
    (fun _ i _ => k0 - (intOf i).toNat)
  case atStart => exact ⟨0, some ⟨g, 0, none⟩, n, n, zs, Nat.zero_le _, rfl, rfl, by omega, hO1, hD, hide (by rw [HV.out, List.take_zero]; simp [sumN]), Below.refl _ _⟩
  case round =>
    obtain ⟨k, aoS, nS, capS, ds, hk, rfl, rfl, hnS, hOS, hDS, hpv, hbr⟩ := hrel
    have hcBr := (bcell hbr (b := w.heap.size + 1) (o := 0) (by omega)).trans hcB1
    have hfBr := (bfrozen hbr (b := w.heap.size + 1) (o := 0) (by omega)).trans hfB1
    have hsr := hbr.size
    have hbwr : Below w.heap.size w wr := hbw1.trans (hbr.mono (by omega))
    by_cases hlt : k < k0
    · have hkl : k < ls.length := by omega
      have hMr := hM.kept hbwr
      rcases hMr.1 with h0 | ⟨b, off, rfl, hc⟩
      · rw [h0] at hkl; simp at hkl
      · have hck := hc k hkl
        have hmem := hM.2 ls[k] (List.getElem_mem hkl)
        have hsum := sumN_take ls k hkl
        obtain ⟨x, hx⟩ : ∃ x, x = ls[k] := ⟨_, rfl⟩
        rw [← hx] at hck hmem hsum
        obtain ⟨xa, xn, xc, xv⟩ := x
        dsimp only at hck hmem hsum
        obtain ⟨⟨us, hRU, hDU, hNU, hVU⟩, hxn⟩ := hmem
        have HSUM := hide hsum
        clear hx hc hsum
        go_wp2_with fail
        refine (raise_any (w.heap.size + 2) aoS xa nS capS xn xc ds us _ xv _ (hOS.below (below_alloc _ _)) hDS hpv.out (fun w' hw' => hRU.kept ((hbwr.alloc (by omega) _).trans (hw'.mono (by omega)))) hDU hVU (by omega) (by omega) (by simp; omega) _ rfl).mono ?_
        rintro e w3 ⟨ao3, m3, cap3, ds3, rfl, hO3, hD3, hp3, hm3, hg3⟩
        have hb3 : Below (w.heap.size + 2) w1 w3 := (hbr.alloc (by omega) (.cells #[.slice xa xn xc] 30)).grown hg3 (by simp; omega) (fun c hc => (hOS.lt c hc).1)
        have HP3 : Hid (pv 4294967296 ds3 = V + sumN (ls.take (k + 1))) := by rw [hp3, HSUM.out, Int.add_assoc]; exact hide rfl
        have hm3' : m3 ≤ 1000 + (k + 1) := by split at hm3 <;> omega
        clear hp3 hm3 hg3 hOS hbr hpv
        go_wp2
        go_roundw
        case rel => exact ⟨k + 1, ao3, m3, cap3, ds3, by omega, by go_num, rfl, hm3', hO3, hD3, HP3, hb3⟩
        case measure => simp [intOf]; omega
    · have HPV : Hid (pv 4294967296 ds = V + sumN ls) := by
        have h1 := hpv.out
        rw [List.take_of_length_le (by omega)] at h1
        exact hide h1
      clear hpv
      go_wp2_with fail
      refine (cut_any (w.heap.size + 2) aoS nS capS ds wr hOS (by omega)).mono ?_
      rintro e w3 ⟨ao3, m3, rfl, hO3, _, hw3⟩
      subst hw3
      go_wp2
      have h := isNat_chop (hO3.kept (grownBy_setCell _ (w.heap.size + 1) 0 (.slice ao3 m3 m3)) (own_ne hO3 (by omega))) hDS
      rw [HPV.out] at h
      refine bodyPost_ret (v := .agg #[.slice ao3 m3 m3]) (by simp [results, Try.results10, go_sem, hcBr]) rfl ⟨ao3, m3, rfl, h.1, ?_, ?_⟩
      · have := h.2; have := hOS.1; omega
      · exact bset hbwr (by omega) _

end Go.Proofs.Ytceofnkjdkbebaa
