/- The walk of the statement NatSums. -/
import Derived.Test.YtceofnkjdkbebaaSumA
import Derived.Deep.RegionHeld3
namespace Go.Proofs.Ytceofnkjdkbebaa
open Go.RowKit
set_option linter.unusedVariables false
set_option linter.unusedSimpArgs false

/-- Lists of limbs that came in, one behind the other. -/
def RowsM (w : World) (ao : Option Addr) (L : List (Option Addr × Nat × Nat × List Int)) : Prop :=
  (L = [] ∨ ∃ b off, ao = some ⟨b, off, none⟩ ∧ ∀ i (h : i < L.length), w.cell? ⟨b, off + i, none⟩ = some (.slice L[i].1 L[i].2.1 L[i].2.2.1)) ∧ ∀ x ∈ L, Reads .u32 w x.1 x.2.1 x.2.2.2 ∧ Dg 4294967296 x.2.2.2 ∧ x.2.1 ≤ 9223372036854775807
theorem RowsM.kept {w w' : World} {ao : Option Addr} {L : List (Option Addr × Nat × Nat × List Int)} (h : RowsM w ao L) (hb : Below w.heap.size w w') : RowsM w' ao L := by
  refine ⟨?_, fun x hx => ⟨(h.2 x hx).1.kept hb, (h.2 x hx).2⟩⟩
  rcases h.1 with h | ⟨b, off, rfl, hc⟩
  · exact Or.inl h
  · exact Or.inr ⟨b, off, rfl, fun i hi => (hb.cell (World.block_lt_of_cell? w _ (hc i hi))).trans (hc i hi)⟩
theorem RowsM.rows2 {w : World} {ao : Option Addr} {L : List (Option Addr × Nat × Nat × List Int)} (h : RowsM w ao L) : Rows2 w ao (L.map (fun x => (x.1, x.2.1, x.2.2.1))) := by
  rcases h.1 with h | ⟨b, off, rfl, hc⟩
  · exact Or.inl (by rw [h]; rfl)
  · refine Or.inr ⟨b, off, rfl, fun i hi => ?_⟩
    simp only [List.length_map] at hi
    simpa using hc i hi
theorem sumN_snoc (ls : List Tup) (x : Tup) : sumN (ls ++ [x]) = sumN ls + x.2.2.2 := by simp [sumN]
theorem sumN_last {ls : List Tup} {m : Nat} (h : m < ls.length) : sumN (ls.take (m + 1)) = sumN (ls.take m) + ls[m].2.2.2 := sumN_take ls m h

/-- What holds at the head of the second loop. -/
structure Su2 (W0 : World) (b6 : Nat) (V : Int) (aoS : Option Addr) (nS : Nat) (wr : World) : Prop where
  c6 : wr.cell? ⟨b6, 0, none⟩ = some (.slice aoS nS nS)
  f6 : wr.frozen? ⟨b6, 0, none⟩ = false
  l6 : b6 < wr.heap.size
  g6 : W0.heap.size ≤ b6
  isn : IsNat wr aoS nS V
  len : nS ≤ 30
  B : Below W0.heap.size W0 wr
/-- The difference in the box b8. -/
structure Su3 (wr : World) (b8 : Nat) (Vd : Int) (aoE : Option Addr) (mE : Nat) (W : World) : Prop where
  c8 : W.cell? ⟨b8, 0, none⟩ = some (.slice aoE mE mE)
  l8 : b8 < W.heap.size
  own : OwnN W wr.heap.size aoE mE Vd
  B : Below wr.heap.size wr W
theorem Su3.kept {wr : World} {b8 : Nat} {Vd : Int} {aoE : Option Addr} {mE : Nat} {W W' : World} (h : Su3 wr b8 Vd aoE mE W) (hb : Below W.heap.size W W') : Su3 wr b8 Vd aoE mE W' :=
  ⟨(hb.cell h.l8).trans h.c8, Nat.lt_of_lt_of_le h.l8 hb.size, h.own.below hb, h.B.trans (hb.mono h.B.size)⟩
theorem Su3.late {wr T w7 : World} {Vd : Int} {aoE : Option Addr} {mE : Nat} (hT : Below wr.heap.size wr T) (hE : OwnN w7 T.heap.size aoE mE Vd) (hb : Below T.heap.size T w7) : Su3 wr w7.heap.size Vd aoE mE (w7.alloc (.cells #[.slice aoE mE mE] 30)) := by
  have hb2 := hT.trans (hb.mono hT.size)
  obtain ⟨ds, hO, r⟩ := hE
  exact ⟨cell_new _ _ _ rfl, by simp, ⟨ds, (hO.mono hT.size).below (below_alloc _ _), r⟩, hb2.trans ((below_alloc _ _).mono hb2.size)⟩
theorem Su3.early {wr w7 : World} {Vd : Int} {aoE : Option Addr} {mE : Nat} {o : Obj} {T : World} (hT : Below wr.heap.size wr T) (hs : T.heap.size = wr.heap.size + 1) (hE : OwnN w7 T.heap.size aoE mE Vd) (hb : Below T.heap.size T w7) {v : Value} (hc : w7.cell? ⟨wr.heap.size, 0, none⟩ = some v) : Su3 wr wr.heap.size Vd aoE mE (w7.setCell ⟨wr.heap.size, 0, none⟩ (.slice aoE mE mE)) := by
  have hb2 := hT.trans (hb.mono hT.size)
  obtain ⟨ds, hO, r⟩ := hE
  exact ⟨World.cell?_setCell_same' _ _ _ (by rw [hc]; rfl), by have := hb.size; simp; omega, ⟨ds, (hO.mono hT.size).kept (grownBy_setCell _ _ _ _) (own_ne hO (by omega)), r⟩, hb2.setCell (Nat.le_refl _) _⟩
theorem Su2.step {W0 wr W : World} {b6 b8 : Nat} {V Vd : Int} {aoS aoE : Option Addr} {nS mE : Nat} (h : Su2 W0 b6 V aoS nS wr) (h3 : Su3 wr b8 Vd aoE mE W) (hV : Vd < 4294967296 ^ 21) : Su2 W0 b6 Vd aoE mE (W.setCell ⟨b6, 0, none⟩ (.slice aoE mE mE)) := by
  have l6 := h.l6
  have hs := h3.B.size
  have c6 := (h3.B.cell (p := ⟨b6, 0, none⟩) h.l6).trans h.c6
  have f6 := (h3.B.frozen (p := ⟨b6, 0, none⟩) h.l6).trans h.f6
  have hlen : mE ≤ 30 := Nat.le_trans (h3.own.isNat.len hV) (by omega)
  obtain ⟨ds, hO, r⟩ := h3.own
  have hz := h.B.size
  refine ⟨World.cell?_setCell_same' _ _ _ (by rw [c6]; rfl), by rw [World.frozen?_setCell]; exact f6, by simp; omega, h.g6, ⟨ds, (hO.kept (grownBy_setCell _ _ _ _) (own_ne hO (by omega))).reads, r⟩, hlen, (h.B.trans (h3.B.mono hz)).setCell h.g6 _⟩

set_option maxRecDepth 20000 in
set_option maxHeartbeats 16000000 in
theorem sums_walk (ao : Option Addr) (n cap : Nat) (L : List (Option Addr × Nat × Nat × List Int)) (w : World) (hM : RowsM w ao L) (hl : L.length = n) (hn : n ≤ 9223372036854775807) :
    Calls Try.prog 3 #[.slice ao n cap] w fun e w' => e = .returned (.bool true) ∧ Below w.heap.size w w' := by
  go_enter Try.func3, Try.ntmps3
  by_cases hbig : 10 < n
  · have hb : (10 : Int) < (n : Int) := by omega
    go_wp2_with fail
    refine (awake_any _).mono ?_
    rintro e w1 ⟨rfl, hb1⟩
    go_wp2
    go_ret
    exact ⟨rfl, hb1⟩
  have hb : ¬ (10 : Int) < (n : Int) := by omega
  have HFW := hide (few_any ao n cap (L.map (fun x => (x.1, x.2.1, x.2.2.1))) w hM.rows2 (by simpa using hl) (by omega) (by intro x hx; simp at hx; obtain ⟨a, b, c, ⟨z, h⟩, rfl⟩ := hx; exact (hM.2 _ h).2.2))
  go_wp2_with fail
  refine (unhide HFW).mono ?_
  rintro e w1 ⟨rfl, hw1⟩
  have hw := hw1.symm
  clear hw1
  subst hw
  clear HFW
  by_cases hall : ((L.map (fun x => (x.1, x.2.1, x.2.2.1))).all (fun x => decide (x.2.1 ≤ 20))) = true
  case neg =>
    have hf : ((L.map (fun x => (x.1, x.2.1, x.2.2.1))).all (fun x => decide (x.2.1 ≤ 20))) = false := by simpa using hall
    rw [hf]
    clear hf hall
    go_wp2_with fail
    refine (awake_any _).mono ?_
    rintro e w1 ⟨rfl, hb1⟩
    go_wp2
    go_ret
    exact ⟨rfl, hb1⟩
  rw [hall]
  have H20 : Hid (∀ x ∈ L, x.2.1 ≤ 20) := hide (fun x hx => by have h := List.all_eq_true.1 hall (x.1, x.2.1, x.2.2.1) (List.mem_map.2 ⟨x, hx, rfl⟩); simpa using h)
  have HM := hide hM
  clear hall hM
  go_wp2
  go_loopw [3, 4, 5] (fun v d i wr => ∃ (k : Nat) (ao3 : Option Addr) (cap3 : Nat) (aoD : Option Addr) (nD cD : Nat) (ls : List Tup), v = .slice ao3 k cap3 ∧ d = .slice aoD nD cD ∧ i = .int .i64 k ∧ k ≤ n ∧ Hid (ls.length = k) ∧ Hid (SuI w ls (.slice ao3 k cap3) aoD nD cD (sumN ls) wr)) (fun _ _ i _ => n - (intOf i).toNat)
  case atStart => exact ⟨0, none, 0, none, 0, 0, [], rfl, rfl, rfl, Nat.zero_le _, hide rfl, hide ⟨World.ownsRow_nil _ _ _ _, fun x hx => (by cases hx), ⟨[], Own.nil _ _ _ _, Dg.nil _, Or.inl rfl, rfl⟩, Below.refl _ _⟩⟩
  case round =>
    obtain ⟨k, ao3, cap3, aoD, nD, cD, ls, rfl, rfl, rfl, hk, HLL, HI⟩ := hrel
    by_cases hlt : k < n
    · have hk0 : (0 : Int) ≤ (k : Int) := by omega
      have hk1 : (k : Int) < (n : Int) := by omega
      have hkl : k < L.length := by omega
      rcases HM.out.1 with h0 | ⟨b, off, rfl, hc⟩
      · rw [h0] at hkl; simp at hkl
      have hcw := hc k hkl
      have hmem := HM.out.2 L[k] (List.getElem_mem hkl)
      have h20 := H20.out L[k] (List.getElem_mem hkl)
      obtain ⟨x, hx⟩ : ∃ x, x = L[k] := ⟨_, rfl⟩
      rw [← hx] at hcw hmem h20
      obtain ⟨xa, xl, xc, zs⟩ := x
      dsimp only at hcw hmem h20
      have hbl := World.block_lt_of_cell? w _ hcw
      have c0 := (HI.out.B.cell hbl).trans hcw
      have HCW := hide (And.intro hbl hcw)
      have HRD := hide hmem.1
      have HDZ := hide hmem.2.1
      have HPB := hide (show 0 ≤ pv 4294967296 zs ∧ pv 4294967296 zs < 4294967296 ^ 20 by have h := pv_bound (by decide) hmem.2.1; exact ⟨h.1, Int.lt_of_lt_of_le h.2 (pow_mono (by decide) (by have := hmem.1.1; omega))⟩)
      have HOF := hide (of_any xa xl xc zs wr (hmem.1.kept HI.out.B) (by omega))
      clear hx hc hmem hcw hbl
      go_wp2_with fail
      refine (unhide HOF).mono ?_
      rintro e w1 ⟨aoE, mE, rfl, hO, hb1⟩
      have hE : OwnN w1 w.heap.size aoE mE (pv 4294967296 zs) := ⟨chop zs, hO.mono HI.out.B.size, chop_Dg HDZ.out, chop_Nz zs, chop_pv _ zs⟩
      have hmE : mE ≤ 20 := by have h1 := hO.1; have h2 := chop_len zs; have h3 := HRD.out.1; omega
      obtain ⟨g, cap4, w2, hrun, hS2⟩ := (HI.out.kept hb1).app HLL.out.symm (by have := HLL.out; omega) hE hmE HPB.out.2
      have HRUN := hide hrun
      have HS2 := hide hS2
      have c2 := (HS2.out.B.cell HCW.out.1).trans HCW.out.2
      have HRO := hide (rof_any xa xl xc zs w2 (HRD.out.kept HS2.out.B) HDZ.out (by omega))
      have HSM : Hid (sumN (ls ++ [(aoE, mE, mE, pv 4294967296 zs)]) = sumN ls + pv 4294967296 zs) := hide (sumN_snoc _ _)
      have HVB : Hid (∀ x ∈ ls, 0 ≤ x.2.2.2 ∧ x.2.2.2 < 4294967296 ^ 20) := hide (fun x hx => ⟨(HI.out.els x hx).1.isNat.nonneg, (HI.out.els x hx).2.2.2⟩)
      have hnD : nD ≤ 300 := sum_len HI.out.dec.isDec (by have := HLL.out; omega) HVB.out
      clear hO hb1 hE hrun hS2 HOF c0
      go_wp2_with (at_builtin; refine Lib.wpList_append_run _ rfl _ _ _ _ rfl _ _ rfl rfl _ _ HRUN.out ?_)
      refine (unhide HRO).mono ?_
      rintro e w3 ⟨aoO, mO, cO, rfl, hOd, hmO, hb3⟩
      have HS3 := hide (HS2.out.kept hb3)
      have HRA := hide (radd_own aoD aoO nD cD mO cO _ _ w3 HS3.out.dec.isDec hOd (by omega) (by omega))
      clear hOd hb3 HRO
      go_wp2_with fail
      refine (unhide HRA).mono ?_
      rintro e w4 ⟨aoN, mN, cN, rfl, hDn, hb4⟩
      have HS4 : Hid (SuI w (ls ++ [(aoE, mE, mE, pv 4294967296 zs)]) (.slice (some ⟨g, 0, none⟩) (k + 1) cap4) aoN mN cN (sumN (ls ++ [(aoE, mE, mE, pv 4294967296 zs)])) w4) := hide (by
        have h := HS3.out.kept hb4
        refine ⟨h.row, h.els, ?_, h.B⟩
        rw [HSM.out]
        obtain ⟨D, hO, r⟩ := hDn
        exact ⟨D, hO.mono HS3.out.B.size, r⟩)
      have HLN : Hid ((ls ++ [(aoE, mE, mE, pv 4294967296 zs)]).length = k + 1) := hide (by rw [List.length_append, HLL.out]; rfl)
      clear hDn hb4 HRA c2 HS2 HS3
      go_wp2
      go_roundw
      case rel => exact ⟨k + 1, _, cap4, aoN, mN, cN, _, rfl, rfl, by go_num, by omega, HLN, HS4⟩
      case measure => simp [intOf]; omega
    · obtain rfl : k = n := by omega
      have hI := HI.out
      have HN := hide hI.nats
      have HVB : Hid (∀ x ∈ ls, 0 ≤ x.2.2.2 ∧ x.2.2.2 < 4294967296 ^ 20) := hide (fun x hx => ⟨(hI.els x hx).1.isNat.nonneg, (hI.els x hx).2.2.2⟩)
      have hlk := HLL.out
      have hz : IsNat wr none 0 0 := ⟨[], Reads.nil _ _ _, Dg.nil _, Or.inl rfl, rfl⟩
      have HAD := hide (add_any none 0 0 0 ao3 k cap3 ls wr hz (by omega) HN.out hlk (by omega))
      obtain ⟨D, hDO, hDD, hDN, hDV⟩ := hI.dec
      have HD := hide (And.intro hDD (And.intro hDN hDV))
      have HDR := hide hDO.reads
      have hnD : nD ≤ 300 := sum_len hI.dec.isDec (by omega) HVB.out
      have HLT := hide (sum_lt (show ls.length ≤ 10 by omega) HVB.out)
      have HB0 := hide hI.B
      clear hI hz hDO hDD hDN hDV HI HM H20
      go_wp2_with fail
      refine (unhide HAD).mono ?_
      rintro e w5 ⟨aoS, nS, rfl, hS, hmS, hb5⟩
      rw [Int.zero_add] at hS
      have hnS : nS ≤ 21 := hS.len HLT.out
      have hba := below_alloc w5 (.cells #[.slice aoS nS nS] 30)
      have hb6 : Below wr.heap.size wr (w5.alloc (.cells #[.slice aoS nS nS] 30)) := hb5.trans (hba.mono hb5.size)
      have H2 : Hid (Su2 wr w5.heap.size (sumN ls) aoS nS (w5.alloc (.cells #[.slice aoS nS nS] 30))) := hide ⟨cell_new _ _ _ rfl, frozen_new _ _ _ rfl, by simp, hb5.size, hS.kept hba, by omega, hb6⟩
      have HST := hide (string_any aoS nS nS (sumN ls) _ H2.out.isn (by omega))
      have HSZ := hide (Nat.le_refl 0)
      clear hS hba hb6 hmS HAD hb5
      go_wp2_with fail
      generalize w5.alloc (.cells #[.slice aoS nS nS] 30) = W6 at *
      generalize w5.heap.size = b6 at *
      refine (unhide HST).mono ?_
      rintro e w7 ⟨E, rfl, hE1, hE2, hE3, hb7⟩
      have heq : decStr E = decStr D := decStr_eq hE1 hE2 hE3 HD.out.1 HD.out.2.1 HD.out.2.2
      rw [heq]
      have H27 : Hid (Su2 wr b6 (sumN ls) aoS nS w7) := hide ⟨(hb7.cell H2.out.l6).trans H2.out.c6, (hb7.frozen H2.out.l6).trans H2.out.f6, Nat.lt_of_lt_of_le H2.out.l6 hb7.size, H2.out.g6, H2.out.isn.kept hb7, H2.out.len, H2.out.B.trans (hb7.mono H2.out.B.size)⟩
      have HPT := hide (print_any aoD nD cD D w7 (HDR.out.kept H27.out.B) HD.out.1 (by omega))
      clear heq hE1 hE2 hE3 hb7 HST H2
      go_wp2_with fail
      refine (unhide HPT).mono ?_
      rintro e w8 ⟨rfl, hb8⟩
      have H28 : Hid (Su2 wr b6 (sumN ls) aoS nS w8) := hide ⟨(hb8.cell H27.out.l6).trans H27.out.c6, (hb8.frozen H27.out.l6).trans H27.out.f6, Nat.lt_of_lt_of_le H27.out.l6 hb8.size, H27.out.g6, H27.out.isn.kept hb8, H27.out.len, H27.out.B.trans (hb8.mono H27.out.B.size)⟩
      clear hb8 H27 HPT HD HDR
      generalize decStr D = sd at *
      have HB0' := HB0
      obtain ⟨W0, hW0⟩ : ∃ W, W = wr := ⟨_, rfl⟩
      rw [← hW0] at H28 HN HB0
      clear hW0 HB0'
      go_wp2
      go_loopw [7] (fun i wr => ∃ (m : Nat) (aoS : Option Addr) (nS : Nat), i = .int .i64 ((m : Int) - 1) ∧ m ≤ k ∧ Hid (Su2 W0 b6 (sumN (ls.take m)) aoS nS wr)) (fun i _ => ((intOf i) + 1).toNat)
      case atStart => exact ⟨k, aoS, nS, rfl, Nat.le_refl _, hide (by rw [List.take_of_length_le (by omega)]; exact H28.out)⟩
      case round =>
        clear H28
        obtain ⟨m, aoS, nS, rfl, hm, H2⟩ := hrel
        cases m with
        | zero =>
          rw [show (((0 : Nat) : Int) - 1) = -1 from rfl]
          have c6 := H2.out.c6
          have HZ := hide (zero_any aoS nS nS wr (by have := H2.out.len; omega))
          have hz0 : nS = 0 := by have h := H2.out.isn.zero; rw [List.take_zero] at h; exact h.2 rfl
          subst hz0
          have HBB := hide (HB0.out.trans (H2.out.B.mono HB0.out.size))
          go_wp2_with fail
          refine (unhide HZ).mono ?_
          rintro e w9 ⟨rfl, hb9⟩
          simp only [decide_true]
          go_wp2_with fail
          refine (awake_any _).mono ?_
          rintro e wa ⟨rfl, hba⟩
          go_wp2
          go_ret
          have h1 := HBB.out.trans (hb9.mono HBB.out.size)
          exact ⟨rfl, h1.trans (hba.mono h1.size)⟩
        | succ m =>
          rw [show (((m + 1 : Nat) : Int) - 1) = (m : Int) by omega]
          have hm0 : (0 : Int) ≤ (m : Int) := by omega
          have hm1 : (m : Int) < (k : Int) := by omega
          have hml : m < ls.length := by omega
          have hNr := HN.out.kept H2.out.B
          rcases hNr.1 with h0 | ⟨b3, off, rfl, hc⟩
          · rw [h0] at hml; simp at hml
          have hck := hc m hml
          have hmem := hNr.2 ls[m] (List.getElem_mem hml)
          have hsum := sumN_take ls m hml
          obtain ⟨x, hx⟩ : ∃ x, x = ls[m] := ⟨_, rfl⟩
          rw [← hx] at hck hmem hsum
          obtain ⟨xa, xm, xc, xv⟩ := x
          dsimp only at hck hmem hsum
          have hbl : b3 < wr.heap.size := World.block_lt_of_cell? wr _ hck
          have hpos := (sum_bound (ls.take m) (fun y hy => HVB.out y (List.mem_of_mem_take hy))).1
          have HVD := hide (sum_lt (show (ls.take m).length ≤ 10 by rw [List.length_take]; omega) (fun y hy => HVB.out y (List.mem_of_mem_take hy)))
          have h2 := H2.out.isn
          rw [hsum] at h2
          have hlen := H2.out.len
          have hxm := hmem.2
          have HX := hide hmem.1
          have HV2 := hide h2
          generalize hvd : sumN (ls.take m) = Vd at *
          have HVE := hide hvd
          clear hvd
          have CSB := hide (fun (T : World) (h : Below wr.heap.size wr T) => sub_own aoS xa nS nS xm xc _ xv T (HV2.out.kept h) (HX.out.kept h) (by omega) (by omega) (by omega))
          have HEQ := hide (show Vd + xv - xv = Vd by omega)
          rw [HEQ.out] at CSB
          have c6 := H2.out.c6
          have l6 := H2.out.l6
          have HC := hide (And.intro hbl hck)
          have hd0 : Below wr.heap.size wr wr.drew := (Below.refl _ _).drew
          have hd1 : Below wr.heap.size wr (wr.alloc (.cells #[.slice none 0 0] 30)).drew := (below_alloc _ _).drew
          have HD0 := hide hd0
          have HN6 : Hid ((⟨wr.heap.size, 0, none⟩ : Addr) ≠ ⟨b6, 0, none⟩) := hide (fun e => by have := congrArg Addr.block e; simp at this; omega)
          have HN3 : Hid ((⟨wr.heap.size, 0, none⟩ : Addr) ≠ ⟨b3, off + m, none⟩) := hide (fun e => by have := congrArg Addr.block e; simp at this; omega)
          have HLT8 := hide (show wr.heap.size < (wr.alloc (.cells #[.slice none 0 0] 30)).drew.heap.size by simp)
          have HC8 : Hid ((wr.alloc (.cells #[.slice none 0 0] 30)).drew.cell? ⟨wr.heap.size, 0, none⟩ = some (.slice none 0 0)) := hide (cell_new _ _ _ rfl)
          have HF8 : Hid ((wr.alloc (.cells #[.slice none 0 0] 30)).drew.frozen? ⟨wr.heap.size, 0, none⟩ = false) := hide (frozen_new _ _ _ rfl)
          have HD1 := hide hd1
          clear hx hc hmem hsum h2 hNr hd0 hd1
          go_wp2
          go_region_held3 (fun W => W.cell? ⟨b6, 0, none⟩ = some (.slice aoS nS nS) ∧ W.cell? ⟨b3, off + m, none⟩ = some (.slice xa xm xc)) (first | exact ⟨y6, y3⟩ | exact ⟨(World.cell?_setCell_other _ _ _ _ HN6.out).trans y6, (World.cell?_setCell_other _ _ _ _ HN3.out).trans y3⟩ | go_keep) (first
            | (go_at_call 13; refine (CSB.out _ (by first | exact HD0.out | exact HD1.out)).mono ?_; rintro e w9 ⟨aoE, mE, rfl, hE, hmE, hb⟩; have HE := hide hE; (first | (have hb9 : Below wr.heap.size wr w9 := HD0.out.trans (hb.mono HD0.out.size); have HB9 := hide hb; clear hb) | (have hb9 : Below wr.heap.size wr w9 := HD1.out.trans (hb.mono HD1.out.size); have HB9 := hide hb; have z8 : w9.cell? ⟨wr.heap.size, 0, none⟩ = some (.slice none 0 0) := (hb.cell (p := ⟨wr.heap.size, 0, none⟩) HLT8.out).trans HC8.out; have zf8 : w9.frozen? ⟨wr.heap.size, 0, none⟩ = false := (hb.frozen (p := ⟨wr.heap.size, 0, none⟩) HLT8.out).trans HF8.out; clear hb)); have y6 := (hb9.cell (p := ⟨b6, 0, none⟩) l6).trans c6; have y3 := (hb9.cell (p := ⟨b3, off + m, none⟩) HC.out.1).trans HC.out.2; clear hE hmE))
          have H3 := hide (Su3.late HD0.out HE.out HB9.out)
          clear HE HB9 hb9 y6 y3
          generalize w9.alloc (.cells #[.slice aoE mE mE] 30) = W8 at *
          generalize w9.heap.size = b8 at *
          rotate_left
          have H3 := hide (Su3.early (o := .cells #[] 0) HD1.out (by simp) HE.out HB9.out z8)
          clear HE HB9 hb9 y6 y3 z8 zf8
          generalize w9.setCell ⟨wr.heap.size, 0, none⟩ (.slice aoE mE mE) = W8 at *
          generalize wr.heap.size = b8 at H3 ⊢
          all_goals
            have y8 := H3.out.c8
            have y6 := (H3.out.B.cell (p := ⟨b6, 0, none⟩) l6).trans c6
            have y3 := (H3.out.B.cell (p := ⟨b3, off + m, none⟩) HC.out.1).trans HC.out.2
            have hmE : mE ≤ 30 := Nat.le_trans (H3.out.own.isNat.len HVD.out) (by omega)
            have hda : Below W8.heap.size W8 (W8.alloc (.cells #[.slice xa xm xc] 30)).drew := (below_alloc _ _).drew
            have HDA := hide hda
            have HSL := hide (show nS ≤ 1000000 by omega)
            have HAD := hide (add_any aoE mE mE Vd (some ⟨W8.heap.size, 0, none⟩) 1 1 [(xa, xm, xc, xv)] _ (H3.out.own.isNat.kept hda) (by omega) (Nats.one (show (W8.alloc (.cells #[.slice xa xm xc] 30)).drew.cell? ⟨W8.heap.size, 0, none⟩ = some (.slice xa xm xc) from cell_new _ _ _ rfl) ((HX.out.kept H3.out.B).kept hda) hxm) rfl (by omega))
            rw [show sumN [(xa, xm, xc, xv)] = xv by simp [sumN]] at HAD
            clear hda CSB HD0 HD1 HN6 HN3 HLT8 HC8 HF8
            go_wp2
            go_region_held3 (fun W => W.cell? ⟨b8, 0, none⟩ = some (.slice aoE mE mE) ∧ W.cell? ⟨b3, off + m, none⟩ = some (.slice xa xm xc) ∧ W.cell? ⟨b6, 0, none⟩ = some (.slice aoS nS nS)) (first | exact ⟨u8, u3, u6⟩ | exact ⟨y8, y3, y6⟩ | exact ⟨(cell_old W8 _ H3.out.l8).trans y8, (cell_old W8 _ (World.block_lt_of_cell? W8 _ y3)).trans y3, (cell_old W8 _ (World.block_lt_of_cell? W8 _ y6)).trans y6⟩ | go_keep) (first
              | (go_at_call 10; refine (unhide HAD).mono ?_; rintro e wA ⟨aoR, mR, rfl, hR, hmR, hb⟩; have HR := hide (And.intro hR hmR); have HRL : Hid (mR ≤ 1000000) := hide (Nat.le_trans hmR (by omega)); have HA := hide (HDA.out.trans (hb.mono HDA.out.size)); have HQ := hide (H3.out.kept HA.out); have u8 := HQ.out.c8; have u6 := (HQ.out.B.cell (p := ⟨b6, 0, none⟩) l6).trans c6; have u3 := (HQ.out.B.cell (p := ⟨b3, off + m, none⟩) HC.out.1).trans HC.out.2; clear hR hmR hb)
              | (go_at_call 14; refine (compare_any aoR aoS mR mR nS nS (Vd + xv) (Vd + xv) _ HR.out.1 (HV2.out.kept HQ.out.B) HRL.out HSL.out).mono ?_; rintro e wB ⟨c, rfl, hcm, hb⟩; obtain rfl : c = 0 := hcm.eq rfl; replace HQ := hide (HQ.out.kept hb); have u8 := HQ.out.c8; have u6 := (HQ.out.B.cell (p := ⟨b6, 0, none⟩) l6).trans c6; have u3 := (HQ.out.B.cell (p := ⟨b3, off + m, none⟩) HC.out.1).trans HC.out.2; clear hcm hb))
            have HFN := hide (H2.out.step HQ.out HVD.out)
            have f6 := (HQ.out.B.frozen (p := ⟨b6, 0, none⟩) l6).trans H2.out.f6
            clear y8 y6 y3 HAD HDA HR HRL HA
            go_wp2
            go_roundw
            case rel => exact ⟨m, aoE, mE, by go_num, by omega, hide (by rw [HVE.out]; exact HFN.out)⟩
            case measure => simp [intOf]

end Go.Proofs.Ytceofnkjdkbebaa
