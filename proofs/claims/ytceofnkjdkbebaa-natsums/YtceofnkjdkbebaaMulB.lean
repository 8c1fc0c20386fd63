/- Contract: Product. -/
import Derived.Test.YtceofnkjdkbebaaMulA
namespace Go.Proofs.Ytceofnkjdkbebaa
open Go.RowKit
set_option linter.unusedVariables false
set_option linter.unusedSimpArgs false

/-- The product of some numbers. -/
def prodN (ls : List (Option Addr × Nat × Nat × Int)) : Int := (ls.map (·.2.2.2)).foldl (· * ·) 1
theorem prodN_take (ls : List (Option Addr × Nat × Nat × Int)) (k : Nat) (h : k < ls.length) : prodN (ls.take (k + 1)) = prodN (ls.take k) * ls[k].2.2.2 := by
  rw [prodN, prodN, List.take_succ_eq_append_getElem h, List.map_append, List.foldl_append]
  simp

/-- What holds at the head of Product's loop: the product so far in the box b5. -/
structure PrI (w : World) (b5 : Nat) (aoS : Option Addr) (nS : Nat) (X : Int) (wr : World) : Prop where
  c5 : wr.cell? ⟨b5, 0, none⟩ = some (.slice aoS nS nS)
  f5 : wr.frozen? ⟨b5, 0, none⟩ = false
  l5 : b5 < wr.heap.size
  c4 : wr.cell? ⟨w.heap.size + 1, 0, none⟩ = some (.slice none 0 0)
  f4 : wr.frozen? ⟨w.heap.size + 1, 0, none⟩ = false
  l4 : w.heap.size + 1 < b5
  own : ∃ ds, Own .u32 43 wr (w.heap.size + 2) aoS nS nS ds ∧ Dg 4294967296 ds ∧ Nz ds ∧ pv 4294967296 ds = X
  ne : ∀ b, blk aoS = some b → b ≠ b5
  B : Below w.heap.size w wr
theorem PrI.step {w : World} {b5 : Nat} {aoS ao' : Option Addr} {nS m : Nat} {X X' : Int} {wr w3 : World} {ds : List Int} (I : PrI w b5 aoS nS X wr) (hb : Below wr.heap.size wr w3) (hO : Own .u32 43 w3 (wr.heap.size + 1) ao' m m ds) (hD : Dg 4294967296 ds) (hN : Nz ds) (hV : pv 4294967296 ds = X') : PrI w b5 ao' m X' (w3.setCell ⟨b5, 0, none⟩ (.slice ao' m m)) := by
  have l4 := I.l4
  have l5 := I.l5
  have hs := hb.size
  have hz := I.B.size
  have c5 := (bcell hb (o := 0) I.l5).trans I.c5
  have f5 := (bfrozen hb (o := 0) I.l5).trans I.f5
  have c4 := (bcell hb (o := 0) (b := w.heap.size + 1) (by omega)).trans I.c4
  have f4 := (bfrozen hb (o := 0) (b := w.heap.size + 1) (by omega)).trans I.f4
  have n45 : w.heap.size + 1 ≠ b5 := by omega
  refine ⟨World.cell?_setCell_same' _ _ _ (by rw [c5]; rfl), by rw [World.frozen?_setCell]; exact f5, by simp; omega, (World.cell?_setCell_other _ _ _ _ (fun e => n45 (congrArg Addr.block e).symm)).trans c4, by rw [World.frozen?_setCell]; exact f4, l4, ⟨ds, (hO.mono (by omega)).kept (grownBy_setCell _ _ _ _) (own_ne hO (by omega)), hD, hN, hV⟩, fun b e => by have := (hO.lt b e).1; omega, ?_⟩
  exact (I.B.trans (hb.mono hz)).setCell (by simp; omega) _

set_option maxRecDepth 20000 in
set_option maxHeartbeats 4000000 in
theorem product_any (ao : Option Addr) (n cap : Nat) (V : Int) (aoM : Option Addr) (k0 capM : Nat) (ls : List (Option Addr × Nat × Nat × Int)) (w : World) (hN : IsNat w ao n V) (hn : n ≤ 1000) (hM : Nats w aoM ls) (hk0 : ls.length = k0) (hkb : k0 ≤ 10) :
    Calls Try.prog 17 #[.agg #[.slice ao n cap], .slice aoM k0 capM] w fun e w' => ∃ ao' m, e = .returned (.agg #[.slice ao' m m]) ∧ IsNat w' ao' m (V * prodN ls) ∧ m ≤ n + 1000 * k0 ∧ Below w.heap.size w w' := by
  obtain ⟨zs, hR, hD, hNz, hV⟩ := hN
  have HV := hide hV
  have HNZ := hide hNz
  clear hV hNz
  obtain ⟨W, hW, hbW, hcA, hcB, hsW⟩ := two_boxes w (.slice ao n cap) (.slice none 0 0) 30
  have hfB : W.frozen? ⟨w.heap.size + 1, 0, none⟩ = false := by rw [hW]; exact frozen_new _ _ _ (by simp)
  have hWs : W.heap.size = w.heap.size + 2 := by rw [hW]; simp
  go_enter Try.func17, Try.ntmps17
  go_wp2_with fail
  rw [← hW]
  clear hW
  refine (of_any ao n cap zs W (hR.kept hbW) (by omega)).mono ?_
  rintro e w1 ⟨aoX, mX, rfl, hO1, hb1⟩
  rw [chop_of_Nz HNZ.out] at hO1
  have hmx : mX = n := by have h1 := hO1.1; have h2 := hR.1; omega
  subst hmx
  have hb2 := below_alloc w1 (.cells #[.slice aoX mX mX] 30)
  have HI : Hid (PrI w w1.heap.size aoX mX (V * prodN (ls.take 0)) (w1.alloc (.cells #[.slice aoX mX mX] 30))) := by
    have hs1 := hb1.size
    have hl : w.heap.size + 1 < w1.heap.size := by omega
    refine hide ⟨by simp, by simp, by simp, ?_, ?_, hl, ⟨zs, (hO1.mono (by omega)).below hb2, hD, HNZ.out, by rw [HV.out]; simp [prodN]⟩, fun b e => by have := (hO1.lt b e).2; omega, ?_⟩
    · exact (cell_old w1 _ hl).trans ((bcell hb1 (by omega)).trans hcB)
    · exact (frozen_old w1 _ hl).trans ((bfrozen hb1 (by omega)).trans hfB)
    · have h1 := hbW.trans (hb1.mono (by omega))
      exact h1.trans (hb2.mono h1.size)
  have HM := hide hM
  clear hO1 hb1 hb2 hbW hcA hcB hfB hWs hsW hR hM hD
  generalize hb5 : w1.heap.size = b5 at *
  go_wp2
  generalize w1.alloc (.cells #[.slice aoX mX mX] 30) = W2 at *
  clear hb5
  go_loopw [13] (fun i wr => ∃ (k : Nat) (aoS : Option Addr) (nS : Nat), i = .int .i64 k ∧ k ≤ k0 ∧ Hid (PrI w b5 aoS nS (V * prodN (ls.take k)) wr) ∧ nS ≤ mX + 1000 * k) (fun i _ => k0 - (intOf i).toNat)
  case atStart => exact ⟨0, aoX, mX, rfl, Nat.zero_le _, HI, by omega⟩
  case round =>
    clear HI
    obtain ⟨k, aoS, nS, rfl, hk, HI, hnS⟩ := hrel
    have c5 := HI.out.c5
    have f5 := HI.out.f5
    have l5 := HI.out.l5
    have c4 := HI.out.c4
    have f4 := HI.out.f4
    have l4 := HI.out.l4
    by_cases hlt : k < k0
    · have hkl : k < ls.length := by omega
      have hk0' : (0 : Int) ≤ (k : Int) := by omega
      have hk1' : (k : Int) < (k0 : Int) := by omega
      have hMr := HM.out.kept HI.out.B
      rcases hMr.1 with h0 | ⟨b, off, rfl, hc⟩
      · rw [h0] at hkl; simp at hkl
      have hck := hc k hkl
      have hmem := hMr.2 ls[k] (List.getElem_mem hkl)
      have hpr := prodN_take ls k hkl
      obtain ⟨x, hx⟩ : ∃ x, x = ls[k] := ⟨_, rfl⟩
      rw [← hx] at hck hmem hpr
      obtain ⟨xa, xn, xc, xv⟩ := x
      dsimp only at hck hmem hpr
      obtain ⟨⟨us, hRU, hDU, hNU, hVU⟩, hxn⟩ := hmem
      obtain ⟨ds, hOS, hDS, hNS, hVS⟩ := HI.out.own
      have hba := below_alloc wr (.cells #[.slice xa xn xc] 30)
      have HMU := hide (multiplied_any aoS xa nS nS xn xc ds us _ (hOS.reads.kept hba) (hRU.kept hba) hDS hDU (by omega) (by omega))
      have HPR := hide (And.intro hpr (And.intro hVU hVS))
      have HBA := hide hba
      have c5a := (cell_old wr (.cells #[.slice xa xn xc] 30) (off := 0) l5).trans c5
      clear hx hc hpr hRU hDU hNU hVU hOS hDS hNS hVS hMr hba
      go_wp2_with fail
      refine (unhide HMU).mono ?_
      rintro e w3 ⟨g, ps, rfl, hO3, hD3, hV3, hb3⟩
      have hb3' := HBA.out.trans (hb3.mono HBA.out.size)
      have HCU := hide (cut_any _ _ _ _ ps w3 hO3 (by omega))
      have HD3 := hide hD3
      have HPL := hide hO3.1
      have HV3 := hide hV3
      have HB3 := hide hb3'
      have c53 := (bcell hb3' (o := 0) l5).trans c5
      have f53 := (bfrozen hb3' (o := 0) l5).trans f5
      clear hO3 hD3 hV3 hb3 hb3' HMU
      go_wp2_with fail
      refine (unhide HCU).mono ?_
      rintro e w4 ⟨ao4, m4, rfl, hO4, _, hw4⟩
      have hw := hw4.symm
      clear hw4
      subst hw
      have hm4 : m4 ≤ nS + xn := by have h1 := hO4.1; have h2 := chop_len ps; have h3 := HPL.out; omega
      have hs : (wr.alloc (.cells #[.slice xa xn xc] 30)).heap.size = wr.heap.size + 1 := by simp
      rw [hs] at hO4
      have HST := hide (HI.out.step HB3.out hO4 (chop_Dg HD3.out) (chop_Nz ps) (show pv 4294967296 (chop ps) = V * prodN (ls.take (k + 1)) by rw [chop_pv, HV3.out, HPR.out.1, HPR.out.2.1, HPR.out.2.2, Int.mul_assoc]))
      clear hO4 hs HCU HPL HB3 HV3 HD3
      go_wp2
      go_roundw
      case rel => exact ⟨k + 1, ao4, m4, by go_num, by omega, HST, by omega⟩
      case measure => simp [intOf]; omega
    · obtain rfl : k = k0 := by omega
      have htk : ls.take k = ls := List.take_of_length_le (by omega)
      have HF : Hid (∃ ds, Own .u32 43 wr (w.heap.size + 2) aoS nS nS ds ∧ Dg 4294967296 ds ∧ Nz ds ∧ pv 4294967296 ds = V * prodN ls) := hide (by have := HI.out.own; rw [htk] at this; exact this)
      have HB := hide HI.out.B
      clear htk HI
      go_wp2
      (try simp only [Exit.inBlock, Exit.then])
      refine bodyPost_ret (v := .agg #[.slice aoS nS nS]) (by simp [results, Try.results17, go_sem, c4]) rfl ?_
      obtain ⟨ds, hO, hD, hN, hV⟩ := HF.out
      refine ⟨aoS, nS, rfl, ⟨ds, (hO.kept (grownBy_setCell _ (w.heap.size + 1) 0 (.slice aoS nS nS)) (own_ne hO (by omega))).reads, hD, hN, hV⟩, by omega, bset HB.out (by omega) _⟩

end Go.Proofs.Ytceofnkjdkbebaa
