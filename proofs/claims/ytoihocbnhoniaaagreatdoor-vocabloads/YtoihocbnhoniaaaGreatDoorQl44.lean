/- The document's Parse: the walk. -/
import Derived.Test.YtoihocbnhoniaaaGreatDoorQl43
import Derived.Test.YtoihocbnhoniaaaGreatDoorQl42
import Derived.Test.YtoihocbnhoniaaaGreatDoorQl8
import Derived.Deep.CutRange
import Derived.Deep.CutBlock
import Derived.BigQuiet
namespace Go.Proofs.YtoihocbnhoniaaaGreatDoor.Wf
open Go.RowKit
set_option linter.unusedVariables false
set_option linter.unusedSimpArgs false

theorem GaI.new {w : World} {p2 p5 : Nat} {aA : Option Addr} {nA cA : Nat} {all : List (List UInt8)} {X : Sv} {s : Sp} {W : World} (h : PaI w p2 p5 aA nA cA all X s W) : GaI w p2 p5 W.heap.size aA nA cA all X s X s (W.alloc (.cells X.cs 28)) := by
  have hp := h.low (low_alloc W (.cells X.cs 28))
  have n2 : W.heap.size ≠ p2 := by have := h.lt2; omega
  have n5 : W.heap.size ≠ p5 := by have := h.lt5; omega
  exact ⟨hp, heap_alloc_new W _, hp.rows, h.bel.size, n2, n5⟩
theorem PaI.start (w w2 : World) {B : Nat} {aA : Option Addr} {nA cA : Nat} {all : List (List UInt8)} (hB : w.heap.size ≤ B) (hr : w2.ownsRow B 9 1 (.slice aA nA cA) nA (tv all)) (hb : Below (w.alloc (.cells Sv.zero.cs 28)).heap.size (w.alloc (.cells Sv.zero.cs 28)) w2) : PaI w w.heap.size w2.heap.size aA nA cA all Sv.zero Sp.zero (w2.alloc (.cells Sv.zero.cs 28)) := by
  have hlo := low_alloc w2 (.cells Sv.zero.cs 28)
  have h1 := low_alloc w (.cells Sv.zero.cs 28)
  have hs : w.heap.size < w2.heap.size := by have := hb.size; rw [alloc_size] at this; omega
  have h0 : w2.heap[w.heap.size]? = some (.cells Sv.zero.cs 28 (0, 0)) := by rw [hb.block _ (by rw [alloc_size]; omega)]; exact heap_alloc_new w _
  have hB2 : Below w.heap.size w w2 := h1.trans (hb.mono h1.size)
  refine ⟨hB2.trans (hlo.mono hB2.size), ⟨Nat.le_refl _, by omega, by omega⟩, (hlo.block _ hs).trans h0, heap_alloc_new w2 _, ⟨rfl, Row.nil _ _ _ _ _, Row.nil _ _ _ _ _, Row.nil _ _ _ _ _, Row.nil _ _ _ _ _, Row.nil _ _ _ _ _⟩, ?_⟩
  have hk := hr.kept (row := none) (w' := w2.alloc (.cells Sv.zero.cs 28)) ⟨hlo.os, hlo.tape, hlo.output, hlo.size, fun k hk _ => hlo.block k hk⟩ (by cases (Value.slice aA nA cA).ownBlock <;> simp)
  refine ⟨hk.1, ?_⟩
  rcases hk.2 with e | ⟨g, c, cur, hv, hg, rest⟩
  · exact Or.inl e
  · exact Or.inr ⟨g, c, cur, hv, Nat.le_trans hB hg, rest⟩
/-- A line of all. -/
theorem PaI.line {w : World} {p2 p5 : Nat} {aA : Option Addr} {nA cA : Nat} {all : List (List UInt8)} {X : Sv} {s : Sp} {W : World} (h : PaI w p2 p5 aA nA cA all X s W) (hn : nA = all.length) {k : Nat} (hk : k < nA) : ∃ g, aA = some ⟨g, 0, none⟩ ∧ g < W.heap.size ∧ ∀ i, i < nA → W.cell? ⟨g, i, none⟩ = some (.string ⟨(all.getD i []).toArray⟩) := by
  obtain ⟨g, c, hv, _, hg⟩ := h.al.form (by omega)
  simp only [Value.slice.injEq] at hv
  obtain ⟨rfl, -, rfl⟩ := hv
  refine ⟨g, rfl, hg, fun i hi => ?_⟩
  rw [h.al.cellAt i (by omega)]
  simp [tv, List.getD_eq_getElem?_getD, List.getElem?_eq_getElem (show i < all.length by omega)]

theorem rlines_any (x : Sv) (s : Sp) (w : World) (h : SpAt w x s) (hb : LnB x s) : Calls Tryz.prog 44 #[.agg x.cs] w fun e w' => LinP w s e w' := by
  cases hx : x.r with
  | true => exact rlines_true x s w h hb hx
  | false => exact rlines_false x s w h hb hx
/-- The worlds behind one. -/
structure ReC (w7 : World) where
  W : World
  h : Below w7.heap.size w7 W

set_option maxRecDepth 20000 in
set_option maxHeartbeats 16000000 in
theorem rparse_any (t : ByteArray) (w : World) (ht : t.size ≤ 3000) :
    Calls Tryz.prog 18 #[.string t] w fun e w' => ∃ X : Sv, e = .returned (.tuple #[.agg X.cs, .int .i64 ((parseP t.data.toList).2.1 : Nat)]) ∧ SpAt w' X (parseP t.data.toList).1 ∧ Below w.heap.size w w' := by
  have hsz : t.data.toList.length = t.size := by rw [Array.length_toList]; rfl
  obtain ⟨l, xl, hl⟩ := cut_last2 10 t.data.toList
  have HP := hide (parseP_cut hl (by omega))
  have hcl := cut_len (c := 10) t.data.toList
  have hct := List.count_le_length (a := 10) (l := t.data.toList)
  have HLL : Hid (∀ y ∈ l ++ [xl], y.length ≤ 3000) := hide (fun y hy => by have := cut_size t 10 y (by rw [hl]; exact hy); omega)
  have K : Calls Tryz.prog 47 #[.string t, .int .u8 10] (w.alloc (.cells Sv.zero.cs 28)) fun e w' => ∃ ao n cap, e = .returned (.slice ao n cap) ∧ n = (cutL 10 t.data.toList).length ∧ w'.ownsRow (w.alloc (.cells Sv.zero.cs 28)).heap.size 9 1 (.slice ao n cap) n (tv (cutL 10 t.data.toList)) ∧ Below (w.alloc (.cells Sv.zero.cs 28)).heap.size (w.alloc (.cells Sv.zero.cs 28)) w' := rcut_any 10 t (by omega) _
  rw [hl] at K hcl
  generalize hall : l ++ [xl] = all at *
  have hL : all.length = l.length + 1 := by rw [← hall]; simp
  have HALL := hide hall
  have hN : all.length ≤ 3001 := by omega
  clear hall hcl hct hl
  go_enter Tryz.func18, Tryz.ntmps18
  go_wp2_with fail
  refine K.mono ?_
  rintro e w2 ⟨aA, nA, cA, rfl, hnA, hrow, hb⟩
  have HS := hide (PaI.start w w2 (by rw [alloc_size]; omega) hrow hb)
  have HNA := hide hnA
  have hnN : nA ≤ 3001 := by omega
  have hnp : 1 ≤ nA := by omega
  have HNL := hide (show nA = l.length + 1 by omega)
  clear K hrow hb hnA hN hL hsz
  go_wp2
  go_loopw [6] (fun i wr => ∃ (k : Nat) (X : Sv) (r : Rd), i = .int .i64 k ∧ k + 1 ≤ nA ∧ Hid (runL rd0 (l.take k) = (r, true)) ∧ Hid (r.Inv ∧ r.n = k) ∧ Hid (PaI w w.heap.size w2.heap.size aA nA cA all X r.sp wr)) (fun i _ => nA - (intOf i).toNat)
  case atStart => exact ⟨0, Sv.zero, rd0, rfl, by omega, hide rfl, hide ⟨rd0_inv, rfl⟩, HS⟩
  case round =>
    clear HS
    obtain ⟨k, X, r, rfl, hk, HRL, HRI, HI⟩ := hrel
    by_cases hlt : k + 1 < nA
    · have hk0 : (0 : Int) ≤ (k : Int) := by omega
      have hk1 : (k : Int) + 1 < (nA : Int) := by omega
      have hk2 : (k : Int) < (nA : Int) := by omega
      obtain ⟨g, rfl, hg, hc⟩ := HI.out.line HNA.out (k := k) (by omega)
      have c0 := hc k (by omega)
      have HC := hide hc
      have hln : (all.getD k []).length ≤ 3000 := mem_getD2 HLL.out [] (by have := HNA.out; omega)
      clear hc
      obtain ⟨line, hlk⟩ : ∃ line, all.getD k [] = line := ⟨_, rfl⟩
      rw [hlk] at c0 hln
      have HLK := hide hlk
      have HCK := hide c0
      have HGLT := hide hg
      clear hlk
      have K : Calls Tryz.prog 47 #[.string ⟨line.toArray⟩, .int .u8 32] wr fun e w' => ∃ ao n cap, e = .returned (.slice ao n cap) ∧ n = (cutL 32 line).length ∧ w'.ownsRow wr.heap.size 9 1 (.slice ao n cap) n (tv (cutL 32 line)) ∧ Below wr.heap.size wr w' := rcut_any 32 ⟨line.toArray⟩ (by simp [ByteArray.size]; omega) wr
      go_wp2_with fail
      refine K.mono ?_
      rintro e w4 ⟨aw, nw, cw, rfl, hnw, hww, hb4⟩
      have HI4 := hide (HI.out.low hb4)
      obtain ⟨x0, x1, x2, x3, x4, x5⟩ := box_cells HI4.out.b5
      have HW := hide hww
      have HNW := hide hnw
      have hw0 : 0 < nw := by
        have := cut_ne 32 line
        rcases Nat.eq_zero_or_pos nw with h0 | h0
        · rw [h0] at hnw; exact absurd (List.eq_nil_of_length_eq_zero hnw.symm) this
        · exact h0
      have hwl : (0 : Int) < (nw : Int) := by omega
      have HWR := hide (RdT.of_row hww hnw.symm)
      obtain ⟨gw, cgw, hvw, _, hgw⟩ := hww.form hw0
      simp only [Value.slice.injEq] at hvw
      obtain ⟨rfl, -, rfl⟩ := hvw
      have cw0 : w4.cell? ⟨gw, 0, none⟩ = some (.string ⟨((cutL 32 line).headD []).toArray⟩) := by
        rw [hww.cellAt 0 (by omega)]
        have := cut_ne 32 line
        cases hcc : cutL 32 line with
        | nil => exact absurd hcc this
        | cons a b => simp [tv]
      have HGN := hide (GaI.new HI4.out)
      have hgw2 : gw < w4.heap.size := hgw
      have KD : Hid (kd line = kindL ((cutL 32 line).headD [])) := hide rfl
      have HWA := hide (low_alloc w4 (.cells X.cs 28))
      have HWR2 := hide (hb4.trans ((low_alloc w4 (.cells X.cs 28)).mono hb4.size))
      have HSZ : Hid (∀ i, i < nw → (gT (bt (cutL 32 line)) i).size ≤ 1000000) := hide (fun i hi => by
        have hil : i < (cutL 32 line).length := by have := HNW.out; omega
        have h1 := cut_mem_len 32 line _ (List.getElem_mem hil)
        have h2 : (gT (bt (cutL 32 line)) i) = ⟨((cutL 32 line)[i]).toArray⟩ := by simp [gT, bt, List.getD_eq_getElem?_getD, List.getElem?_eq_getElem hil]
        rw [h2]
        simp only [ByteArray.size, List.size_toArray]
        omega)
      have HXN : Hid (X.n1 ≤ 744 ∧ X.n2 ≤ 744 ∧ X.n3 ≤ 744 ∧ X.n4 ≤ 744 ∧ X.n5 ≤ 744) := hide (by
        have hR := HRI.out.1.right
        have hrm : roomM r.sp.ranked ≤ 744 := by unfold roomM; split <;> omega
        have hrt : roomT r.sp.ranked ≤ 744 := by unfold roomT; split <;> omega
        have q1 := hR.nm
        have q2 := hR.nt
        have q3 := hR.ns
        have q4 := hR.nc
        have q5 := hR.nj
        have l1 := HI4.out.rows.m1.len
        have l2 := HI4.out.rows.m2.len
        have l3 := HI4.out.rows.m3.len
        have l4 := HI4.out.rows.m4.len
        have l5 := HI4.out.rows.m5.len
        omega)
      generalize (cutL 32 line).headD [] = f at *
      clear hww hnw K c0 hb4
      go_upto_block 2 with fail
      generalize w4.alloc (.cells X.cs 28) = WA at *
      clear x0 x1 x2 x3 x4 x5 cw0
      go_cut [] from 13 to 132 (fun wx => ∃ Y : Sv, Hid (GaI w w.heap.size w2.heap.size w4.heap.size (some ⟨g, 0, none⟩) nA cA all X r.sp Y (gat r.sp line) wx))
      case first =>
        rcases kind_of (rfl : kindL f = kindL f) with ⟨_, hf⟩ | ⟨_, hf⟩ | ⟨_, hf⟩ | ⟨_, hf⟩ | ⟨_, hf⟩ | ⟨_, hf⟩ | hf
        · replace hf : f = [118, 111, 99, 97, 98] := hf
          subst hf
          have HGT := hide (gat_0 (s := r.sp) (line := line) (by rw [KD.out]; decide))
          have hbz : (line == [118, 111, 99, 97, 98, 32, 114, 97, 110, 107, 115]) = decide (line = lV true) := by
            rw [Bool.eq_iff_iff]
            simp only [beq_iff_eq, decide_eq_true_eq]
            exact Iff.rfl
          generalize decide (line = lV true) = z at *
          have ck : WA.cell? ⟨g, k, none⟩ = some (.string ⟨line.toArray⟩) := (bcell HWR2.out HGLT.out).trans HCK.out
          have z1 : WA.cell? ⟨w4.heap.size, 0, none⟩ = some (.bool X.r) := Lib.cell_of_heap HGN.out.b8 0
          have z2 : WA.frozen? ⟨w4.heap.size, 0, none⟩ = false := Lib.frozen_of_heap HGN.out.b8 0
          have HGF := hide (HGN.out.set0 z)
          rw [← HGT.out] at HGF
          go_wp2
          go_meet
          case rel => exact ⟨_, HGF⟩
        · replace hf : f = [109, 101, 114, 103, 101] := hf
          subst hf
          obtain ⟨i0, hii, hz0, hz1, hz2⟩ := info_parts info_M
          have HGT := hide (gat_1 (s := r.sp) (line := line) (by rw [KD.out]; decide))
          have hxn : X.n1 ≤ 100000 := by have := HXN.out; omega
          obtain ⟨a2, c2, W2, hrun1, hrow1, hb1⟩ := app_c1 (t := 22) (e := eM) Tryz.underlying22 hii hz0 hz1 hz2 rfl (by omega) (by omega) (fun _ => rfl) (fun a => one_M a) HGN.out.rows.m1 hxn
          have HRUN1 := hide hrun1
          have HROW1 := hide hrow1
          have HB1 := hide hb1
          have y1 : (WA.alloc (.cells #[] 70)).cell? ⟨w2.heap.size, 1, none⟩ = some (.slice X.a1 X.n1 X.c1) := (bcell (low_alloc _ _) HGN.out.pa.lt5).trans (Lib.cell_of_heap HGN.out.pa.b5 1)
          clear hrun1 hrow1 hb1
          go_wp2_with (at_builtin; refine Lib.wpList_append_run _ rfl _ _ _ _ rfl _ _ rfl rfl _ _ HRUN1.out ?_)
          have HBB := HB1
          have HW2 : Hid (Below w4.heap.size w4 W2) := hide (HWA.out.trans (HB1.out.mono HWA.out.size))
          have KC := rat_any (some ⟨gw, 0, none⟩) nw cw 1 (bt (cutL 32 line)) W2 (HWR.out.kept HW2.out) HSZ.out (by omega)
          rw [atP_eq] at KC
          refine KC.mono ?_
          rintro e V2 ⟨rfl, hbc⟩
          have HBB := hide (HBB.out.trans (hbc.mono HBB.out.size))
          have HW3 := hide (HW2.out.trans (hbc.mono HW2.out.size))
          have HROW1 := hide (HROW1.out.low hbc)
          clear KC hbc
          have KC := rat_any (some ⟨gw, 0, none⟩) nw cw 2 (bt (cutL 32 line)) V2 (HWR.out.kept HW3.out) HSZ.out (by omega)
          rw [atP_eq] at KC
          go_wp2_with fail
          refine KC.mono ?_
          rintro e V3 ⟨rfl, hbc⟩
          have HBB := hide (HBB.out.trans (hbc.mono HBB.out.size))
          have HW4 := hide (HW3.out.trans (hbc.mono HW3.out.size))
          have HROW1 := hide (HROW1.out.low hbc)
          clear KC hbc
          obtain ⟨g6, c6, W6, hrun2, hrow2, hb6⟩ := app_c2 (t := 22) (e := eM) Tryz.underlying22 hii hz0 hz1 hz2 rfl (by omega) (by omega) (fun _ => rfl) (fun a => one_M a) HROW1.out HBB.out.size hxn (atW (cutL 32 line) 1, atW (cutL 32 line) 2) #[Value.int .i64 (atW (cutL 32 line) 1), Value.int .i64 (atW (cutL 32 line) 2)] rfl
          have HRUN2 := hide hrun2
          have HB6 := hide (HBB.out.trans hb6)
          have HG6 := HGN.out.low HB6.out
          have z1 : W6.cell? ⟨w4.heap.size, 1, none⟩ = some (.slice X.a1 X.n1 X.c1) := Lib.cell_of_heap HG6.b8 1
          have z2 : W6.frozen? ⟨w4.heap.size, 1, none⟩ = false := Lib.frozen_of_heap HG6.b8 1
          have HGF := hide (HGN.out.set1 (atW (cutL 32 line) 1, atW (cutL 32 line) 2) HB6.out hrow2)
          rw [← HGT.out] at HGF
          clear hrun2 hrow2 hb6 HG6 y1
          go_wp2_with (at_builtin; refine Lib.wpList_append_run _ rfl _ _ _ _ rfl _ _ rfl rfl _ _ HRUN2.out ?_)
          go_meet
          case rel => exact ⟨_, HGF⟩
        · replace hf : f = [116, 111, 107, 101, 110] := hf
          subst hf
          obtain ⟨i0, hii, hz0, hz1, hz2⟩ := info_parts info_text
          have HGT := hide (gat_2 (s := r.sp) (line := line) (by rw [KD.out]; decide))
          have hxn : X.n2 ≤ 100000 := by have := HXN.out; omega
          obtain ⟨a2, c2, W2, hrun1, hrow1, hb1⟩ := app_c1 (t := 23) (e := eT) Tryz.underlying23 hii hz0 hz1 hz2 rfl (by omega) (by omega) (fun _ => rfl) (fun a u hu => by simp only [eT, List.mem_cons, List.not_mem_nil, or_false] at hu; subst hu; rfl) HGN.out.rows.m2 hxn
          have HRUN1 := hide hrun1
          have HROW1 := hide hrow1
          have HB1 := hide hb1
          have y1 : (WA.alloc (.cells #[] 9)).cell? ⟨w2.heap.size, 2, none⟩ = some (.slice X.a2 X.n2 X.c2) := (bcell (low_alloc _ _) HGN.out.pa.lt5).trans (Lib.cell_of_heap HGN.out.pa.b5 2)
          clear hrun1 hrow1 hb1
          go_wp2_with (at_builtin; refine Lib.wpList_append_run _ rfl _ _ _ _ rfl _ _ rfl rfl _ _ HRUN1.out ?_)
          have HBB := HB1
          have HW2 : Hid (Below w4.heap.size w4 W2) := hide (HWA.out.trans (HB1.out.mono HWA.out.size))
          have KC := rhex_any (some ⟨gw, 0, none⟩) nw cw 1 (bt (cutL 32 line)) W2 (HWR.out.kept HW2.out) HSZ.out (by omega)
          rw [hexP_eq] at KC
          refine KC.mono ?_
          rintro e V2 ⟨rfl, hbc⟩
          have HBB := hide (HBB.out.trans (hbc.mono HBB.out.size))
          have HW3 := hide (HW2.out.trans (hbc.mono HW2.out.size))
          have HROW1 := hide (HROW1.out.low hbc)
          clear KC hbc
          obtain ⟨g6, c6, W6, hrun2, hrow2, hb6⟩ := app_c2 (t := 23) (e := eT) Tryz.underlying23 hii hz0 hz1 hz2 rfl (by omega) (by omega) (fun _ => rfl) (fun a u hu => by simp only [eT, List.mem_cons, List.not_mem_nil, or_false] at hu; subst hu; rfl) HROW1.out HBB.out.size hxn (hexW (cutL 32 line) 1) #[Value.string (hexW (cutL 32 line) 1)] rfl
          have HRUN2 := hide hrun2
          have HB6 := hide (HBB.out.trans hb6)
          have HG6 := HGN.out.low HB6.out
          have z1 : W6.cell? ⟨w4.heap.size, 2, none⟩ = some (.slice X.a2 X.n2 X.c2) := Lib.cell_of_heap HG6.b8 2
          have z2 : W6.frozen? ⟨w4.heap.size, 2, none⟩ = false := Lib.frozen_of_heap HG6.b8 2
          have HGF := hide (HGN.out.set2 (hexW (cutL 32 line) 1) HB6.out hrow2)
          rw [← HGT.out] at HGF
          clear hrun2 hrow2 hb6 HG6 y1
          go_wp2_with (at_builtin; refine Lib.wpList_append_run _ rfl _ _ _ _ rfl _ _ rfl rfl _ _ HRUN2.out ?_)
          go_meet
          case rel => exact ⟨_, HGF⟩
        · replace hf : f = [115, 112, 101, 99, 105, 97, 108] := hf
          subst hf
          obtain ⟨i0, hii, hz0, hz1, hz2⟩ := info_parts info_S
          have HGT := hide (gat_3 (s := r.sp) (line := line) (by rw [KD.out]; decide))
          have hxn : X.n3 ≤ 100000 := by have := HXN.out; omega
          obtain ⟨a2, c2, W2, hrun1, hrow1, hb1⟩ := app_c1 (t := 24) (e := eS) Tryz.underlying24 hii hz0 hz1 hz2 rfl (by omega) (by omega) (fun _ => rfl) (fun a => one_S a) HGN.out.rows.m3 hxn
          have HRUN1 := hide hrun1
          have HROW1 := hide hrow1
          have HB1 := hide hb1
          have y1 : (WA.alloc (.cells #[] 67)).cell? ⟨w2.heap.size, 3, none⟩ = some (.slice X.a3 X.n3 X.c3) := (bcell (low_alloc _ _) HGN.out.pa.lt5).trans (Lib.cell_of_heap HGN.out.pa.b5 3)
          clear hrun1 hrow1 hb1
          go_wp2_with (at_builtin; refine Lib.wpList_append_run _ rfl _ _ _ _ rfl _ _ rfl rfl _ _ HRUN1.out ?_)
          have HBB := HB1
          have HW2 : Hid (Below w4.heap.size w4 W2) := hide (HWA.out.trans (HB1.out.mono HWA.out.size))
          have KC := rat_any (some ⟨gw, 0, none⟩) nw cw 1 (bt (cutL 32 line)) W2 (HWR.out.kept HW2.out) HSZ.out (by omega)
          rw [atP_eq] at KC
          refine KC.mono ?_
          rintro e V2 ⟨rfl, hbc⟩
          have HBB := hide (HBB.out.trans (hbc.mono HBB.out.size))
          have HW3 := hide (HW2.out.trans (hbc.mono HW2.out.size))
          have HROW1 := hide (HROW1.out.low hbc)
          clear KC hbc
          have KC := rhex_any (some ⟨gw, 0, none⟩) nw cw 2 (bt (cutL 32 line)) V2 (HWR.out.kept HW3.out) HSZ.out (by omega)
          rw [hexP_eq] at KC
          go_wp2_with fail
          refine KC.mono ?_
          rintro e V3 ⟨rfl, hbc⟩
          have HBB := hide (HBB.out.trans (hbc.mono HBB.out.size))
          have HW4 := hide (HW3.out.trans (hbc.mono HW3.out.size))
          have HROW1 := hide (HROW1.out.low hbc)
          clear KC hbc
          obtain ⟨g6, c6, W6, hrun2, hrow2, hb6⟩ := app_c2 (t := 24) (e := eS) Tryz.underlying24 hii hz0 hz1 hz2 rfl (by omega) (by omega) (fun _ => rfl) (fun a => one_S a) HROW1.out HBB.out.size hxn (atW (cutL 32 line) 1, hexW (cutL 32 line) 2) #[Value.int .i64 (atW (cutL 32 line) 1), Value.string (hexW (cutL 32 line) 2)] rfl
          have HRUN2 := hide hrun2
          have HB6 := hide (HBB.out.trans hb6)
          have HG6 := HGN.out.low HB6.out
          have z1 : W6.cell? ⟨w4.heap.size, 3, none⟩ = some (.slice X.a3 X.n3 X.c3) := Lib.cell_of_heap HG6.b8 3
          have z2 : W6.frozen? ⟨w4.heap.size, 3, none⟩ = false := Lib.frozen_of_heap HG6.b8 3
          have HGF := hide (HGN.out.set3 (atW (cutL 32 line) 1, hexW (cutL 32 line) 2) HB6.out hrow2)
          rw [← HGT.out] at HGF
          clear hrun2 hrow2 hb6 HG6 y1
          go_wp2_with (at_builtin; refine Lib.wpList_append_run _ rfl _ _ _ _ rfl _ _ rfl rfl _ _ HRUN2.out ?_)
          go_meet
          case rel => exact ⟨_, HGF⟩
        · replace hf : f = [99, 108, 97, 115, 115] := hf
          subst hf
          obtain ⟨i0, hii, hz0, hz1, hz2⟩ := info_parts info_C
          have HGT := hide (gat_4 (s := r.sp) (line := line) (by rw [KD.out]; decide))
          have hxn : X.n4 ≤ 100000 := by have := HXN.out; omega
          obtain ⟨a2, c2, W2, hrun1, hrow1, hb1⟩ := app_c1 (t := 25) (e := eC) Tryz.underlying25 hii hz0 hz1 hz2 rfl (by omega) (by omega) (fun _ => rfl) (fun a => one_C a) HGN.out.rows.m4 hxn
          have HRUN1 := hide hrun1
          have HROW1 := hide hrow1
          have HB1 := hide hb1
          have y1 : (WA.alloc (.cells #[] 72)).cell? ⟨w2.heap.size, 4, none⟩ = some (.slice X.a4 X.n4 X.c4) := (bcell (low_alloc _ _) HGN.out.pa.lt5).trans (Lib.cell_of_heap HGN.out.pa.b5 4)
          clear hrun1 hrow1 hb1
          go_wp2_with (at_builtin; refine Lib.wpList_append_run _ rfl _ _ _ _ rfl _ _ rfl rfl _ _ HRUN1.out ?_)
          have HBB := HB1
          have HW2 : Hid (Below w4.heap.size w4 W2) := hide (HWA.out.trans (HB1.out.mono HWA.out.size))
          have KC := rat_any (some ⟨gw, 0, none⟩) nw cw 1 (bt (cutL 32 line)) W2 (HWR.out.kept HW2.out) HSZ.out (by omega)
          rw [atP_eq] at KC
          refine KC.mono ?_
          rintro e V2 ⟨rfl, hbc⟩
          have HBB := hide (HBB.out.trans (hbc.mono HBB.out.size))
          have HW3 := hide (HW2.out.trans (hbc.mono HW2.out.size))
          have HROW1 := hide (HROW1.out.low hbc)
          clear KC hbc
          have KC := rat_any (some ⟨gw, 0, none⟩) nw cw 2 (bt (cutL 32 line)) V2 (HWR.out.kept HW3.out) HSZ.out (by omega)
          rw [atP_eq] at KC
          go_wp2_with fail
          refine KC.mono ?_
          rintro e V3 ⟨rfl, hbc⟩
          have HBB := hide (HBB.out.trans (hbc.mono HBB.out.size))
          have HW4 := hide (HW3.out.trans (hbc.mono HW3.out.size))
          have HROW1 := hide (HROW1.out.low hbc)
          clear KC hbc
          have KC := rat_any (some ⟨gw, 0, none⟩) nw cw 3 (bt (cutL 32 line)) V3 (HWR.out.kept HW4.out) HSZ.out (by omega)
          rw [atP_eq] at KC
          go_wp2_with fail
          refine KC.mono ?_
          rintro e V4 ⟨rfl, hbc⟩
          have HBB := hide (HBB.out.trans (hbc.mono HBB.out.size))
          have HW5 := hide (HW4.out.trans (hbc.mono HW4.out.size))
          have HROW1 := hide (HROW1.out.low hbc)
          clear KC hbc
          obtain ⟨g6, c6, W6, hrun2, hrow2, hb6⟩ := app_c2 (t := 25) (e := eC) Tryz.underlying25 hii hz0 hz1 hz2 rfl (by omega) (by omega) (fun _ => rfl) (fun a => one_C a) HROW1.out HBB.out.size hxn (atW (cutL 32 line) 1, atW (cutL 32 line) 2, atW (cutL 32 line) 3) #[Value.int .i64 (atW (cutL 32 line) 1), Value.int .i64 (atW (cutL 32 line) 2), Value.int .i64 (atW (cutL 32 line) 3)] rfl
          have HRUN2 := hide hrun2
          have HB6 := hide (HBB.out.trans hb6)
          have HG6 := HGN.out.low HB6.out
          have z1 : W6.cell? ⟨w4.heap.size, 4, none⟩ = some (.slice X.a4 X.n4 X.c4) := Lib.cell_of_heap HG6.b8 4
          have z2 : W6.frozen? ⟨w4.heap.size, 4, none⟩ = false := Lib.frozen_of_heap HG6.b8 4
          have HGF := hide (HGN.out.set4 (atW (cutL 32 line) 1, atW (cutL 32 line) 2, atW (cutL 32 line) 3) HB6.out hrow2)
          rw [← HGT.out] at HGF
          clear hrun2 hrow2 hb6 HG6 y1
          go_wp2_with (at_builtin; refine Lib.wpList_append_run _ rfl _ _ _ _ rfl _ _ rfl rfl _ _ HRUN2.out ?_)
          go_meet
          case rel => exact ⟨_, HGF⟩
        · replace hf : f = [106, 111, 105, 110] := hf
          subst hf
          obtain ⟨i0, hii, hz0, hz1, hz2⟩ := info_parts info_J
          have HGT := hide (gat_5 (s := r.sp) (line := line) (by rw [KD.out]; decide))
          have hxn : X.n5 ≤ 100000 := by have := HXN.out; omega
          obtain ⟨a2, c2, W2, hrun1, hrow1, hb1⟩ := app_c1 (t := 26) (e := eM) Tryz.underlying26 hii hz0 hz1 hz2 rfl (by omega) (by omega) (fun _ => rfl) (fun a => one_J a) HGN.out.rows.m5 hxn
          have HRUN1 := hide hrun1
          have HROW1 := hide hrow1
          have HB1 := hide hb1
          have y1 : (WA.alloc (.cells #[] 93)).cell? ⟨w2.heap.size, 5, none⟩ = some (.slice X.a5 X.n5 X.c5) := (bcell (low_alloc _ _) HGN.out.pa.lt5).trans (Lib.cell_of_heap HGN.out.pa.b5 5)
          clear hrun1 hrow1 hb1
          go_wp2_with (at_builtin; refine Lib.wpList_append_run _ rfl _ _ _ _ rfl _ _ rfl rfl _ _ HRUN1.out ?_)
          have HBB := HB1
          have HW2 : Hid (Below w4.heap.size w4 W2) := hide (HWA.out.trans (HB1.out.mono HWA.out.size))
          have KC := rat_any (some ⟨gw, 0, none⟩) nw cw 1 (bt (cutL 32 line)) W2 (HWR.out.kept HW2.out) HSZ.out (by omega)
          rw [atP_eq] at KC
          refine KC.mono ?_
          rintro e V2 ⟨rfl, hbc⟩
          have HBB := hide (HBB.out.trans (hbc.mono HBB.out.size))
          have HW3 := hide (HW2.out.trans (hbc.mono HW2.out.size))
          have HROW1 := hide (HROW1.out.low hbc)
          clear KC hbc
          have KC := rat_any (some ⟨gw, 0, none⟩) nw cw 2 (bt (cutL 32 line)) V2 (HWR.out.kept HW3.out) HSZ.out (by omega)
          rw [atP_eq] at KC
          go_wp2_with fail
          refine KC.mono ?_
          rintro e V3 ⟨rfl, hbc⟩
          have HBB := hide (HBB.out.trans (hbc.mono HBB.out.size))
          have HW4 := hide (HW3.out.trans (hbc.mono HW3.out.size))
          have HROW1 := hide (HROW1.out.low hbc)
          clear KC hbc
          obtain ⟨g6, c6, W6, hrun2, hrow2, hb6⟩ := app_c2 (t := 26) (e := eM) Tryz.underlying26 hii hz0 hz1 hz2 rfl (by omega) (by omega) (fun _ => rfl) (fun a => one_J a) HROW1.out HBB.out.size hxn (atW (cutL 32 line) 1, atW (cutL 32 line) 2) #[Value.int .i64 (atW (cutL 32 line) 1), Value.int .i64 (atW (cutL 32 line) 2)] rfl
          have HRUN2 := hide hrun2
          have HB6 := hide (HBB.out.trans hb6)
          have HG6 := HGN.out.low HB6.out
          have z1 : W6.cell? ⟨w4.heap.size, 5, none⟩ = some (.slice X.a5 X.n5 X.c5) := Lib.cell_of_heap HG6.b8 5
          have z2 : W6.frozen? ⟨w4.heap.size, 5, none⟩ = false := Lib.frozen_of_heap HG6.b8 5
          have HGF := hide (HGN.out.set5 (atW (cutL 32 line) 1, atW (cutL 32 line) 2) HB6.out hrow2)
          rw [← HGT.out] at HGF
          clear hrun2 hrow2 hb6 HG6 y1
          go_wp2_with (at_builtin; refine Lib.wpList_append_run _ rfl _ _ _ _ rfl _ _ rfl rfl _ _ HRUN2.out ?_)
          go_meet
          case rel => exact ⟨_, HGF⟩
        · have HGT := hide (gat_6 (s := r.sp) (line := line) (by rw [KD.out]; omega))
          have f0 : (f == [118, 111, 99, 97, 98]) = false := by rw [beq_eq_false_iff_ne]; intro e; subst e; exact absurd hf (by decide)
          have f1 : (f == [109, 101, 114, 103, 101]) = false := by rw [beq_eq_false_iff_ne]; intro e; subst e; exact absurd hf (by decide)
          have f2 : (f == [116, 111, 107, 101, 110]) = false := by rw [beq_eq_false_iff_ne]; intro e; subst e; exact absurd hf (by decide)
          have f3 : (f == [115, 112, 101, 99, 105, 97, 108]) = false := by rw [beq_eq_false_iff_ne]; intro e; subst e; exact absurd hf (by decide)
          have f4 : (f == [99, 108, 97, 115, 115]) = false := by rw [beq_eq_false_iff_ne]; intro e; subst e; exact absurd hf (by decide)
          have f5 : (f == [106, 111, 105, 110]) = false := by rw [beq_eq_false_iff_ne]; intro e; subst e; exact absurd hf (by decide)
          have HGF : Hid (GaI w w.heap.size w2.heap.size w4.heap.size (some ⟨g, 0, none⟩) nA cA all X r.sp X (gat r.sp line) WA) := hide (by rw [HGT.out]; exact HGN.out)
          clear hf
          go_wp2
          go_meet
          case rel => exact ⟨_, HGF⟩
      case rest =>
        obtain ⟨Y, HG⟩ := hcut
        have HST := hide (step_same (line := line) HRI.out.1 HRL.out)
        have HLB := lnb_gat HRI.out.1.right (by have := hln; omega) HG.out.rows
        have KL := rlines_any Y (gat r.sp line) wc HG.out.rows.spec HLB
        have z0 : wc.cell? ⟨w4.heap.size, 0, none⟩ = some (.bool Y.r) := Lib.cell_of_heap HG.out.b8 0
        have z1 : wc.cell? ⟨w4.heap.size, 1, none⟩ = some (.slice Y.a1 Y.n1 Y.c1) := Lib.cell_of_heap HG.out.b8 1
        have z2 : wc.cell? ⟨w4.heap.size, 2, none⟩ = some (.slice Y.a2 Y.n2 Y.c2) := Lib.cell_of_heap HG.out.b8 2
        have z3 : wc.cell? ⟨w4.heap.size, 3, none⟩ = some (.slice Y.a3 Y.n3 Y.c3) := Lib.cell_of_heap HG.out.b8 3
        have z4 : wc.cell? ⟨w4.heap.size, 4, none⟩ = some (.slice Y.a4 Y.n4 Y.c4) := Lib.cell_of_heap HG.out.b8 4
        have z5 : wc.cell? ⟨w4.heap.size, 5, none⟩ = some (.slice Y.a5 Y.n5 Y.c5) := Lib.cell_of_heap HG.out.b8 5
        clear HLB
        go_wp2_with fail
        refine KL.mono ?_
        rintro e w7 ⟨⟨ap, cp, rfl, hrp⟩, hb7⟩
        have HG7 := hide (HG.out.low hb7)
        have HRP := hide hrp
        have HWC7 := hide ((HG.out.pa.bel).trans (hb7.mono HG.out.pa.bel.size))
        clear KL z0 z1 z2 z3 z4 z5 hb7 hrp
        have HCL := hide (HG7.out.pa.line HNA.out (k := k) (by omega))
        have KR := hide (fun (p : ReC w7) => (rright_any Y (gat r.sp line) p.W (HG7.out.low p.h).rows.spec).mono (R' := fun e w' => e = .returned (.bool (rightB (gat r.sp line))) ∧ ∃ p' : ReC w7, w' = p'.W) (fun e w' ⟨he, hb⟩ => ⟨he, ⟨w', p.h.trans (hb.mono p.h.size)⟩, rfl⟩))
        have e0 : ∀ p : ReC w7, p.W.cell? ⟨w4.heap.size, 0, none⟩ = some (.bool Y.r) := fun p => Lib.cell_of_heap (HG7.out.low p.h).b8 0
        have e1 : ∀ p : ReC w7, p.W.cell? ⟨w4.heap.size, 1, none⟩ = some (.slice Y.a1 Y.n1 Y.c1) := fun p => Lib.cell_of_heap (HG7.out.low p.h).b8 1
        have e2 : ∀ p : ReC w7, p.W.cell? ⟨w4.heap.size, 2, none⟩ = some (.slice Y.a2 Y.n2 Y.c2) := fun p => Lib.cell_of_heap (HG7.out.low p.h).b8 2
        have e3 : ∀ p : ReC w7, p.W.cell? ⟨w4.heap.size, 3, none⟩ = some (.slice Y.a3 Y.n3 Y.c3) := fun p => Lib.cell_of_heap (HG7.out.low p.h).b8 3
        have e4 : ∀ p : ReC w7, p.W.cell? ⟨w4.heap.size, 4, none⟩ = some (.slice Y.a4 Y.n4 Y.c4) := fun p => Lib.cell_of_heap (HG7.out.low p.h).b8 4
        have e5 : ∀ p : ReC w7, p.W.cell? ⟨w4.heap.size, 5, none⟩ = some (.slice Y.a5 Y.n5 Y.c5) := fun p => Lib.cell_of_heap (HG7.out.low p.h).b8 5
        have ek : ∀ p : ReC w7, p.W.cell? ⟨g, k, none⟩ = some (.string ⟨line.toArray⟩) := fun p => by
          obtain ⟨g', hg', hlt', hc'⟩ := HCL.out
          simp only [Option.some.injEq, Addr.mk.injEq, and_true] at hg'
          subst hg'
          have := hc' k (by omega)
          rw [HLK.out] at this
          exact (bcell p.h hlt').trans this
        have ne : Nonempty (ReC w7) := ⟨⟨w7, Below.refl _ _⟩⟩
        have hRI := rightB_iff (gat r.sp line)
        have HRB := hide hRI
        clear hRI
        generalize rightB (gat r.sp line) = rb at *
        have HLs := hide (rfl : (gat r.sp line).lines = (gat r.sp line).lines)
        generalize hls : (gat r.sp line).lines = ls at *
        have HLS := hide hls
        clear hls HLs
        obtain ⟨np, hnp'⟩ : ∃ np, ls.length = np := ⟨_, rfl⟩
        have HNP := hide hnp'
        rw [hnp'] at HRP ⊢
        clear hnp'
        have hrun : Hid (r.n = k) := hide HRI.out.2
        cases rb with
        | false =>
          have HBAD : Hid (¬ ((gat r.sp line).Right ∧ (gat r.sp line).lines.length = r.n + 1 ∧ (gat r.sp line).lines.getLast? = some line)) := hide (fun hx => absurd (HRB.out.2 hx.1) (by decide))
          go_wp2
          refine region_class (α := ReC w7) ReC.W (by kernel_rfl) (by kernel_rfl) ⟨w7.drew, below_drew (Below.refl _ _)⟩ rfl ?_
          repeat (go_big_quiet_step ((go_at_call 39; exact KR.out _)))
          refine wpQuiet_nil ?_
          intro W8 hw'
          have hW8 : Below w7.heap.size w7 W8 := by
            obtain ⟨⟨Wx, hx⟩, e⟩ := hw'
            rw [e]
            exact hx
          clear hw'
          have HG8 := hide (HG7.out.low hW8)
          clear e0 e1 e2 e3 e4 e5 ek ne
          have HPE : Hid (parseP t.data.toList = (Sp.zero, k + 1, 2)) := hide (by
            rcases HST.out with ⟨s1, s2, s3, _⟩ | ⟨_, hno⟩
            · exact absurd ⟨s1, by rw [HLS.out]; exact s2, by rw [HLS.out]; exact s3⟩ HBAD.out
            · have hkl : k < l.length := by have := HNL.out; omega
              have hgl : l.getD k [] = line := by rw [← HLK.out, ← HALL.out, List.getD_eq_getElem?_getD, List.getD_eq_getElem?_getD, List.getElem?_append_left hkl]
              have h1 := runL_stop hkl HRL.out (by rw [hgl]; exact hno)
              rw [HP.out]
              unfold parseC
              simp only [h1, HRI.out.2]
              rfl)
          have HPF := hide HG8.out.pa
          have hb2 := HPF.out.b2
          have p0 : W8.cell? ⟨w.heap.size, 0, none⟩ = some (.bool false) := Lib.cell_of_heap hb2 0
          have p1 : W8.cell? ⟨w.heap.size, 1, none⟩ = some (.slice none 0 0) := Lib.cell_of_heap hb2 1
          have p2 : W8.cell? ⟨w.heap.size, 2, none⟩ = some (.slice none 0 0) := Lib.cell_of_heap hb2 2
          have p3 : W8.cell? ⟨w.heap.size, 3, none⟩ = some (.slice none 0 0) := Lib.cell_of_heap hb2 3
          have p4 : W8.cell? ⟨w.heap.size, 4, none⟩ = some (.slice none 0 0) := Lib.cell_of_heap hb2 4
          have p5 : W8.cell? ⟨w.heap.size, 5, none⟩ = some (.slice none 0 0) := Lib.cell_of_heap hb2 5
          have pf0 : W8.frozen? ⟨w.heap.size, 0, none⟩ = false := Lib.frozen_of_heap hb2 0
          have pf1 : W8.frozen? ⟨w.heap.size, 1, none⟩ = false := Lib.frozen_of_heap hb2 1
          have pf2 : W8.frozen? ⟨w.heap.size, 2, none⟩ = false := Lib.frozen_of_heap hb2 2
          have pf3 : W8.frozen? ⟨w.heap.size, 3, none⟩ = false := Lib.frozen_of_heap hb2 3
          have pf4 : W8.frozen? ⟨w.heap.size, 4, none⟩ = false := Lib.frozen_of_heap hb2 4
          have pf5 : W8.frozen? ⟨w.heap.size, 5, none⟩ = false := Lib.frozen_of_heap hb2 5
          have HB9 : Hid (Below w.heap.size w ((((((W8.setCell ⟨w.heap.size, 0, none⟩ (.bool false)).setCell ⟨w.heap.size, 1, none⟩ (.slice none 0 0)).setCell ⟨w.heap.size, 2, none⟩ (.slice none 0 0)).setCell ⟨w.heap.size, 3, none⟩ (.slice none 0 0)).setCell ⟨w.heap.size, 4, none⟩ (.slice none 0 0)).setCell ⟨w.heap.size, 5, none⟩ (.slice none 0 0))) := hide (put6_below HPF.out.bel (Nat.le_refl _) Sv.zero)
          have HG9 : Hid ((((((((W8.setCell ⟨w.heap.size, 0, none⟩ (.bool false)).setCell ⟨w.heap.size, 1, none⟩ (.slice none 0 0)).setCell ⟨w.heap.size, 2, none⟩ (.slice none 0 0)).setCell ⟨w.heap.size, 3, none⟩ (.slice none 0 0)).setCell ⟨w.heap.size, 4, none⟩ (.slice none 0 0)).setCell ⟨w.heap.size, 5, none⟩ (.slice none 0 0))).cell? ⟨w.heap.size, 0, none⟩ = some (.bool false) ∧ (((((((W8.setCell ⟨w.heap.size, 0, none⟩ (.bool false)).setCell ⟨w.heap.size, 1, none⟩ (.slice none 0 0)).setCell ⟨w.heap.size, 2, none⟩ (.slice none 0 0)).setCell ⟨w.heap.size, 3, none⟩ (.slice none 0 0)).setCell ⟨w.heap.size, 4, none⟩ (.slice none 0 0)).setCell ⟨w.heap.size, 5, none⟩ (.slice none 0 0))).cell? ⟨w.heap.size, 1, none⟩ = some (.slice none 0 0) ∧ (((((((W8.setCell ⟨w.heap.size, 0, none⟩ (.bool false)).setCell ⟨w.heap.size, 1, none⟩ (.slice none 0 0)).setCell ⟨w.heap.size, 2, none⟩ (.slice none 0 0)).setCell ⟨w.heap.size, 3, none⟩ (.slice none 0 0)).setCell ⟨w.heap.size, 4, none⟩ (.slice none 0 0)).setCell ⟨w.heap.size, 5, none⟩ (.slice none 0 0))).cell? ⟨w.heap.size, 2, none⟩ = some (.slice none 0 0) ∧ (((((((W8.setCell ⟨w.heap.size, 0, none⟩ (.bool false)).setCell ⟨w.heap.size, 1, none⟩ (.slice none 0 0)).setCell ⟨w.heap.size, 2, none⟩ (.slice none 0 0)).setCell ⟨w.heap.size, 3, none⟩ (.slice none 0 0)).setCell ⟨w.heap.size, 4, none⟩ (.slice none 0 0)).setCell ⟨w.heap.size, 5, none⟩ (.slice none 0 0))).cell? ⟨w.heap.size, 3, none⟩ = some (.slice none 0 0) ∧ (((((((W8.setCell ⟨w.heap.size, 0, none⟩ (.bool false)).setCell ⟨w.heap.size, 1, none⟩ (.slice none 0 0)).setCell ⟨w.heap.size, 2, none⟩ (.slice none 0 0)).setCell ⟨w.heap.size, 3, none⟩ (.slice none 0 0)).setCell ⟨w.heap.size, 4, none⟩ (.slice none 0 0)).setCell ⟨w.heap.size, 5, none⟩ (.slice none 0 0))).cell? ⟨w.heap.size, 4, none⟩ = some (.slice none 0 0) ∧ (((((((W8.setCell ⟨w.heap.size, 0, none⟩ (.bool false)).setCell ⟨w.heap.size, 1, none⟩ (.slice none 0 0)).setCell ⟨w.heap.size, 2, none⟩ (.slice none 0 0)).setCell ⟨w.heap.size, 3, none⟩ (.slice none 0 0)).setCell ⟨w.heap.size, 4, none⟩ (.slice none 0 0)).setCell ⟨w.heap.size, 5, none⟩ (.slice none 0 0))).cell? ⟨w.heap.size, 5, none⟩ = some (.slice none 0 0)) := hide (box_cells (put6_box (y := Sv.zero) hb2 Sv.zero))
          clear hb2
          go_wp2
          (try simp only [Exit.inBlock, Exit.then])
          obtain ⟨g0, g1, g2, g3, g4, g5⟩ := HG9.out
          clear HG9
          generalize ((((((W8.setCell ⟨w.heap.size, 0, none⟩ (.bool false)).setCell ⟨w.heap.size, 1, none⟩ (.slice none 0 0)).setCell ⟨w.heap.size, 2, none⟩ (.slice none 0 0)).setCell ⟨w.heap.size, 3, none⟩ (.slice none 0 0)).setCell ⟨w.heap.size, 4, none⟩ (.slice none 0 0)).setCell ⟨w.heap.size, 5, none⟩ (.slice none 0 0)) = W9 at *
          refine bodyPost_ret (v := .tuple #[.agg #[.bool false, .slice none 0 0, .slice none 0 0, .slice none 0 0, .slice none 0 0, .slice none 0 0], .int .i64 ((k : Int) + 1)]) (by simp [results, Tryz.results18, go_sem, g0, g1, g2, g3, g4, g5]) rfl ?_
          exact ⟨Sv.zero, by rw [HPE.out]; rfl, by rw [HPE.out]; exact zero_at _, HB9.out⟩
        | true =>
          by_cases hnk : np = k + 1
          · subst hnk
            have hrow : w7.ownsRow wc.heap.size 9 1 (.slice ap (k + 1) cp) (k + 1) (tv ls) := HRP.out
            obtain ⟨gp, cgp, hvp, _, hgp⟩ := hrow.form (by omega)
            simp only [Value.slice.injEq] at hvp
            obtain ⟨rfl, -, rfl⟩ := hvp
            have ep : ∀ p : ReC w7, p.W.cell? ⟨gp, k, none⟩ = some (.string ⟨(ls.getD k []).toArray⟩) := fun p => by
              refine (bcell p.h hgp).trans ?_
              rw [hrow.cellAt k (by omega)]
              have : k < ls.length := by rw [HNP.out]; omega
              simp [tv, List.getD_eq_getElem?_getD, List.getElem?_eq_getElem this]
            have HLA : Hid (ls.getLast? = some (ls.getD k [])) := hide (by
              have hk2 : ls.length = k + 1 := HNP.out
              rw [List.getLast?_eq_getElem?, List.getD_eq_getElem?_getD, hk2, Nat.add_sub_cancel, List.getElem?_eq_getElem (by omega)]
              rfl)
            clear hrow
            generalize ls.getD k [] = li at *
            have hkp1 : (k : Int) < ((k + 1 : Nat) : Int) := by omega
            by_cases hli : li = line
            · subst hli
              have HOK : Hid ((gat r.sp li).Right ∧ (gat r.sp li).lines.length = r.n + 1 ∧ (gat r.sp li).lines.getLast? = some li) := hide ⟨HRB.out.1 rfl, by rw [HLS.out, HNP.out, HRI.out.2], by rw [HLS.out]; exact HLA.out⟩
              go_wp2
              refine region_class (α := ReC w7) ReC.W (by kernel_rfl) (by kernel_rfl) ⟨w7.drew, below_drew (Below.refl _ _)⟩ rfl ?_
              repeat (go_big_quiet_step ((go_at_call 39; exact KR.out _)))
              refine wpQuiet_nil ?_
              intro W8 hw'
              have hW8 : Below w7.heap.size w7 W8 := by
                obtain ⟨⟨Wx, hx⟩, e⟩ := hw'
                rw [e]
                exact hx
              clear hw'
              have HG8 := hide (HG7.out.low hW8)
              clear ep e0 e1 e2 e3 e4 e5 ek ne
              have z0 : W8.cell? ⟨w4.heap.size, 0, none⟩ = some (.bool Y.r) := Lib.cell_of_heap HG8.out.b8 0
              have z1 : W8.cell? ⟨w4.heap.size, 1, none⟩ = some (.slice Y.a1 Y.n1 Y.c1) := Lib.cell_of_heap HG8.out.b8 1
              have z2 : W8.cell? ⟨w4.heap.size, 2, none⟩ = some (.slice Y.a2 Y.n2 Y.c2) := Lib.cell_of_heap HG8.out.b8 2
              have z3 : W8.cell? ⟨w4.heap.size, 3, none⟩ = some (.slice Y.a3 Y.n3 Y.c3) := Lib.cell_of_heap HG8.out.b8 3
              have z4 : W8.cell? ⟨w4.heap.size, 4, none⟩ = some (.slice Y.a4 Y.n4 Y.c4) := Lib.cell_of_heap HG8.out.b8 4
              have z5 : W8.cell? ⟨w4.heap.size, 5, none⟩ = some (.slice Y.a5 Y.n5 Y.c5) := Lib.cell_of_heap HG8.out.b8 5
              have y0 : W8.cell? ⟨w2.heap.size, 0, none⟩ = some (.bool X.r) := Lib.cell_of_heap HG8.out.pa.b5 0
              have y1 : W8.cell? ⟨w2.heap.size, 1, none⟩ = some (.slice X.a1 X.n1 X.c1) := Lib.cell_of_heap HG8.out.pa.b5 1
              have y2 : W8.cell? ⟨w2.heap.size, 2, none⟩ = some (.slice X.a2 X.n2 X.c2) := Lib.cell_of_heap HG8.out.pa.b5 2
              have y3 : W8.cell? ⟨w2.heap.size, 3, none⟩ = some (.slice X.a3 X.n3 X.c3) := Lib.cell_of_heap HG8.out.pa.b5 3
              have y4 : W8.cell? ⟨w2.heap.size, 4, none⟩ = some (.slice X.a4 X.n4 X.c4) := Lib.cell_of_heap HG8.out.pa.b5 4
              have y5 : W8.cell? ⟨w2.heap.size, 5, none⟩ = some (.slice X.a5 X.n5 X.c5) := Lib.cell_of_heap HG8.out.pa.b5 5
              have yf0 : W8.frozen? ⟨w2.heap.size, 0, none⟩ = false := Lib.frozen_of_heap HG8.out.pa.b5 0
              have yf1 : W8.frozen? ⟨w2.heap.size, 1, none⟩ = false := Lib.frozen_of_heap HG8.out.pa.b5 1
              have yf2 : W8.frozen? ⟨w2.heap.size, 2, none⟩ = false := Lib.frozen_of_heap HG8.out.pa.b5 2
              have yf3 : W8.frozen? ⟨w2.heap.size, 3, none⟩ = false := Lib.frozen_of_heap HG8.out.pa.b5 3
              have yf4 : W8.frozen? ⟨w2.heap.size, 4, none⟩ = false := Lib.frozen_of_heap HG8.out.pa.b5 4
              have yf5 : W8.frozen? ⟨w2.heap.size, 5, none⟩ = false := Lib.frozen_of_heap HG8.out.pa.b5 5
              have HPN := hide HG8.out.back
              have hN2 : Hid (∃ r' : Rd, r'.sp = gat r.sp li ∧ runL rd0 (l.take (k + 1)) = (r', true) ∧ r'.Inv ∧ r'.n = k + 1) := hide (by
                rcases HST.out with ⟨_, _, _, r', hr1, hr2, hr3, hr4, hr5⟩ | ⟨hno, _⟩
                · refine ⟨r', hr2, ?_, hr3, by rw [hr5, HRI.out.2]⟩
                  have hkl : k < l.length := by have := HNL.out; omega
                  have hgl : l[k] = li := by
                    have : all.getD k [] = li := HLK.out
                    rw [← HALL.out, List.getD_eq_getElem?_getD, List.getElem?_append_left hkl, List.getElem?_eq_getElem hkl] at this
                    simpa using this
                  rw [List.take_succ_eq_append_getElem hkl, hgl]
                  exact hr4
                · exact absurd ⟨HOK.out.1, by rw [← HLS.out]; exact HOK.out.2.1, by rw [← HLS.out]; exact HOK.out.2.2⟩ hno)
              obtain ⟨r', hq1, hq2, hq3, hq4⟩ := hN2.out
              rw [← hq1] at HPN
              have HQ2 := hide hq2
              have HQ3 := hide (And.intro hq3 hq4)
              clear hq1 hq2 hq3 hq4
              go_wp2
              exact ⟨⟨k + 1, Y, r', by go_num, by omega, HQ2, HQ3, HPN⟩, by simp [intOf]; omega⟩
            · have HBAD : Hid (¬ ((gat r.sp line).Right ∧ (gat r.sp line).lines.length = r.n + 1 ∧ (gat r.sp line).lines.getLast? = some line)) := hide (fun hx => by
                have h1 := hx.2.2
                rw [HLS.out, HLA.out] at h1
                simp only [Option.some.injEq] at h1
                exact hli h1)
              have hl1 : (li == line) = false := by rw [beq_eq_false_iff_ne]; exact hli
              have hl2 : (li != line) = true := by simp [bne, hl1]
              have HLI := hide hli
              clear hli
              go_wp2
              refine region_class (α := ReC w7) ReC.W (by kernel_rfl) (by kernel_rfl) ⟨w7.drew, below_drew (Below.refl _ _)⟩ rfl ?_
              repeat (go_big_quiet_step ((go_at_call 39; exact KR.out _)))
              refine wpQuiet_nil ?_
              intro W8 hw'
              have hW8 : Below w7.heap.size w7 W8 := by
                obtain ⟨⟨Wx, hx⟩, e⟩ := hw'
                rw [e]
                exact hx
              clear hw'
              have HG8 := hide (HG7.out.low hW8)
              clear ep hl1 hl2 e0 e1 e2 e3 e4 e5 ek ne
              have HPE : Hid (parseP t.data.toList = (Sp.zero, k + 1, 2)) := hide (by
                rcases HST.out with ⟨s1, s2, s3, _⟩ | ⟨_, hno⟩
                · exact absurd ⟨s1, by rw [HLS.out]; exact s2, by rw [HLS.out]; exact s3⟩ HBAD.out
                · have hkl : k < l.length := by have := HNL.out; omega
                  have hgl : l.getD k [] = line := by rw [← HLK.out, ← HALL.out, List.getD_eq_getElem?_getD, List.getD_eq_getElem?_getD, List.getElem?_append_left hkl]
                  have h1 := runL_stop hkl HRL.out (by rw [hgl]; exact hno)
                  rw [HP.out]
                  unfold parseC
                  simp only [h1, HRI.out.2]
                  rfl)
              have HPF := hide HG8.out.pa
              have hb2 := HPF.out.b2
              have p0 : W8.cell? ⟨w.heap.size, 0, none⟩ = some (.bool false) := Lib.cell_of_heap hb2 0
              have p1 : W8.cell? ⟨w.heap.size, 1, none⟩ = some (.slice none 0 0) := Lib.cell_of_heap hb2 1
              have p2 : W8.cell? ⟨w.heap.size, 2, none⟩ = some (.slice none 0 0) := Lib.cell_of_heap hb2 2
              have p3 : W8.cell? ⟨w.heap.size, 3, none⟩ = some (.slice none 0 0) := Lib.cell_of_heap hb2 3
              have p4 : W8.cell? ⟨w.heap.size, 4, none⟩ = some (.slice none 0 0) := Lib.cell_of_heap hb2 4
              have p5 : W8.cell? ⟨w.heap.size, 5, none⟩ = some (.slice none 0 0) := Lib.cell_of_heap hb2 5
              have pf0 : W8.frozen? ⟨w.heap.size, 0, none⟩ = false := Lib.frozen_of_heap hb2 0
              have pf1 : W8.frozen? ⟨w.heap.size, 1, none⟩ = false := Lib.frozen_of_heap hb2 1
              have pf2 : W8.frozen? ⟨w.heap.size, 2, none⟩ = false := Lib.frozen_of_heap hb2 2
              have pf3 : W8.frozen? ⟨w.heap.size, 3, none⟩ = false := Lib.frozen_of_heap hb2 3
              have pf4 : W8.frozen? ⟨w.heap.size, 4, none⟩ = false := Lib.frozen_of_heap hb2 4
              have pf5 : W8.frozen? ⟨w.heap.size, 5, none⟩ = false := Lib.frozen_of_heap hb2 5
              have HB9 : Hid (Below w.heap.size w ((((((W8.setCell ⟨w.heap.size, 0, none⟩ (.bool false)).setCell ⟨w.heap.size, 1, none⟩ (.slice none 0 0)).setCell ⟨w.heap.size, 2, none⟩ (.slice none 0 0)).setCell ⟨w.heap.size, 3, none⟩ (.slice none 0 0)).setCell ⟨w.heap.size, 4, none⟩ (.slice none 0 0)).setCell ⟨w.heap.size, 5, none⟩ (.slice none 0 0))) := hide (put6_below HPF.out.bel (Nat.le_refl _) Sv.zero)
              have HG9 : Hid ((((((((W8.setCell ⟨w.heap.size, 0, none⟩ (.bool false)).setCell ⟨w.heap.size, 1, none⟩ (.slice none 0 0)).setCell ⟨w.heap.size, 2, none⟩ (.slice none 0 0)).setCell ⟨w.heap.size, 3, none⟩ (.slice none 0 0)).setCell ⟨w.heap.size, 4, none⟩ (.slice none 0 0)).setCell ⟨w.heap.size, 5, none⟩ (.slice none 0 0))).cell? ⟨w.heap.size, 0, none⟩ = some (.bool false) ∧ (((((((W8.setCell ⟨w.heap.size, 0, none⟩ (.bool false)).setCell ⟨w.heap.size, 1, none⟩ (.slice none 0 0)).setCell ⟨w.heap.size, 2, none⟩ (.slice none 0 0)).setCell ⟨w.heap.size, 3, none⟩ (.slice none 0 0)).setCell ⟨w.heap.size, 4, none⟩ (.slice none 0 0)).setCell ⟨w.heap.size, 5, none⟩ (.slice none 0 0))).cell? ⟨w.heap.size, 1, none⟩ = some (.slice none 0 0) ∧ (((((((W8.setCell ⟨w.heap.size, 0, none⟩ (.bool false)).setCell ⟨w.heap.size, 1, none⟩ (.slice none 0 0)).setCell ⟨w.heap.size, 2, none⟩ (.slice none 0 0)).setCell ⟨w.heap.size, 3, none⟩ (.slice none 0 0)).setCell ⟨w.heap.size, 4, none⟩ (.slice none 0 0)).setCell ⟨w.heap.size, 5, none⟩ (.slice none 0 0))).cell? ⟨w.heap.size, 2, none⟩ = some (.slice none 0 0) ∧ (((((((W8.setCell ⟨w.heap.size, 0, none⟩ (.bool false)).setCell ⟨w.heap.size, 1, none⟩ (.slice none 0 0)).setCell ⟨w.heap.size, 2, none⟩ (.slice none 0 0)).setCell ⟨w.heap.size, 3, none⟩ (.slice none 0 0)).setCell ⟨w.heap.size, 4, none⟩ (.slice none 0 0)).setCell ⟨w.heap.size, 5, none⟩ (.slice none 0 0))).cell? ⟨w.heap.size, 3, none⟩ = some (.slice none 0 0) ∧ (((((((W8.setCell ⟨w.heap.size, 0, none⟩ (.bool false)).setCell ⟨w.heap.size, 1, none⟩ (.slice none 0 0)).setCell ⟨w.heap.size, 2, none⟩ (.slice none 0 0)).setCell ⟨w.heap.size, 3, none⟩ (.slice none 0 0)).setCell ⟨w.heap.size, 4, none⟩ (.slice none 0 0)).setCell ⟨w.heap.size, 5, none⟩ (.slice none 0 0))).cell? ⟨w.heap.size, 4, none⟩ = some (.slice none 0 0) ∧ (((((((W8.setCell ⟨w.heap.size, 0, none⟩ (.bool false)).setCell ⟨w.heap.size, 1, none⟩ (.slice none 0 0)).setCell ⟨w.heap.size, 2, none⟩ (.slice none 0 0)).setCell ⟨w.heap.size, 3, none⟩ (.slice none 0 0)).setCell ⟨w.heap.size, 4, none⟩ (.slice none 0 0)).setCell ⟨w.heap.size, 5, none⟩ (.slice none 0 0))).cell? ⟨w.heap.size, 5, none⟩ = some (.slice none 0 0)) := hide (box_cells (put6_box (y := Sv.zero) hb2 Sv.zero))
              clear hb2
              go_wp2
              (try simp only [Exit.inBlock, Exit.then])
              obtain ⟨g0, g1, g2, g3, g4, g5⟩ := HG9.out
              clear HG9
              generalize ((((((W8.setCell ⟨w.heap.size, 0, none⟩ (.bool false)).setCell ⟨w.heap.size, 1, none⟩ (.slice none 0 0)).setCell ⟨w.heap.size, 2, none⟩ (.slice none 0 0)).setCell ⟨w.heap.size, 3, none⟩ (.slice none 0 0)).setCell ⟨w.heap.size, 4, none⟩ (.slice none 0 0)).setCell ⟨w.heap.size, 5, none⟩ (.slice none 0 0)) = W9 at *
              refine bodyPost_ret (v := .tuple #[.agg #[.bool false, .slice none 0 0, .slice none 0 0, .slice none 0 0, .slice none 0 0, .slice none 0 0], .int .i64 ((k : Int) + 1)]) (by simp [results, Tryz.results18, go_sem, g0, g1, g2, g3, g4, g5]) rfl ?_
              exact ⟨Sv.zero, by rw [HPE.out]; rfl, by rw [HPE.out]; exact zero_at _, HB9.out⟩
          · have HBAD : Hid (¬ ((gat r.sp line).Right ∧ (gat r.sp line).lines.length = r.n + 1 ∧ (gat r.sp line).lines.getLast? = some line)) := hide (fun hx => by
              have h1 := hx.2.1
              rw [HLS.out, HNP.out, HRI.out.2] at h1
              exact hnk h1)
            have hn1 : ((np : Int) == (k : Int) + 1) = false := by rw [beq_eq_false_iff_ne]; omega
            have hn2 : ((np : Int) != (k : Int) + 1) = true := by simp [bne, hn1]
            have HNK := hide hnk
            clear hnk
            go_wp2
            refine region_class (α := ReC w7) ReC.W (by kernel_rfl) (by kernel_rfl) ⟨w7.drew, below_drew (Below.refl _ _)⟩ rfl ?_
            repeat (go_big_quiet_step ((go_at_call 39; exact KR.out _)))
            refine wpQuiet_nil ?_
            intro W8 hw'
            have hW8 : Below w7.heap.size w7 W8 := by
              obtain ⟨⟨Wx, hx⟩, e⟩ := hw'
              rw [e]
              exact hx
            clear hw'
            have HG8 := hide (HG7.out.low hW8)
            clear hn1 hn2 e0 e1 e2 e3 e4 e5 ek ne
            have HPE : Hid (parseP t.data.toList = (Sp.zero, k + 1, 2)) := hide (by
              rcases HST.out with ⟨s1, s2, s3, _⟩ | ⟨_, hno⟩
              · exact absurd ⟨s1, by rw [HLS.out]; exact s2, by rw [HLS.out]; exact s3⟩ HBAD.out
              · have hkl : k < l.length := by have := HNL.out; omega
                have hgl : l.getD k [] = line := by rw [← HLK.out, ← HALL.out, List.getD_eq_getElem?_getD, List.getD_eq_getElem?_getD, List.getElem?_append_left hkl]
                have h1 := runL_stop hkl HRL.out (by rw [hgl]; exact hno)
                rw [HP.out]
                unfold parseC
                simp only [h1, HRI.out.2]
                rfl)
            have HPF := hide HG8.out.pa
            have hb2 := HPF.out.b2
            have p0 : W8.cell? ⟨w.heap.size, 0, none⟩ = some (.bool false) := Lib.cell_of_heap hb2 0
            have p1 : W8.cell? ⟨w.heap.size, 1, none⟩ = some (.slice none 0 0) := Lib.cell_of_heap hb2 1
            have p2 : W8.cell? ⟨w.heap.size, 2, none⟩ = some (.slice none 0 0) := Lib.cell_of_heap hb2 2
            have p3 : W8.cell? ⟨w.heap.size, 3, none⟩ = some (.slice none 0 0) := Lib.cell_of_heap hb2 3
            have p4 : W8.cell? ⟨w.heap.size, 4, none⟩ = some (.slice none 0 0) := Lib.cell_of_heap hb2 4
            have p5 : W8.cell? ⟨w.heap.size, 5, none⟩ = some (.slice none 0 0) := Lib.cell_of_heap hb2 5
            have pf0 : W8.frozen? ⟨w.heap.size, 0, none⟩ = false := Lib.frozen_of_heap hb2 0
            have pf1 : W8.frozen? ⟨w.heap.size, 1, none⟩ = false := Lib.frozen_of_heap hb2 1
            have pf2 : W8.frozen? ⟨w.heap.size, 2, none⟩ = false := Lib.frozen_of_heap hb2 2
            have pf3 : W8.frozen? ⟨w.heap.size, 3, none⟩ = false := Lib.frozen_of_heap hb2 3
            have pf4 : W8.frozen? ⟨w.heap.size, 4, none⟩ = false := Lib.frozen_of_heap hb2 4
            have pf5 : W8.frozen? ⟨w.heap.size, 5, none⟩ = false := Lib.frozen_of_heap hb2 5
            have HB9 : Hid (Below w.heap.size w ((((((W8.setCell ⟨w.heap.size, 0, none⟩ (.bool false)).setCell ⟨w.heap.size, 1, none⟩ (.slice none 0 0)).setCell ⟨w.heap.size, 2, none⟩ (.slice none 0 0)).setCell ⟨w.heap.size, 3, none⟩ (.slice none 0 0)).setCell ⟨w.heap.size, 4, none⟩ (.slice none 0 0)).setCell ⟨w.heap.size, 5, none⟩ (.slice none 0 0))) := hide (put6_below HPF.out.bel (Nat.le_refl _) Sv.zero)
            have HG9 : Hid ((((((((W8.setCell ⟨w.heap.size, 0, none⟩ (.bool false)).setCell ⟨w.heap.size, 1, none⟩ (.slice none 0 0)).setCell ⟨w.heap.size, 2, none⟩ (.slice none 0 0)).setCell ⟨w.heap.size, 3, none⟩ (.slice none 0 0)).setCell ⟨w.heap.size, 4, none⟩ (.slice none 0 0)).setCell ⟨w.heap.size, 5, none⟩ (.slice none 0 0))).cell? ⟨w.heap.size, 0, none⟩ = some (.bool false) ∧ (((((((W8.setCell ⟨w.heap.size, 0, none⟩ (.bool false)).setCell ⟨w.heap.size, 1, none⟩ (.slice none 0 0)).setCell ⟨w.heap.size, 2, none⟩ (.slice none 0 0)).setCell ⟨w.heap.size, 3, none⟩ (.slice none 0 0)).setCell ⟨w.heap.size, 4, none⟩ (.slice none 0 0)).setCell ⟨w.heap.size, 5, none⟩ (.slice none 0 0))).cell? ⟨w.heap.size, 1, none⟩ = some (.slice none 0 0) ∧ (((((((W8.setCell ⟨w.heap.size, 0, none⟩ (.bool false)).setCell ⟨w.heap.size, 1, none⟩ (.slice none 0 0)).setCell ⟨w.heap.size, 2, none⟩ (.slice none 0 0)).setCell ⟨w.heap.size, 3, none⟩ (.slice none 0 0)).setCell ⟨w.heap.size, 4, none⟩ (.slice none 0 0)).setCell ⟨w.heap.size, 5, none⟩ (.slice none 0 0))).cell? ⟨w.heap.size, 2, none⟩ = some (.slice none 0 0) ∧ (((((((W8.setCell ⟨w.heap.size, 0, none⟩ (.bool false)).setCell ⟨w.heap.size, 1, none⟩ (.slice none 0 0)).setCell ⟨w.heap.size, 2, none⟩ (.slice none 0 0)).setCell ⟨w.heap.size, 3, none⟩ (.slice none 0 0)).setCell ⟨w.heap.size, 4, none⟩ (.slice none 0 0)).setCell ⟨w.heap.size, 5, none⟩ (.slice none 0 0))).cell? ⟨w.heap.size, 3, none⟩ = some (.slice none 0 0) ∧ (((((((W8.setCell ⟨w.heap.size, 0, none⟩ (.bool false)).setCell ⟨w.heap.size, 1, none⟩ (.slice none 0 0)).setCell ⟨w.heap.size, 2, none⟩ (.slice none 0 0)).setCell ⟨w.heap.size, 3, none⟩ (.slice none 0 0)).setCell ⟨w.heap.size, 4, none⟩ (.slice none 0 0)).setCell ⟨w.heap.size, 5, none⟩ (.slice none 0 0))).cell? ⟨w.heap.size, 4, none⟩ = some (.slice none 0 0) ∧ (((((((W8.setCell ⟨w.heap.size, 0, none⟩ (.bool false)).setCell ⟨w.heap.size, 1, none⟩ (.slice none 0 0)).setCell ⟨w.heap.size, 2, none⟩ (.slice none 0 0)).setCell ⟨w.heap.size, 3, none⟩ (.slice none 0 0)).setCell ⟨w.heap.size, 4, none⟩ (.slice none 0 0)).setCell ⟨w.heap.size, 5, none⟩ (.slice none 0 0))).cell? ⟨w.heap.size, 5, none⟩ = some (.slice none 0 0)) := hide (box_cells (put6_box (y := Sv.zero) hb2 Sv.zero))
            clear hb2
            go_wp2
            (try simp only [Exit.inBlock, Exit.then])
            obtain ⟨g0, g1, g2, g3, g4, g5⟩ := HG9.out
            clear HG9
            generalize ((((((W8.setCell ⟨w.heap.size, 0, none⟩ (.bool false)).setCell ⟨w.heap.size, 1, none⟩ (.slice none 0 0)).setCell ⟨w.heap.size, 2, none⟩ (.slice none 0 0)).setCell ⟨w.heap.size, 3, none⟩ (.slice none 0 0)).setCell ⟨w.heap.size, 4, none⟩ (.slice none 0 0)).setCell ⟨w.heap.size, 5, none⟩ (.slice none 0 0)) = W9 at *
            refine bodyPost_ret (v := .tuple #[.agg #[.bool false, .slice none 0 0, .slice none 0 0, .slice none 0 0, .slice none 0 0, .slice none 0 0], .int .i64 ((k : Int) + 1)]) (by simp [results, Tryz.results18, go_sem, g0, g1, g2, g3, g4, g5]) rfl ?_
            exact ⟨Sv.zero, by rw [HPE.out]; rfl, by rw [HPE.out]; exact zero_at _, HB9.out⟩
    · obtain rfl : k + 1 = nA := by omega
      have hkl : k = l.length := by have := HNL.out; omega
      have HRF : Hid (runL rd0 l = (r, true)) := hide (by have := HRL.out; rwa [hkl, List.take_length] at this)
      obtain ⟨g, rfl, hg, hc⟩ := HI.out.line HNA.out (k := k) (by omega)
      have ck : wr.cell? ⟨g, k, none⟩ = some (.string ⟨xl.toArray⟩) := by
        rw [hc k (by omega), ← HALL.out, List.getD_eq_getElem?_getD, hkl]
        simp
      clear hc hkl
      by_cases hk0 : k = 0
      · subst hk0
        have HPE : Hid (parseP t.data.toList = (Sp.zero, 1, 2)) := hide (by
          rw [HP.out]
          unfold parseC
          simp only [HRF.out]
          rw [if_neg (fun e => e.2.2 HRI.out.2), HRI.out.2])
        have HPF := hide HI.out
        have hb2 := HPF.out.b2
        have p0 : wr.cell? ⟨w.heap.size, 0, none⟩ = some (.bool false) := Lib.cell_of_heap hb2 0
        have p1 : wr.cell? ⟨w.heap.size, 1, none⟩ = some (.slice none 0 0) := Lib.cell_of_heap hb2 1
        have p2 : wr.cell? ⟨w.heap.size, 2, none⟩ = some (.slice none 0 0) := Lib.cell_of_heap hb2 2
        have p3 : wr.cell? ⟨w.heap.size, 3, none⟩ = some (.slice none 0 0) := Lib.cell_of_heap hb2 3
        have p4 : wr.cell? ⟨w.heap.size, 4, none⟩ = some (.slice none 0 0) := Lib.cell_of_heap hb2 4
        have p5 : wr.cell? ⟨w.heap.size, 5, none⟩ = some (.slice none 0 0) := Lib.cell_of_heap hb2 5
        have pf0 : wr.frozen? ⟨w.heap.size, 0, none⟩ = false := Lib.frozen_of_heap hb2 0
        have pf1 : wr.frozen? ⟨w.heap.size, 1, none⟩ = false := Lib.frozen_of_heap hb2 1
        have pf2 : wr.frozen? ⟨w.heap.size, 2, none⟩ = false := Lib.frozen_of_heap hb2 2
        have pf3 : wr.frozen? ⟨w.heap.size, 3, none⟩ = false := Lib.frozen_of_heap hb2 3
        have pf4 : wr.frozen? ⟨w.heap.size, 4, none⟩ = false := Lib.frozen_of_heap hb2 4
        have pf5 : wr.frozen? ⟨w.heap.size, 5, none⟩ = false := Lib.frozen_of_heap hb2 5
        have HB9 : Hid (Below w.heap.size w ((((((wr.setCell ⟨w.heap.size, 0, none⟩ (.bool false)).setCell ⟨w.heap.size, 1, none⟩ (.slice none 0 0)).setCell ⟨w.heap.size, 2, none⟩ (.slice none 0 0)).setCell ⟨w.heap.size, 3, none⟩ (.slice none 0 0)).setCell ⟨w.heap.size, 4, none⟩ (.slice none 0 0)).setCell ⟨w.heap.size, 5, none⟩ (.slice none 0 0))) := hide (put6_below HPF.out.bel (Nat.le_refl _) Sv.zero)
        have HG9 : Hid ((((((((wr.setCell ⟨w.heap.size, 0, none⟩ (.bool false)).setCell ⟨w.heap.size, 1, none⟩ (.slice none 0 0)).setCell ⟨w.heap.size, 2, none⟩ (.slice none 0 0)).setCell ⟨w.heap.size, 3, none⟩ (.slice none 0 0)).setCell ⟨w.heap.size, 4, none⟩ (.slice none 0 0)).setCell ⟨w.heap.size, 5, none⟩ (.slice none 0 0))).cell? ⟨w.heap.size, 0, none⟩ = some (.bool false) ∧ (((((((wr.setCell ⟨w.heap.size, 0, none⟩ (.bool false)).setCell ⟨w.heap.size, 1, none⟩ (.slice none 0 0)).setCell ⟨w.heap.size, 2, none⟩ (.slice none 0 0)).setCell ⟨w.heap.size, 3, none⟩ (.slice none 0 0)).setCell ⟨w.heap.size, 4, none⟩ (.slice none 0 0)).setCell ⟨w.heap.size, 5, none⟩ (.slice none 0 0))).cell? ⟨w.heap.size, 1, none⟩ = some (.slice none 0 0) ∧ (((((((wr.setCell ⟨w.heap.size, 0, none⟩ (.bool false)).setCell ⟨w.heap.size, 1, none⟩ (.slice none 0 0)).setCell ⟨w.heap.size, 2, none⟩ (.slice none 0 0)).setCell ⟨w.heap.size, 3, none⟩ (.slice none 0 0)).setCell ⟨w.heap.size, 4, none⟩ (.slice none 0 0)).setCell ⟨w.heap.size, 5, none⟩ (.slice none 0 0))).cell? ⟨w.heap.size, 2, none⟩ = some (.slice none 0 0) ∧ (((((((wr.setCell ⟨w.heap.size, 0, none⟩ (.bool false)).setCell ⟨w.heap.size, 1, none⟩ (.slice none 0 0)).setCell ⟨w.heap.size, 2, none⟩ (.slice none 0 0)).setCell ⟨w.heap.size, 3, none⟩ (.slice none 0 0)).setCell ⟨w.heap.size, 4, none⟩ (.slice none 0 0)).setCell ⟨w.heap.size, 5, none⟩ (.slice none 0 0))).cell? ⟨w.heap.size, 3, none⟩ = some (.slice none 0 0) ∧ (((((((wr.setCell ⟨w.heap.size, 0, none⟩ (.bool false)).setCell ⟨w.heap.size, 1, none⟩ (.slice none 0 0)).setCell ⟨w.heap.size, 2, none⟩ (.slice none 0 0)).setCell ⟨w.heap.size, 3, none⟩ (.slice none 0 0)).setCell ⟨w.heap.size, 4, none⟩ (.slice none 0 0)).setCell ⟨w.heap.size, 5, none⟩ (.slice none 0 0))).cell? ⟨w.heap.size, 4, none⟩ = some (.slice none 0 0) ∧ (((((((wr.setCell ⟨w.heap.size, 0, none⟩ (.bool false)).setCell ⟨w.heap.size, 1, none⟩ (.slice none 0 0)).setCell ⟨w.heap.size, 2, none⟩ (.slice none 0 0)).setCell ⟨w.heap.size, 3, none⟩ (.slice none 0 0)).setCell ⟨w.heap.size, 4, none⟩ (.slice none 0 0)).setCell ⟨w.heap.size, 5, none⟩ (.slice none 0 0))).cell? ⟨w.heap.size, 5, none⟩ = some (.slice none 0 0)) := hide (box_cells (put6_box (y := Sv.zero) hb2 Sv.zero))
        clear hb2
        go_wp2
        (try simp only [Exit.inBlock, Exit.then])
        obtain ⟨g0, g1, g2, g3, g4, g5⟩ := HG9.out
        clear HG9
        generalize ((((((wr.setCell ⟨w.heap.size, 0, none⟩ (.bool false)).setCell ⟨w.heap.size, 1, none⟩ (.slice none 0 0)).setCell ⟨w.heap.size, 2, none⟩ (.slice none 0 0)).setCell ⟨w.heap.size, 3, none⟩ (.slice none 0 0)).setCell ⟨w.heap.size, 4, none⟩ (.slice none 0 0)).setCell ⟨w.heap.size, 5, none⟩ (.slice none 0 0)) = W9 at *
        refine bodyPost_ret (v := .tuple #[.agg #[.bool false, .slice none 0 0, .slice none 0 0, .slice none 0 0, .slice none 0 0, .slice none 0 0], .int .i64 1]) (by simp [results, Tryz.results18, go_sem, g0, g1, g2, g3, g4, g5]) rfl ?_
        exact ⟨Sv.zero, by rw [HPE.out]; rfl, by rw [HPE.out]; exact zero_at _, HB9.out⟩
      · have hk1 : ¬ (k : Int) + 1 < 2 := by omega
        have hkw : (k : Int) + 1 - 1 = (k : Int) := by omega
        have hk2 : (k : Int) < (k : Int) + 1 := by omega
        have hk3 : (0 : Int) ≤ (k : Int) := by omega
        by_cases hx : xl = []
        · subst hx
          have HPE : Hid (parseP t.data.toList = (r.sp, 0, 0)) := hide (by
            rw [HP.out]
            unfold parseC
            simp only [HRF.out]
            rw [if_pos ⟨trivial, trivial, by rw [HRI.out.2]; exact hk0⟩])
          have HK0 := hide hk0
          clear hk0
          have y0 : wr.cell? ⟨w2.heap.size, 0, none⟩ = some (.bool X.r) := Lib.cell_of_heap HI.out.b5 0
          have y1 : wr.cell? ⟨w2.heap.size, 1, none⟩ = some (.slice X.a1 X.n1 X.c1) := Lib.cell_of_heap HI.out.b5 1
          have y2 : wr.cell? ⟨w2.heap.size, 2, none⟩ = some (.slice X.a2 X.n2 X.c2) := Lib.cell_of_heap HI.out.b5 2
          have y3 : wr.cell? ⟨w2.heap.size, 3, none⟩ = some (.slice X.a3 X.n3 X.c3) := Lib.cell_of_heap HI.out.b5 3
          have y4 : wr.cell? ⟨w2.heap.size, 4, none⟩ = some (.slice X.a4 X.n4 X.c4) := Lib.cell_of_heap HI.out.b5 4
          have y5 : wr.cell? ⟨w2.heap.size, 5, none⟩ = some (.slice X.a5 X.n5 X.c5) := Lib.cell_of_heap HI.out.b5 5
          have HPF := hide HI.out
          have hb2 := HPF.out.b2
          have p0 : wr.cell? ⟨w.heap.size, 0, none⟩ = some (.bool false) := Lib.cell_of_heap hb2 0
          have p1 : wr.cell? ⟨w.heap.size, 1, none⟩ = some (.slice none 0 0) := Lib.cell_of_heap hb2 1
          have p2 : wr.cell? ⟨w.heap.size, 2, none⟩ = some (.slice none 0 0) := Lib.cell_of_heap hb2 2
          have p3 : wr.cell? ⟨w.heap.size, 3, none⟩ = some (.slice none 0 0) := Lib.cell_of_heap hb2 3
          have p4 : wr.cell? ⟨w.heap.size, 4, none⟩ = some (.slice none 0 0) := Lib.cell_of_heap hb2 4
          have p5 : wr.cell? ⟨w.heap.size, 5, none⟩ = some (.slice none 0 0) := Lib.cell_of_heap hb2 5
          have pf0 : wr.frozen? ⟨w.heap.size, 0, none⟩ = false := Lib.frozen_of_heap hb2 0
          have pf1 : wr.frozen? ⟨w.heap.size, 1, none⟩ = false := Lib.frozen_of_heap hb2 1
          have pf2 : wr.frozen? ⟨w.heap.size, 2, none⟩ = false := Lib.frozen_of_heap hb2 2
          have pf3 : wr.frozen? ⟨w.heap.size, 3, none⟩ = false := Lib.frozen_of_heap hb2 3
          have pf4 : wr.frozen? ⟨w.heap.size, 4, none⟩ = false := Lib.frozen_of_heap hb2 4
          have pf5 : wr.frozen? ⟨w.heap.size, 5, none⟩ = false := Lib.frozen_of_heap hb2 5
          have HB9 : Hid (Below w.heap.size w ((((((wr.setCell ⟨w.heap.size, 0, none⟩ (.bool X.r)).setCell ⟨w.heap.size, 1, none⟩ (.slice X.a1 X.n1 X.c1)).setCell ⟨w.heap.size, 2, none⟩ (.slice X.a2 X.n2 X.c2)).setCell ⟨w.heap.size, 3, none⟩ (.slice X.a3 X.n3 X.c3)).setCell ⟨w.heap.size, 4, none⟩ (.slice X.a4 X.n4 X.c4)).setCell ⟨w.heap.size, 5, none⟩ (.slice X.a5 X.n5 X.c5))) := hide (put6_below HPF.out.bel (Nat.le_refl _) X)
          have HG9 : Hid ((((((((wr.setCell ⟨w.heap.size, 0, none⟩ (.bool X.r)).setCell ⟨w.heap.size, 1, none⟩ (.slice X.a1 X.n1 X.c1)).setCell ⟨w.heap.size, 2, none⟩ (.slice X.a2 X.n2 X.c2)).setCell ⟨w.heap.size, 3, none⟩ (.slice X.a3 X.n3 X.c3)).setCell ⟨w.heap.size, 4, none⟩ (.slice X.a4 X.n4 X.c4)).setCell ⟨w.heap.size, 5, none⟩ (.slice X.a5 X.n5 X.c5))).cell? ⟨w.heap.size, 0, none⟩ = some (.bool X.r) ∧ (((((((wr.setCell ⟨w.heap.size, 0, none⟩ (.bool X.r)).setCell ⟨w.heap.size, 1, none⟩ (.slice X.a1 X.n1 X.c1)).setCell ⟨w.heap.size, 2, none⟩ (.slice X.a2 X.n2 X.c2)).setCell ⟨w.heap.size, 3, none⟩ (.slice X.a3 X.n3 X.c3)).setCell ⟨w.heap.size, 4, none⟩ (.slice X.a4 X.n4 X.c4)).setCell ⟨w.heap.size, 5, none⟩ (.slice X.a5 X.n5 X.c5))).cell? ⟨w.heap.size, 1, none⟩ = some (.slice X.a1 X.n1 X.c1) ∧ (((((((wr.setCell ⟨w.heap.size, 0, none⟩ (.bool X.r)).setCell ⟨w.heap.size, 1, none⟩ (.slice X.a1 X.n1 X.c1)).setCell ⟨w.heap.size, 2, none⟩ (.slice X.a2 X.n2 X.c2)).setCell ⟨w.heap.size, 3, none⟩ (.slice X.a3 X.n3 X.c3)).setCell ⟨w.heap.size, 4, none⟩ (.slice X.a4 X.n4 X.c4)).setCell ⟨w.heap.size, 5, none⟩ (.slice X.a5 X.n5 X.c5))).cell? ⟨w.heap.size, 2, none⟩ = some (.slice X.a2 X.n2 X.c2) ∧ (((((((wr.setCell ⟨w.heap.size, 0, none⟩ (.bool X.r)).setCell ⟨w.heap.size, 1, none⟩ (.slice X.a1 X.n1 X.c1)).setCell ⟨w.heap.size, 2, none⟩ (.slice X.a2 X.n2 X.c2)).setCell ⟨w.heap.size, 3, none⟩ (.slice X.a3 X.n3 X.c3)).setCell ⟨w.heap.size, 4, none⟩ (.slice X.a4 X.n4 X.c4)).setCell ⟨w.heap.size, 5, none⟩ (.slice X.a5 X.n5 X.c5))).cell? ⟨w.heap.size, 3, none⟩ = some (.slice X.a3 X.n3 X.c3) ∧ (((((((wr.setCell ⟨w.heap.size, 0, none⟩ (.bool X.r)).setCell ⟨w.heap.size, 1, none⟩ (.slice X.a1 X.n1 X.c1)).setCell ⟨w.heap.size, 2, none⟩ (.slice X.a2 X.n2 X.c2)).setCell ⟨w.heap.size, 3, none⟩ (.slice X.a3 X.n3 X.c3)).setCell ⟨w.heap.size, 4, none⟩ (.slice X.a4 X.n4 X.c4)).setCell ⟨w.heap.size, 5, none⟩ (.slice X.a5 X.n5 X.c5))).cell? ⟨w.heap.size, 4, none⟩ = some (.slice X.a4 X.n4 X.c4) ∧ (((((((wr.setCell ⟨w.heap.size, 0, none⟩ (.bool X.r)).setCell ⟨w.heap.size, 1, none⟩ (.slice X.a1 X.n1 X.c1)).setCell ⟨w.heap.size, 2, none⟩ (.slice X.a2 X.n2 X.c2)).setCell ⟨w.heap.size, 3, none⟩ (.slice X.a3 X.n3 X.c3)).setCell ⟨w.heap.size, 4, none⟩ (.slice X.a4 X.n4 X.c4)).setCell ⟨w.heap.size, 5, none⟩ (.slice X.a5 X.n5 X.c5))).cell? ⟨w.heap.size, 5, none⟩ = some (.slice X.a5 X.n5 X.c5)) := hide (box_cells (put6_box (y := Sv.zero) hb2 X))
          have HS9 : Hid (SpAt ((((((wr.setCell ⟨w.heap.size, 0, none⟩ (.bool X.r)).setCell ⟨w.heap.size, 1, none⟩ (.slice X.a1 X.n1 X.c1)).setCell ⟨w.heap.size, 2, none⟩ (.slice X.a2 X.n2 X.c2)).setCell ⟨w.heap.size, 3, none⟩ (.slice X.a3 X.n3 X.c3)).setCell ⟨w.heap.size, 4, none⟩ (.slice X.a4 X.n4 X.c4)).setCell ⟨w.heap.size, 5, none⟩ (.slice X.a5 X.n5 X.c5)) X r.sp) := hide (put6_rows (x := X) (y := Sv.zero) hb2 HPF.out.rows).spec
          clear hb2
          go_wp2
          (try simp only [Exit.inBlock, Exit.then])
          obtain ⟨g0, g1, g2, g3, g4, g5⟩ := HG9.out
          clear HG9
          generalize ((((((wr.setCell ⟨w.heap.size, 0, none⟩ (.bool X.r)).setCell ⟨w.heap.size, 1, none⟩ (.slice X.a1 X.n1 X.c1)).setCell ⟨w.heap.size, 2, none⟩ (.slice X.a2 X.n2 X.c2)).setCell ⟨w.heap.size, 3, none⟩ (.slice X.a3 X.n3 X.c3)).setCell ⟨w.heap.size, 4, none⟩ (.slice X.a4 X.n4 X.c4)).setCell ⟨w.heap.size, 5, none⟩ (.slice X.a5 X.n5 X.c5)) = W9 at *
          refine bodyPost_ret (v := .tuple #[.agg #[.bool X.r, .slice X.a1 X.n1 X.c1, .slice X.a2 X.n2 X.c2, .slice X.a3 X.n3 X.c3, .slice X.a4 X.n4 X.c4, .slice X.a5 X.n5 X.c5], .int .i64 0]) (by simp [results, Tryz.results18, go_sem, g0, g1, g2, g3, g4, g5]) rfl ?_
          exact ⟨X, by rw [HPE.out]; rfl, by rw [HPE.out]; exact HS9.out, HB9.out⟩
        · have HPE : Hid (parseP t.data.toList = (Sp.zero, k + 1, 2)) := hide (by
            rw [HP.out]
            unfold parseC
            simp only [HRF.out]
            rw [if_neg (fun e => hx e.2.1), HRI.out.2])
          have hxb : (xl == []) = false := by rw [beq_eq_false_iff_ne]; exact hx
          have hxc : (xl != []) = true := by simp [bne, hxb]
          have hxe : xl.isEmpty = false := by cases xl with | nil => exact absurd rfl hx | cons a b => rfl
          have HX := hide hx
          have HK0 := hide hk0
          clear hk0 hx
          have HPF := hide HI.out
          have hb2 := HPF.out.b2
          have p0 : wr.cell? ⟨w.heap.size, 0, none⟩ = some (.bool false) := Lib.cell_of_heap hb2 0
          have p1 : wr.cell? ⟨w.heap.size, 1, none⟩ = some (.slice none 0 0) := Lib.cell_of_heap hb2 1
          have p2 : wr.cell? ⟨w.heap.size, 2, none⟩ = some (.slice none 0 0) := Lib.cell_of_heap hb2 2
          have p3 : wr.cell? ⟨w.heap.size, 3, none⟩ = some (.slice none 0 0) := Lib.cell_of_heap hb2 3
          have p4 : wr.cell? ⟨w.heap.size, 4, none⟩ = some (.slice none 0 0) := Lib.cell_of_heap hb2 4
          have p5 : wr.cell? ⟨w.heap.size, 5, none⟩ = some (.slice none 0 0) := Lib.cell_of_heap hb2 5
          have pf0 : wr.frozen? ⟨w.heap.size, 0, none⟩ = false := Lib.frozen_of_heap hb2 0
          have pf1 : wr.frozen? ⟨w.heap.size, 1, none⟩ = false := Lib.frozen_of_heap hb2 1
          have pf2 : wr.frozen? ⟨w.heap.size, 2, none⟩ = false := Lib.frozen_of_heap hb2 2
          have pf3 : wr.frozen? ⟨w.heap.size, 3, none⟩ = false := Lib.frozen_of_heap hb2 3
          have pf4 : wr.frozen? ⟨w.heap.size, 4, none⟩ = false := Lib.frozen_of_heap hb2 4
          have pf5 : wr.frozen? ⟨w.heap.size, 5, none⟩ = false := Lib.frozen_of_heap hb2 5
          have HB9 : Hid (Below w.heap.size w ((((((wr.setCell ⟨w.heap.size, 0, none⟩ (.bool false)).setCell ⟨w.heap.size, 1, none⟩ (.slice none 0 0)).setCell ⟨w.heap.size, 2, none⟩ (.slice none 0 0)).setCell ⟨w.heap.size, 3, none⟩ (.slice none 0 0)).setCell ⟨w.heap.size, 4, none⟩ (.slice none 0 0)).setCell ⟨w.heap.size, 5, none⟩ (.slice none 0 0))) := hide (put6_below HPF.out.bel (Nat.le_refl _) Sv.zero)
          have HG9 : Hid ((((((((wr.setCell ⟨w.heap.size, 0, none⟩ (.bool false)).setCell ⟨w.heap.size, 1, none⟩ (.slice none 0 0)).setCell ⟨w.heap.size, 2, none⟩ (.slice none 0 0)).setCell ⟨w.heap.size, 3, none⟩ (.slice none 0 0)).setCell ⟨w.heap.size, 4, none⟩ (.slice none 0 0)).setCell ⟨w.heap.size, 5, none⟩ (.slice none 0 0))).cell? ⟨w.heap.size, 0, none⟩ = some (.bool false) ∧ (((((((wr.setCell ⟨w.heap.size, 0, none⟩ (.bool false)).setCell ⟨w.heap.size, 1, none⟩ (.slice none 0 0)).setCell ⟨w.heap.size, 2, none⟩ (.slice none 0 0)).setCell ⟨w.heap.size, 3, none⟩ (.slice none 0 0)).setCell ⟨w.heap.size, 4, none⟩ (.slice none 0 0)).setCell ⟨w.heap.size, 5, none⟩ (.slice none 0 0))).cell? ⟨w.heap.size, 1, none⟩ = some (.slice none 0 0) ∧ (((((((wr.setCell ⟨w.heap.size, 0, none⟩ (.bool false)).setCell ⟨w.heap.size, 1, none⟩ (.slice none 0 0)).setCell ⟨w.heap.size, 2, none⟩ (.slice none 0 0)).setCell ⟨w.heap.size, 3, none⟩ (.slice none 0 0)).setCell ⟨w.heap.size, 4, none⟩ (.slice none 0 0)).setCell ⟨w.heap.size, 5, none⟩ (.slice none 0 0))).cell? ⟨w.heap.size, 2, none⟩ = some (.slice none 0 0) ∧ (((((((wr.setCell ⟨w.heap.size, 0, none⟩ (.bool false)).setCell ⟨w.heap.size, 1, none⟩ (.slice none 0 0)).setCell ⟨w.heap.size, 2, none⟩ (.slice none 0 0)).setCell ⟨w.heap.size, 3, none⟩ (.slice none 0 0)).setCell ⟨w.heap.size, 4, none⟩ (.slice none 0 0)).setCell ⟨w.heap.size, 5, none⟩ (.slice none 0 0))).cell? ⟨w.heap.size, 3, none⟩ = some (.slice none 0 0) ∧ (((((((wr.setCell ⟨w.heap.size, 0, none⟩ (.bool false)).setCell ⟨w.heap.size, 1, none⟩ (.slice none 0 0)).setCell ⟨w.heap.size, 2, none⟩ (.slice none 0 0)).setCell ⟨w.heap.size, 3, none⟩ (.slice none 0 0)).setCell ⟨w.heap.size, 4, none⟩ (.slice none 0 0)).setCell ⟨w.heap.size, 5, none⟩ (.slice none 0 0))).cell? ⟨w.heap.size, 4, none⟩ = some (.slice none 0 0) ∧ (((((((wr.setCell ⟨w.heap.size, 0, none⟩ (.bool false)).setCell ⟨w.heap.size, 1, none⟩ (.slice none 0 0)).setCell ⟨w.heap.size, 2, none⟩ (.slice none 0 0)).setCell ⟨w.heap.size, 3, none⟩ (.slice none 0 0)).setCell ⟨w.heap.size, 4, none⟩ (.slice none 0 0)).setCell ⟨w.heap.size, 5, none⟩ (.slice none 0 0))).cell? ⟨w.heap.size, 5, none⟩ = some (.slice none 0 0)) := hide (box_cells (put6_box (y := Sv.zero) hb2 Sv.zero))
          clear hb2
          go_wp2
          (try simp only [Exit.inBlock, Exit.then])
          obtain ⟨g0, g1, g2, g3, g4, g5⟩ := HG9.out
          clear HG9
          generalize ((((((wr.setCell ⟨w.heap.size, 0, none⟩ (.bool false)).setCell ⟨w.heap.size, 1, none⟩ (.slice none 0 0)).setCell ⟨w.heap.size, 2, none⟩ (.slice none 0 0)).setCell ⟨w.heap.size, 3, none⟩ (.slice none 0 0)).setCell ⟨w.heap.size, 4, none⟩ (.slice none 0 0)).setCell ⟨w.heap.size, 5, none⟩ (.slice none 0 0)) = W9 at *
          refine bodyPost_ret (v := .tuple #[.agg #[.bool false, .slice none 0 0, .slice none 0 0, .slice none 0 0, .slice none 0 0, .slice none 0 0], .int .i64 ((k : Int) + 1)]) (by simp [results, Tryz.results18, go_sem, g0, g1, g2, g3, g4, g5]) rfl ?_
          exact ⟨Sv.zero, by rw [HPE.out]; rfl, by rw [HPE.out]; exact zero_at _, HB9.out⟩
end Go.Proofs.YtoihocbnhoniaaaGreatDoor.Wf
