/- The document's Print: a spec's text. A right spec's lines are short; the document's Lines of any right spec. -/
import Derived.Test.YtoihocbnhoniaaaGreatDoorQo43
import Derived.Test.YtoihocbnhoniaaaGreatDoorQo14
import Derived.Lib.AppendStr
import Derived.Lib.UnsafeStr
import Derived.Laws.BytesArg
import Derived.Lib.AppendZeros
namespace Go.Proofs.YtoihocbnhoniaaaGreatDoor.Wf
open Go.RowKit
set_option linter.unusedVariables false
set_option linter.unusedSimpArgs false

theorem info_byteP : (Tryz.prog.info? 5).map (fun i => (i.zero, i.size, i.bytes)) = some (some (.int .u8 0), 1, 1) := by kernel_rfl
theorem appb_form {w : World} {B : Nat} {E : TypeId} {size : Nat} {v : Value} {n : Nat} {xs : List Value} (h : w.ownsRow B E size v n xs) : ∃ ao cap, v = .slice ao n cap := by
  rcases h.2 with ⟨rfl, h0⟩ | ⟨g, cap, cur, rfl, _⟩
  · exact ⟨none, 0, by rw [h0]⟩
  · exact ⟨_, cap, rfl⟩
theorem appb_str (w : World) (base : Nat) (ao : Option Addr) (n cap : Nat) (xs : List UInt8) (s : ByteArray) (h : w.ownsRow base 5 1 (.slice ao n cap) n (Lib.byteCells xs)) (hn : n ≤ 10000000000) (hs : s.size ≤ 1000000) (hb : base ≤ w.heap.size) :
    ∃ ao1 cap1 w1, (Builtin.append_ #[91, 9] 91 #[.slice ao n cap, .string s]).run Tryz.prog w = .ok (.slice ao1 (n + s.size) cap1) w1 ∧ w1.ownsRow base 5 1 (.slice ao1 (n + s.size) cap1) (n + s.size) (Lib.byteCells (xs ++ s.data.toList)) ∧ Below base w w1 := by
  obtain ⟨i0, hi, hz0, hz1, hz2⟩ := info_parts info_byteP
  obtain ⟨v', w', hr, h2, h3, _⟩ := Lib.run_append_own_string (P := Tryz.prog) w base 91 9 91 5 i0 Tryz.underlying91 Tryz.underlying9 hi hz0 hz1 hz2 (.slice ao n cap) n (Lib.byteCells xs) h s (by unfold maxLen; omega) (by omega) hb
  obtain ⟨ao1, cap1, rfl⟩ := appb_form h2
  refine ⟨ao1, cap1, w', hr, ?_, ⟨h3.os, h3.tape, h3.output, h3.size, fun k hk => h3.block k (by omega) (fun e => by have := (h.lt k e.symm).1; omega)⟩⟩
  rw [Lib.byteCells_append]
  exact h2
theorem appb_nl (w : World) (base : Nat) (ao : Option Addr) (n cap : Nat) (xs : List UInt8) (h : w.ownsRow base 5 1 (.slice ao n cap) n (Lib.byteCells xs)) (hn : n ≤ 10000000000) (hb : base ≤ w.heap.size) :
    ∃ g cap1 w1, (Builtin.append_ #[91, 91] 91 #[.slice ao n cap, .slice (some ⟨w.heap.size, 0, none⟩) 1 1]).run Tryz.prog (w.alloc (.cells #[.int .u8 10] 5)) = .ok (.slice (some ⟨g, 0, none⟩) (n + 1) cap1) w1 ∧ w1.ownsRow base 5 1 (.slice (some ⟨g, 0, none⟩) (n + 1) cap1) (n + 1) (Lib.byteCells (xs ++ [10])) ∧ Below base w w1 := by
  obtain ⟨i0, hi, hz0, hz1, hz2⟩ := info_parts info_byteP
  obtain ⟨g, cap1, w1, hrun, hown, hgrow, _, _⟩ := run_append_lies (P := Tryz.prog) (w.alloc (.cells #[.int .u8 10] 5)) 91 91 base 5 i0 _ 1 1 Tryz.underlying91 hi hz0 hz1 hz2 rfl (by omega) (.slice ao n cap) n (Lib.byteCells xs) (h.alloc _) ⟨w.heap.size, 0, none⟩ 1 1 [.int .u8 10] rfl (World.news_of_block (heap_alloc_new w _)) (by simp [Value.oneCell']) (by omega) (by unfold maxLen; omega) (by omega) (by simp; omega) (w.heap.size + 1) (by simp)
  refine ⟨g, cap1, w1, hrun, by rw [Lib.byteCells_append]; exact hown, ?_⟩
  exact ((low_alloc w _).mono hb).trans ⟨hgrow.os, hgrow.tape, hgrow.output, hgrow.size, fun k hk => hgrow.block k (by simp; omega) (fun e => by have := (h.lt k e.symm).1; omega)⟩
theorem strb_nums (l : List UInt8) : strOfNums (l.map (fun c => (c.toNat : Int))) = ⟨l.toArray⟩ := by
  rw [strOfNums]
  congr 2
  rw [List.map_map]
  conv => rhs; rw [← List.map_id l]
  refine List.map_congr_left (fun x _ => ?_)
  simp
theorem convb_row (w : World) (base : Nat) (ao : Option Addr) (n cap : Nat) (xs : List UInt8) (h : w.ownsRow base 5 1 (.slice ao n cap) n (Lib.byteCells xs)) : (convert 91 9 (.slice ao n cap)).run Tryz.prog w = .ok (.string ⟨xs.toArray⟩) w := by
  have hl : xs.length = n := by have := h.1; simp [Lib.byteCells] at this; omega
  rcases h.2 with ⟨hv, h0⟩ | ⟨g, c, cur, hv, _⟩
  · simp only [Value.slice.injEq] at hv
    obtain ⟨rfl, rfl, rfl⟩ := hv
    have : xs = [] := List.eq_nil_of_length_eq_zero hl
    subst this
    exact run_convert_bytes_nil (P := Tryz.prog) w 91 5 Tryz.underlying91 Tryz.underlying5 0 0 9 Tryz.underlying9
  · simp only [Value.slice.injEq] at hv
    obtain ⟨rfl, _, rfl⟩ := hv
    have hc := run_convert_bytes_arg (P := Tryz.prog) w 91 5 Tryz.underlying91 Tryz.underlying5 g 0 n cap (xs.map (fun c => (c.toNat : Int))) (by simpa using hl) (fun i hi => by
      rw [Nat.zero_add, h.cellAt i (by omega)]
      simp [Lib.byteCells, List.getD_eq_getElem?_getD, List.getElem?_eq_getElem (show i < xs.length by omega)]) 9 Tryz.underlying9
    rw [strb_nums] at hc
    exact hc
theorem txt_snoc (l : List (List UInt8)) (y : List UInt8) : txt (l ++ [y]) = (txt l ++ y) ++ [10] := by simp [txt]

set_option maxRecDepth 20000 in
set_option maxHeartbeats 8000000 in
theorem rprint_any (x : Sv) (s : Sp) (w : World) (hL : Calls Tryz.prog 44 #[.agg x.cs] (w.alloc (.cells x.cs 28)) fun e w' => LinP (w.alloc (.cells x.cs 28)) s e w') (hn : s.lines.length ≤ 10000) (hl : ∀ y ∈ s.lines, y.length ≤ 100000) :
    Calls Tryz.prog 15 #[.agg x.cs] w fun e w' => e = .returned (.string ⟨s.text.toArray⟩) ∧ Below w.heap.size w w' := by
  obtain ⟨T, hT⟩ : ∃ T, s.text = T := ⟨_, rfl⟩
  have HT : Hid (txt s.lines = T) := hide hT
  rw [hT]
  clear hT
  obtain ⟨x0, x1, x2, x3, x4, x5⟩ := BxS.new w x 28
  have HLY := hide hl
  have hlo := low_alloc w (.cells x.cs 28)
  go_enter Tryz.func15, Tryz.ntmps15
  go_wp2_with fail
  refine hL.mono ?_
  rintro e w2 ⟨⟨aL, cL, rfl, hrow⟩, hb2⟩
  generalize s.lines = ls at *
  generalize hN : ls.length = N at *
  have HN := hide hN
  have HB2 := hide (hlo.trans (hb2.mono hlo.size))
  have HROW := hide hrow
  have hlo3 := low_alloc w2 (.cells #[] 5)
  have HO := hide (World.ownsRow_lit (base := w2.heap.size) (e := 5) (size := 1) w2 #[] 0 (Nat.le_refl _) (by unfold maxLen; omega) (by simp))
  have HB3 := hide hlo3
  clear hN hb2 hlo hrow hlo3 x0 x1 x2 x3 x4 x5 hL hl
  go_wp2
  go_loopw [4, 5] (fun a i wr => ∃ (k m : Nat) (ao : Option Addr) (cap : Nat), a = .slice ao m cap ∧ i = .int .i64 k ∧ k ≤ N ∧ m ≤ k * 100001 ∧ Hid (m = (txt (ls.take k)).length) ∧ Hid (wr.ownsRow w2.heap.size 5 1 (.slice ao m cap) m (Lib.byteCells (txt (ls.take k)))) ∧ Hid (Below w2.heap.size w2 wr)) (fun _ i _ => N - (intOf i).toNat)
  case atStart => exact ⟨0, 0, _, 0, rfl, rfl, Nat.zero_le _, by omega, hide rfl, hide (by simpa [txt, Lib.byteCells] using HO.out), HB3⟩
  case round =>
    obtain ⟨k, m, ao, cap, rfl, rfl, hkn, hmk, HM, HR, HB⟩ := hrel
    by_cases hlt : k < N
    · have hk0 : (0 : Int) ≤ (k : Int) := by omega
      have hk1 : (k : Int) < (N : Int) := by omega
      have hkl : k < ls.length := by rw [HN.out]; exact hlt
      obtain ⟨g, c, hv, _, hg⟩ := HROW.out.form (by omega)
      simp only [Value.slice.injEq] at hv
      obtain ⟨rfl, -, rfl⟩ := hv
      have c0 : wr.cell? ⟨g, k, none⟩ = some (.string ⟨(ls.getD k []).toArray⟩) := by
        refine (bcell HB.out hg).trans ?_
        rw [HROW.out.cellAt k (by omega)]
        simp [tv, List.getD_eq_getElem?_getD, List.getElem?_eq_getElem hkl]
      have hyl : (ls.getD k []).length ≤ 100000 := mem_getD2 HLY.out [] hkl
      have HTK : Hid (txt (ls.take (k + 1)) = (txt (ls.take k) ++ ls.getD k []) ++ [10]) := hide (by
        rw [List.take_succ_eq_append_getElem hkl, txt_snoc, List.getD_eq_getElem?_getD, List.getElem?_eq_getElem hkl]
        rfl)
      clear hkl
      generalize ls.getD k [] = y at *
      have hys : (⟨y.toArray⟩ : ByteArray).size = y.length := by simp [ByteArray.size]
      obtain ⟨a1, cap1, w3, hrun1, hown1, hb1⟩ := appb_str wr w2.heap.size ao m cap _ ⟨y.toArray⟩ HR.out (by omega) (by omega) HB.out.size
      have hb13 := HB.out.trans hb1
      obtain ⟨g4, cap4, w4, hrun2, hown2, hb24⟩ := appb_nl w3 w2.heap.size a1 (m + (⟨y.toArray⟩ : ByteArray).size) cap1 _ hown1 (by omega) hb13.size
      have HRUN1 := hide hrun1
      have HRUN2 := hide hrun2
      have HR2 := hide hown2
      have HB4 := hide (hb13.trans hb24)
      have HYS := hide hys
      clear hrun1 hrun2 hown1 hown2 hb1 hb13 hb24 hys
      go_wp2_with (first | (at_builtin; refine Lib.wpList_append_run _ rfl _ _ _ _ rfl _ _ rfl rfl _ _ HRUN1.out ?_) | (at_builtin; refine Lib.wpList_append_run _ rfl _ _ _ _ rfl _ _ rfl rfl _ _ HRUN2.out ?_))
      refine ⟨⟨k + 1, m + (⟨y.toArray⟩ : ByteArray).size + 1, _, cap4, rfl, by go_num, by omega, by have := HYS.out; omega, hide ?_, hide ?_, HB4⟩, by simp [intOf]; omega⟩
      · rw [HTK.out, HYS.out, List.length_append, List.length_append, ← HM.out]
        rfl
      · rw [HTK.out]
        exact HR2.out
    · obtain rfl : k = N := by omega
      have hrun := convb_row wr w2.heap.size ao m cap _ HR.out
      rw [List.take_of_length_le (by rw [HN.out]; exact Nat.le_refl _), HT.out] at hrun
      have HBF := hide (HB2.out.trans (HB.out.mono HB2.out.size))
      go_wp2
      go_ret
      exact ⟨rfl, HBF.out⟩
end Go.Proofs.YtoihocbnhoniaaaGreatDoor.Wf

namespace Go.Proofs.YtoihocbnhoniaaaGreatDoor.Wf
open Go.RowKit
set_option linter.unusedVariables false
set_option linter.unusedSimpArgs false

theorem itoa_len21 {n : Int} (h : I64 n) : (Lib.itoa n).length ≤ 21 := Lib.itoa_length_le n h.1 h.2
theorem ok_i64 {n : Int} (h0 : 0 ≤ n) (h1 : n ≤ 1073741824) : I64 n := ⟨by omega, by omega⟩
theorem hexb_le {t : ByteArray} (h : t.size ≤ 64) : (hexb t).length ≤ 129 := by
  have := hexS_size t
  have e : (hexb t).length = (hexS t).size := Array.length_toList
  omega
/-- A right spec's lines are short. -/
theorem line_short {s : Sp} (h : s.Right) : ∀ l ∈ s.lines, l.length ≤ 200 := by
  intro l hl
  simp only [Sp.lines, Sp.body, List.mem_cons, List.mem_append, List.mem_map] at hl
  rcases hl with rfl | ⟨x, hx, rfl⟩ | ⟨x, hx, rfl⟩ | ⟨x, hx, rfl⟩ | ⟨x, hx, rfl⟩ | ⟨x, hx, rfl⟩
  · cases s.ranked <;> decide
  · have := of_decide_eq_true (h.am x hx)
    have h1 := itoa_len21 (ok_i64 (n := x.1) (by omega) (by omega))
    have h2 := itoa_len21 (ok_i64 (n := x.2) (by omega) (by omega))
    simp [lM, ln, wMerge]; omega
  · have := of_decide_eq_true (h.atk x hx)
    have h1 := hexb_le (t := x) (by omega)
    simp [lT, ln, wToken]; omega
  · have := of_decide_eq_true (h.asp x hx)
    have h1 := itoa_len21 (ok_i64 (n := x.1) (by omega) (by omega))
    have h2 := hexb_le (t := x.2) (by omega)
    simp [lS, ln, wSpecial]; omega
  · have := of_decide_eq_true (h.ac x hx)
    have h1 := itoa_len21 (ok_i64 (n := x.1) (by omega) (by omega))
    have h2 := itoa_len21 (ok_i64 (n := x.2.1) (by omega) (by omega))
    have h3 := itoa_len21 (ok_i64 (n := x.2.2) (by omega) (by omega))
    simp [lC, ln, wClass]; omega
  · have := of_decide_eq_true (h.aj x hx)
    have h1 := itoa_len21 (ok_i64 (n := x.1) (by omega) (by omega))
    have h2 := itoa_len21 (ok_i64 (n := x.2) (by omega) (by omega))
    simp [lJ, ln, wJoin]; omega
theorem lnb_right {x : Sv} {s : Sp} {W : World} (h : s.Right) (hS : SpAt W x s) : LnB x s := by
  have hrm : roomM s.ranked ≤ 744 := by unfold roomM; split <;> omega
  have hrt : roomT s.ranked ≤ 744 := by unfold roomT; split <;> omega
  have q1 := h.nm; have q2 := h.nt; have q3 := h.ns; have q4 := h.nc; have q5 := h.nj
  have l1 := hS.ms.1; have l2 := hS.ts.1; have l3 := hS.ss.1; have l4 := hS.cs.1; have l5 := hS.js.1
  have hm : ∀ m ∈ s.merges, I64 m.1 ∧ I64 m.2 := fun m hm => by have := of_decide_eq_true (h.am m hm); exact ⟨ok_i64 (by omega) (by omega), ok_i64 (by omega) (by omega)⟩
  have ht : ∀ m ∈ s.tokens, m.size ≤ 100000 := fun m hm => by have := of_decide_eq_true (h.atk m hm); omega
  have hs : ∀ m ∈ s.specials, I64 m.1 ∧ m.2.size ≤ 100000 := fun m hm => by have := of_decide_eq_true (h.asp m hm); exact ⟨ok_i64 (by omega) (by omega), by omega⟩
  have hc : ∀ m ∈ s.classes, I64 m.1 ∧ I64 m.2.1 ∧ I64 m.2.2 := fun m hm => by have := of_decide_eq_true (h.ac m hm); exact ⟨ok_i64 (by omega) (by omega), ok_i64 (by omega) (by omega), ok_i64 (by omega) (by omega)⟩
  have hj : ∀ m ∈ s.joins, I64 m.1 ∧ I64 m.2 := fun m hm => by have := of_decide_eq_true (h.aj m hm); exact ⟨ok_i64 (by omega) (by omega), ok_i64 (by omega) (by omega)⟩
  exact ⟨fun k hk => mem_getD2 hm (0, 0) (by omega), fun k hk => mem_getD2 ht ⟨#[]⟩ (by omega), fun k hk => mem_getD2 hs (0, ⟨#[]⟩) (by omega), fun k hk => mem_getD2 hc (0, 0, 0) (by omega), fun k hk => mem_getD2 hj (0, 0) (by omega), by omega, by omega, by omega, by omega, by omega⟩
theorem rlines_both (x : Sv) (s : Sp) (w : World) (h : SpAt w x s) (hb : LnB x s) : Calls Tryz.prog 44 #[.agg x.cs] w fun e w' => LinP w s e w' := by
  cases hx : x.r with
  | true => exact rlines_true x s w h hb hx
  | false => exact rlines_false x s w h hb hx

end Go.Proofs.YtoihocbnhoniaaaGreatDoor.Wf
