/- The walk of SpecPrints. -/
import Derived.Test.YteiinkhdgppgbaaGreatDoorSpSe
import Derived.Test.YteiinkhdgppgbaaGreatDoorSpPr
import Derived.Test.YteiinkhdgppgbaaGreatDoorSpRt
import Derived.Test.YteiinkhdgppgbaaGreatDoorSpAw
import Derived.Test.YteiinkhdgppgbaaGreatDoorSpGr
import Derived.Test.YteiinkhdgppgbaaGreatDoorSpG3
namespace Go.Proofs.YteiinkhdgppgbaaGreatDoor
open Go.RowKit
set_option linter.unusedVariables false
set_option linter.unusedSimpArgs false

/-- The worlds behind one. -/
structure ReD (w7 : World) where
  W : World
  h : Below w7.heap.size w7 W
theorem itoa_len21 {n : Int} (h : I64 n) : (Lib.itoa n).length ≤ 21 := Lib.itoa_length_le n h.1 h.2
theorem ok_i64 {n : Int} (h0 : 0 ≤ n) (h1 : n ≤ 1073741824) : I64 n := ⟨by omega, by omega⟩
theorem hexb_le {t : ByteArray} (h : t.size ≤ 64) : (hexb t).length ≤ 129 := by
  have := hexS_size t
  have e : (hexb t).length = (hexS t).size := Array.length_toList
  omega
/-- A right spec's lines are short. -/
theorem line_short {s : Sp} (h : s.Right) : ∀ l ∈ s.lines, l.length ≤ 200 := by
  intro l hl
  simp only [Sp.lines, Sp.body, List.mem_cons, List.mem_append, List.mem_map] at hl
  rcases hl with rfl | ⟨x, hx, rfl⟩ | ⟨x, hx, rfl⟩ | ⟨x, hx, rfl⟩ | ⟨x, hx, rfl⟩ | ⟨x, hx, rfl⟩
  · cases s.ranked <;> decide
  · have := of_decide_eq_true (h.am x hx)
    have h1 := itoa_len21 (ok_i64 (n := x.1) (by omega) (by omega))
    have h2 := itoa_len21 (ok_i64 (n := x.2) (by omega) (by omega))
    simp [lM, ln, wMerge]; omega
  · have := of_decide_eq_true (h.atk x hx)
    have h1 := hexb_le (t := x) (by omega)
    simp [lT, ln, wToken]; omega
  · have := of_decide_eq_true (h.asp x hx)
    have h1 := itoa_len21 (ok_i64 (n := x.1) (by omega) (by omega))
    have h2 := hexb_le (t := x.2) (by omega)
    simp [lS, ln, wSpecial]; omega
  · have := of_decide_eq_true (h.ac x hx)
    have h1 := itoa_len21 (ok_i64 (n := x.1) (by omega) (by omega))
    have h2 := itoa_len21 (ok_i64 (n := x.2.1) (by omega) (by omega))
    have h3 := itoa_len21 (ok_i64 (n := x.2.2) (by omega) (by omega))
    simp [lC, ln, wClass]; omega
  · have := of_decide_eq_true (h.aj x hx)
    have h1 := itoa_len21 (ok_i64 (n := x.1) (by omega) (by omega))
    have h2 := itoa_len21 (ok_i64 (n := x.2) (by omega) (by omega))
    simp [lJ, ln, wJoin]; omega
theorem txt_lenB (n : Nat) : ∀ ls : List (List UInt8), (∀ l ∈ ls, l.length ≤ n) → (txt ls).length ≤ ls.length * (n + 1)
  | [], _ => by simp [txt]
  | l :: ls, h => by
    have h1 := txt_lenB n ls (fun x hx => h x (List.mem_cons_of_mem _ hx))
    have h2 := h l List.mem_cons_self
    have e : txt (l :: ls) = (l ++ [10]) ++ txt ls := by simp [txt]
    have e2 : (l :: ls).length * (n + 1) = ls.length * (n + 1) + (n + 1) := by rw [List.length_cons, Nat.succ_mul]
    have e3 : (txt (l :: ls)).length = l.length + 1 + (txt ls).length := by rw [e, List.length_append, List.length_append]; rfl
    omega
theorem lnb_right {x : Sv} {s : Sp} {W : World} (h : s.Right) (hS : SpAt W x s) : LnB x s := by
  have hrm : roomM s.ranked ≤ 744 := by unfold roomM; split <;> omega
  have hrt : roomT s.ranked ≤ 744 := by unfold roomT; split <;> omega
  have q1 := h.nm; have q2 := h.nt; have q3 := h.ns; have q4 := h.nc; have q5 := h.nj
  have l1 := hS.ms.1; have l2 := hS.ts.1; have l3 := hS.ss.1; have l4 := hS.cs.1; have l5 := hS.js.1
  have hm : ∀ m ∈ s.merges, I64 m.1 ∧ I64 m.2 := fun m hm => by have := of_decide_eq_true (h.am m hm); exact ⟨ok_i64 (by omega) (by omega), ok_i64 (by omega) (by omega)⟩
  have ht : ∀ m ∈ s.tokens, m.size ≤ 100000 := fun m hm => by have := of_decide_eq_true (h.atk m hm); omega
  have hs : ∀ m ∈ s.specials, I64 m.1 ∧ m.2.size ≤ 100000 := fun m hm => by have := of_decide_eq_true (h.asp m hm); exact ⟨ok_i64 (by omega) (by omega), by omega⟩
  have hc : ∀ m ∈ s.classes, I64 m.1 ∧ I64 m.2.1 ∧ I64 m.2.2 := fun m hm => by have := of_decide_eq_true (h.ac m hm); exact ⟨ok_i64 (by omega) (by omega), ok_i64 (by omega) (by omega), ok_i64 (by omega) (by omega)⟩
  have hj : ∀ m ∈ s.joins, I64 m.1 ∧ I64 m.2 := fun m hm => by have := of_decide_eq_true (h.aj m hm); exact ⟨ok_i64 (by omega) (by omega), ok_i64 (by omega) (by omega)⟩
  exact ⟨fun k hk => mem_getD2 hm (0, 0) (by omega), fun k hk => mem_getD2 ht ⟨#[]⟩ (by omega), fun k hk => mem_getD2 hs (0, ⟨#[]⟩) (by omega), fun k hk => mem_getD2 hc (0, 0, 0) (by omega), fun k hk => mem_getD2 hj (0, 0) (by omega), by omega, by omega, by omega, by omega, by omega⟩
theorem rlines_both (x : Sv) (s : Sp) (w : World) (h : SpAt w x s) (hb : LnB x s) : Calls Tryz.prog 37 #[.agg x.cs] w fun e w' => LinP w s e w' := by
  cases hx : x.r with
  | true => exact rlines_true x s w h hb hx
  | false => exact rlines_false x s w h hb hx

set_option maxHeartbeats 16000000 in
set_option maxRecDepth 20000 in
theorem prints_walk (x y : Sv) (s u : Sp) (w : World) (hE : Env w) (hx : SpAt w x s) (hy : SpAt w y u) :
    Calls Tryz.prog 3 #[.agg x.cs, .agg y.cs] w fun e w' => e = .returned (.bool true) ∧ Below w.heap.size w w' := by
  have HI := hide (SmK.new hx hy 28)
  have HAW : Hid (∀ W, Below w.heap.size w W → Calls Tryz.prog 7 #[] W fun e w' => e = .returned (.bool true) ∧ Below W.heap.size W w') := hide fun W hb => awake6_any W (hE.kept hb)
  have HPR : Hid (∀ W, SmK w x y s u W → Calls Tryz.prog 8 #[.agg x.cs] W fun e w' => e = .returned (.tuple #[.string (printP s).1, .int .i64 (printP s).2]) ∧ Below W.heap.size W w') := hide fun W h => print_any x s W (hE.kept h.bel) h.sx
  clear hE hx hy
  have KG := great3_any x s _ HI.out.sx
  obtain ⟨y0, y1, y2, y3, y4, y5⟩ := HI.out.bx
  obtain ⟨v0, v1, v2, v3, v4, v5⟩ := HI.out.bz
  go_enter Tryz.func3, Tryz.ntmps3
  go_wp2_with fail
  refine KG.mono ?_
  clear KG y0 y1 y2 y3 y4 y5 v0 v1 v2 v3 v4 v5
  rintro e w1 ⟨hG, hb⟩
  replace HI := hide (HI.out.next hb)
  clear hb
  obtain ⟨y0, y1, y2, y3, y4, y5⟩ := HI.out.bx
  obtain ⟨v0, v1, v2, v3, v4, v5⟩ := HI.out.bz
  rcases hG with rfl | ⟨rfl, g1, g2, g3, g4, g5⟩
  · go_wp2_with fail
    refine (HAW.out _ HI.out.bel).mono ?_
    rintro e w2 ⟨rfl, hb⟩
    have HB := hide (HI.out.bel.trans (hb.mono HI.out.bel.size))
    clear hb
    go_wp2
    go_ret
    exact ⟨rfl, HB.out⟩
  have HNO : Hid (NOk x) := hide ⟨by omega, by omega, by omega, by omega, by omega⟩
  have HGB := hide (And.intro g1 (And.intro g2 (And.intro g3 (And.intro g4 g5))))
  clear g1 g2 g3 g4 g5
  have KG := great_any y u _ HI.out.sy
  go_wp2_with fail
  refine KG.mono ?_
  clear KG y0 y1 y2 y3 y4 y5 v0 v1 v2 v3 v4 v5
  rintro e w1 ⟨⟨zg, rfl⟩, hb⟩
  replace HI := hide (HI.out.next hb)
  clear hb
  obtain ⟨y0, y1, y2, y3, y4, y5⟩ := HI.out.bx
  obtain ⟨v0, v1, v2, v3, v4, v5⟩ := HI.out.bz
  cases zg with
  | true =>
    go_wp2_with fail
    refine (HAW.out _ HI.out.bel).mono ?_
    rintro e w2 ⟨rfl, hb⟩
    have HB := hide (HI.out.bel.trans (hb.mono HI.out.bel.size))
    clear hb
    go_wp2
    go_ret
    exact ⟨rfl, HB.out⟩
  | false =>
    go_wp2_with fail
    refine (HPR.out _ HI.out).mono ?_
    clear y0 y1 y2 y3 y4 y5 v0 v1 v2 v3 v4 v5
    rintro e w2 ⟨rfl, hb⟩
    replace HI := hide (HI.out.next hb)
    clear hb
    obtain ⟨y0, y1, y2, y3, y4, y5⟩ := HI.out.bx
    obtain ⟨v0, v1, v2, v3, v4, v5⟩ := HI.out.bz
    go_wp2_with fail
    refine (rright_any x s _ HI.out.sx).mono ?_
    clear y0 y1 y2 y3 y4 y5 v0 v1 v2 v3 v4 v5
    rintro e w3 ⟨rfl, hb⟩
    replace HI := hide (HI.out.next hb)
    clear hb
    have KR := hide (fun (p : ReD w3) => (right_any x s p.W (HI.out.next p.h).sx).mono (R' := fun e w' => e = .returned (.bool (rightB s)) ∧ ∃ p' : ReD w3, w' = p'.W) (fun e w' ⟨he, hb⟩ => ⟨he, ⟨w', p.h.trans (hb.mono p.h.size)⟩, rfl⟩))
    have KS := hide (fun (p : ReD w3) => (ssame_any x y s u p.W (HI.out.next p.h).sx (HI.out.next p.h).sy HNO.out).mono (R' := fun e w' => e = .returned (.bool (sameP s u)) ∧ ∃ p' : ReD w3, w' = p'.W) (fun e w' ⟨he, hb⟩ => ⟨he, ⟨w', p.h.trans (hb.mono p.h.size)⟩, rfl⟩))
    have KS2 := hide (fun (p : ReD w3) => (ssame_any x x s s p.W (HI.out.next p.h).sx (HI.out.next p.h).sx HNO.out).mono (R' := fun e w' => e = .returned (.bool true) ∧ ∃ p' : ReD w3, w' = p'.W) (fun e w' ⟨he, hb⟩ => ⟨by rw [he, sameP_self], ⟨w', p.h.trans (hb.mono p.h.size)⟩, rfl⟩))
    have KT := hide (fun (p : ReD w3) => (rsame_any x y s u p.W (HI.out.next p.h).sx (HI.out.next p.h).sy HNO.out).mono (R' := fun e w' => e = .returned (.bool (sameP s u)) ∧ ∃ p' : ReD w3, w' = p'.W) (fun e w' ⟨he, hb⟩ => ⟨he, ⟨w', p.h.trans (hb.mono p.h.size)⟩, rfl⟩))
    have e0 : ∀ p : ReD w3, p.W.cell? ⟨w.heap.size, 0, none⟩ = some (.bool x.r) := fun p => (HI.out.next p.h).bx.1
    have e1 : ∀ p : ReD w3, p.W.cell? ⟨w.heap.size, 1, none⟩ = some (.slice x.a1 x.n1 x.c1) := fun p => (HI.out.next p.h).bx.2.1
    have e2 : ∀ p : ReD w3, p.W.cell? ⟨w.heap.size, 2, none⟩ = some (.slice x.a2 x.n2 x.c2) := fun p => (HI.out.next p.h).bx.2.2.1
    have e3 : ∀ p : ReD w3, p.W.cell? ⟨w.heap.size, 3, none⟩ = some (.slice x.a3 x.n3 x.c3) := fun p => (HI.out.next p.h).bx.2.2.2.1
    have e4 : ∀ p : ReD w3, p.W.cell? ⟨w.heap.size, 4, none⟩ = some (.slice x.a4 x.n4 x.c4) := fun p => (HI.out.next p.h).bx.2.2.2.2.1
    have e5 : ∀ p : ReD w3, p.W.cell? ⟨w.heap.size, 5, none⟩ = some (.slice x.a5 x.n5 x.c5) := fun p => (HI.out.next p.h).bx.2.2.2.2.2
    have f0 : ∀ p : ReD w3, p.W.cell? ⟨w.heap.size + 1, 0, none⟩ = some (.bool y.r) := fun p => (HI.out.next p.h).bz.1
    have f1 : ∀ p : ReD w3, p.W.cell? ⟨w.heap.size + 1, 1, none⟩ = some (.slice y.a1 y.n1 y.c1) := fun p => (HI.out.next p.h).bz.2.1
    have f2 : ∀ p : ReD w3, p.W.cell? ⟨w.heap.size + 1, 2, none⟩ = some (.slice y.a2 y.n2 y.c2) := fun p => (HI.out.next p.h).bz.2.2.1
    have f3 : ∀ p : ReD w3, p.W.cell? ⟨w.heap.size + 1, 3, none⟩ = some (.slice y.a3 y.n3 y.c3) := fun p => (HI.out.next p.h).bz.2.2.2.1
    have f4 : ∀ p : ReD w3, p.W.cell? ⟨w.heap.size + 1, 4, none⟩ = some (.slice y.a4 y.n4 y.c4) := fun p => (HI.out.next p.h).bz.2.2.2.2.1
    have f5 : ∀ p : ReD w3, p.W.cell? ⟨w.heap.size + 1, 5, none⟩ = some (.slice y.a5 y.n5 y.c5) := fun p => (HI.out.next p.h).bz.2.2.2.2.2
    have ne : Nonempty (ReD w3) := ⟨⟨w3, Below.refl _ _⟩⟩
    have HRI := hide (rightB_iff s)
    have HPP : Hid (printP s = if rightB s = true then (if 60000 < s.text.length then ((⟨#[]⟩ : ByteArray), (3 : Int)) else (⟨s.text.toArray⟩, 0)) else (⟨#[]⟩, 1)) := hide (by unfold printP; rfl)
    generalize rightB s = rb at *
    generalize sameP s u = sp at *
    cases rb with
    | false =>
      have hpp : printP s = (⟨#[]⟩, 1) := by rw [HPP.out, if_neg (by decide)]
      rw [hpp]
      clear hpp
      cases sp
      all_goals
        go_wp2
        refine region_class (α := ReD w3) ReD.W (by kernel_rfl) (by kernel_rfl) ⟨w3.drew, below_drew (Below.refl _ _)⟩ rfl ?_
        repeat (go_big_quiet_step (first
          | (go_at_call 10; exact KR.out _)
          | (go_at_call 12; exact KT.out _)
          | (go_at_call 11; first | with_reducible exact KS.out _ | with_reducible exact KS2.out _)))
        refine wpQuiet_nil ?_
        intro W8 hw'
        have hW8 : Below w3.heap.size w3 W8 := by
          obtain ⟨⟨Wx, hx⟩, e⟩ := hw'
          rw [e]
          exact hx
        clear hw' e0 e1 e2 e3 e4 e5 f0 f1 f2 f3 f4 f5 ne
        have HI8 := hide (HI.out.next hW8)
        clear hW8
        go_wp2_with fail
        refine (HAW.out _ HI8.out.bel).mono ?_
        rintro e w9 ⟨rfl, hb⟩
        have HB := hide (HI8.out.bel.trans (hb.mono HI8.out.bel.size))
        clear hb
        go_wp2
        go_ret
        exact ⟨rfl, HB.out⟩
    | true =>
      have hR : s.Right := HRI.out.1 rfl
      have hsh := line_short hR
      have hll : s.lines.length ≤ 281 := by
        have hb := HGB.out
        have q1 := hR.nm; have q2 := hR.nt; have q3 := hR.ns; have q4 := hR.nc; have q5 := hR.nj
        have l1 := HI.out.sx.ms.1; have l2 := HI.out.sx.ts.1
        have hrm : roomM s.ranked ≤ 744 := by unfold roomM; split <;> omega
        simp only [Sp.lines, Sp.body, List.length_cons, List.length_append, List.length_map]
        omega
      have htl : s.text.length ≤ 60000 := by
        have := txt_lenB 200 s.lines hsh
        unfold Sp.text
        have h2 : s.lines.length * (200 + 1) ≤ 281 * (200 + 1) := Nat.mul_le_mul_right _ hll
        omega
      have hpp : printP s = (⟨s.text.toArray⟩, 0) := by rw [HPP.out, if_pos rfl, if_neg (by omega)]
      rw [hpp]
      have HSH := hide (And.intro hR (And.intro hsh hll))
      clear hpp hR hsh hll htl
      have hss : ((⟨s.text.toArray⟩ : ByteArray).toList == (⟨s.text.toArray⟩ : ByteArray).toList) = true := by simp
      have KP := hide (fun (W : World) (h : SmK w x y s u W) => rprint_any x s W (rlines_both x s _ (h.sx.kept (low_alloc _ _)) (lnb_right HSH.out.1 h.sx)) (by have := HSH.out.2.2; omega) (fun y hy => by have := HSH.out.2.1 y hy; omega))
      generalize s.text = T at *
      cases sp
      all_goals
        go_wp2
        refine region_class (α := ReD w3) ReD.W (by kernel_rfl) (by kernel_rfl) ⟨w3.drew, below_drew (Below.refl _ _)⟩ rfl ?_
        repeat (go_big_quiet_step (first
          | (go_at_call 10; exact KR.out _)
          | (go_at_call 12; exact KT.out _)
          | (go_at_call 11; first | with_reducible exact KS.out _ | with_reducible exact KS2.out _)))
        refine wpQuiet_nil ?_
        intro W8 hw'
        have hW8 : Below w3.heap.size w3 W8 := by
          obtain ⟨⟨Wx, hx⟩, e⟩ := hw'
          rw [e]
          exact hx
        clear hw' e0 e1 e2 e3 e4 e5 f0 f1 f2 f3 f4 f5 ne
        have HI8 := hide (HI.out.next hW8)
        clear hW8
        obtain ⟨y0, y1, y2, y3, y4, y5⟩ := HI8.out.bx
        go_wp2_with fail
        refine (KP.out _ HI8.out).mono ?_
        rintro e w9 ⟨rfl, hb⟩
        have HB := hide (HI8.out.bel.trans (hb.mono HI8.out.bel.size))
        clear hb y0 y1 y2 y3 y4 y5
        go_wp2_with fail
        refine (HAW.out _ HB.out).mono ?_
        rintro e w10 ⟨rfl, hb⟩
        have HB2 := hide (HB.out.trans (hb.mono HB.out.size))
        clear hb
        go_wp2
        go_ret
        exact ⟨rfl, HB2.out⟩
end Go.Proofs.YteiinkhdgppgbaaGreatDoor
