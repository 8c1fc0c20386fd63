/- Contracts of the document's answer for chains: Encode, All. What is made of bytes: the plain mathematics of the laws. -/
import Derived.Test.YtdpmjaelbjjanaaGreatZQa20
import Derived.Test.YtdpmjaelbjjanaaGreatZQa23
import Derived.BigQuiet
namespace Go.Proofs.YtdpmjaelbjjanaaGreat
open Go.RowKit Go.Maps
set_option linter.unusedVariables false
set_option linter.unusedSimpArgs false
attribute [local go_sem ↓] Go.wp_at_zero Go.wp_at_succ

theorem scan_len (a b c : Int) : ∀ l, (scan a b c l).length ≤ l.length
  | [] => Nat.le_refl _
  | [x] => Nat.le_refl _
  | x :: y :: r => by
    rw [scan]
    split
    · have := scan_len a b c r
      simp; omega
    · have := scan_len a b c (y :: r)
      simp at this ⊢; omega
theorem enc_len (mg : List (Int × Int)) : ∀ n l, (enc mg n l).length ≤ l.length
  | 0, l => Nat.le_refl _
  | n + 1, l => by
    have h1 := scan_len (gm mg n).1 (gm mg n).2 (256 + n) (enc mg n l)
    have h2 := enc_len mg n l
    rw [enc]; omega

/-- A number of a list. -/
def gI (l : List Int) (i : Nat) : Int := l.getD i 0
theorem gI_drop (l : List Int) {i : Nat} (h : i < l.length) : l.drop i = gI l i :: l.drop (i + 1) := by
  rw [List.drop_eq_getElem_cons h, gI, List.getD_eq_getElem?_getD, List.getElem?_eq_getElem h]
  rfl
theorem iv_at (l : List Int) {i : Nat} (h : i < l.length) : (iv l)[i]? = some (.int .i64 (gI l i)) := by
  simp [iv, gI, List.getD_eq_getElem?_getD, List.getElem?_eq_getElem h]
theorem row_at {w : World} {base : Nat} {v : Value} {l : List Int} (h : w.ownsRow base 3 1 v l.length (iv l)) {i : Nat} (hi : i < l.length) : ∃ g cap, v = .slice (some ⟨g, 0, none⟩) l.length cap ∧ g < w.heap.size ∧ w.cell? ⟨g, i, none⟩ = some (.int .i64 (gI l i)) := by
  obtain ⟨g, cap, rfl, _, hg⟩ := h.form (by omega)
  exact ⟨g, cap, rfl, hg, by rw [h.cellAt i (by omega)]; exact iv_at l hi⟩
theorem row_below {w w' : World} {B B2 : Nat} {E : TypeId} {size : Nat} {v : Value} {n : Nat} {xs : List Value} (h : w.ownsRow B E size v n xs) (hb : Below B2 w w') (hv : ∀ k, v.ownBlock = some k → k < B2) : w'.ownsRow B E size v n xs := by
  refine ⟨h.1, ?_⟩
  rcases h.2 with hn | ⟨g, cap, cur, rfl, hb1, hgg, rest⟩
  · exact .inl hn
  · refine .inr ⟨g, cap, cur, rfl, hb1, ?_, rest⟩
    rw [hb.block g (hv g rfl)]
    exact hgg

theorem scan_hit {L : List Int} {a b c : Int} {j : Nat} (h : j + 1 < L.length) (ha : gI L j = a) (hb : gI L (j + 1) = b) : scan a b c (L.drop j) = c :: scan a b c (L.drop (j + 1 + 1)) := by
  rw [gI_drop L (show j < L.length by omega), gI_drop L h, scan, if_pos ⟨ha, hb⟩]
theorem scan_miss {L : List Int} {a b c : Int} {j : Nat} (h : j + 1 < L.length) (hn : ¬ (gI L j = a ∧ gI L (j + 1) = b)) : scan a b c (L.drop j) = gI L j :: scan a b c (L.drop (j + 1)) := by
  rw [gI_drop L (show j < L.length by omega), gI_drop L h, scan, if_neg hn]
theorem scan_last {L : List Int} {a b c : Int} {j : Nat} (h : j + 1 = L.length) : scan a b c (L.drop j) = gI L j :: scan a b c (L.drop (j + 1)) := by
  rw [gI_drop L (show j < L.length by omega), List.drop_eq_nil_of_le (show L.length ≤ j + 1 by omega)]
  rfl

/-- What holds at the head of the inner loop. -/
structure InI (B0 B2 : Nat) (w0 : World) (L : List Int) (a b c : Int) (vl : Value) (j : Nat) (out : List Int) (vo : Value) (wr : World) : Prop where
  sc : scan a b c L = out ++ scan a b c (L.drop j)
  ro : wr.ownsRow B2 3 1 vo out.length (iv out)
  rl : wr.ownsRow B0 3 1 vl L.length (iv L)
  lb : ∀ k, vl.ownBlock = some k → k < B2
  B : Below B0 w0 wr
  b2 : B2 ≤ wr.heap.size
  b02 : B0 ≤ B2
  ol : out.length ≤ j
section
variable {B0 B2 : Nat} {w0 : World} {L : List Int} {a b c : Int} {vl : Value} {j : Nat} {out : List Int} {vo : Value} {wr : World}
theorem InI.drewN (h : InI B0 B2 w0 L a b c vl j out vo wr) (n : Nat) : InI B0 B2 w0 L a b c vl j out vo (wr.drewN n) := ⟨h.sc, h.ro, h.rl, h.lb, h.B.trans ⟨rfl, rfl, rfl, Nat.le_refl _, fun _ _ => rfl⟩, h.b2, h.b02, h.ol⟩
theorem InI.app (h : InI B0 B2 w0 L a b c vl j out vo wr) {x : Int} {j' g n cap : Nat} {w1 : World} (hsc : scan a b c (L.drop j) = x :: scan a b c (L.drop j')) (hj : j < j') (hn : n = out.length) (hr : w1.ownsRow B2 3 1 (.slice (some ⟨g, 0, none⟩) (n + 1) cap) (n + 1) (iv (out ++ [x]))) (hb : Below B2 wr w1) : InI B0 B2 w0 L a b c vl j' (out ++ [x]) (.slice (some ⟨g, 0, none⟩) (n + 1) cap) w1 := by
  subst hn
  refine ⟨by rw [h.sc, hsc]; simp, by simpa using hr, row_below h.rl hb h.lb, h.lb, h.B.trans (hb.mono h.b02), Nat.le_trans h.b2 hb.size, h.b02, ?_⟩
  have := h.ol
  simp
  omega
end

section
variable {vb vm : Value} {tx : List ByteArray} {mg : List (Int × Int)}

set_option maxRecDepth 20000 in
set_option maxHeartbeats 8000000 in
theorem rencode_any (w : World) (hR : RT vb vm tx mg w) (hml : mg.length ≤ 1000) (s : ByteArray) (hs : s.size ≤ 100000) (bl : Int) (hbl : -9223372036854775808 ≤ bl ∧ bl ≤ 9223372036854775807) :
    Calls Tryz.prog 86 #[.agg #[vb, vm], .string s, .int .i64 bl] w fun e w' => (∃ v, e = .returned v ∧ w'.ownsRow w.heap.size 3 1 v (made mg bl s).length (iv (made mg bl s))) ∧ Below w.heap.size w w' := by
  obtain ⟨a1, c1, rfl⟩ := row_form hR.rb
  obtain ⟨a2, c2, rfl⟩ := row_form hR.rm
  have hl0 := low1 w (.cells #[.slice a1 tx.length c1, .slice a2 mg.length c2] 34)
  have HX0 : Hid (Box2 w.heap.size (.slice a1 tx.length c1) (.slice a2 mg.length c2) (w.alloc (.cells #[.slice a1 tx.length c1, .slice a2 mg.length c2] 34))) := hide (heap_alloc_new w _)
  have HR0 := hide (hR.kept hl0)
  have HL0 := hide hl0
  clear hR hl0
  go_enter Tryz.func86, Tryz.ntmps86
  go_wp2
  generalize w.alloc (.cells #[.slice a1 tx.length c1, .slice a2 mg.length c2] 34) = w0 at *
  go_loopw [7, 8] (fun a i wr => ∃ (k : Nat) (ao : Option Addr) (cap : Nat), a = .slice ao k cap ∧ i = .int .i64 k ∧ k ≤ s.size ∧ Hid (wr.ownsRow w0.heap.size 3 1 (.slice ao k cap) k (iv (bys s k))) ∧ Hid (Below w0.heap.size w0 wr)) (fun _ i _ => s.size - (intOf i).toNat)
  case atStart => exact ⟨0, none, 0, rfl, rfl, Nat.zero_le _, hide (World.ownsRow_nil _ _ _ _), hide (Below.refl _ _)⟩
  case round =>
    obtain ⟨k, ao, cap, rfl, rfl, hk, HR1, HB1⟩ := hrel
    by_cases hlt : k < s.size
    · have hk0 : (0 : Int) ≤ (k : Int) := by omega
      have hk1 : (k : Int) < (s.size : Int) := by omega
      obtain ⟨g1, cap2, w1, hrun, hown, hB1⟩ := app_int wr w0.heap.size ao k cap (bys s k) (wrap64 ((s[k]'(by simpa using hlt)).toNat : Int)) HR1.out (by omega) HB1.out.size
      have eb : wrap64 ((s[k]'(by simpa using hlt)).toNat : Int) = byt s k := by
        have h1 : byt s k = ((s[k]'(by simpa using hlt)).toNat : Int) := by
          unfold byt
          rw [List.getD_eq_getElem?_getD, List.getElem?_eq_getElem (by simpa using hlt)]
          rfl
        have h2 := byt_lt s k
        rw [← h1]
        unfold wrap64
        omega
      have HRUN := hide hrun
      have HB2 := hide (HB1.out.trans hB1)
      have HR2 : Hid (w1.ownsRow w0.heap.size 3 1 (.slice (some ⟨g1, 0, none⟩) (k + 1) cap2) (k + 1) (iv (bys s (k + 1)))) := hide (by rw [bys_succ s k hlt, ← eb]; exact hown)
      clear hrun hown hB1 eb
      go_wp2_with (at_builtin; refine Lib.wpList_append_run _ rfl _ _ _ _ rfl _ _ rfl rfl _ _ HRUN.out ?_)
      exact ⟨⟨k + 1, _, cap2, rfl, by go_num, by omega, HR2, HB2⟩, by simp [intOf]; omega⟩
    · obtain rfl : k = s.size := by omega
      go_wp2
      go_loopw [7, 9] (fun a i wr => ∃ (k : Nat) (ao : Option Addr) (cap n : Nat), a = .slice ao n cap ∧ i = .int .i64 k ∧ k ≤ rnds mg bl ∧ n ≤ 100000 ∧ Hid (n = (enc mg k (bys s s.size)).length) ∧ Hid (wr.ownsRow w0.heap.size 3 1 (.slice ao n cap) n (iv (enc mg k (bys s s.size)))) ∧ Hid (Below w0.heap.size w0 wr)) (fun _ i _ => mg.length - (intOf i).toNat)
      case atStart => exact ⟨0, ao, cap, s.size, rfl, rfl, Nat.zero_le _, hs, hide (bys_len s s.size (Nat.le_refl _)).symm, HR1, HB1⟩
      case round =>
        clear HR1 HB1 hk hlt
        obtain ⟨k, al, cl, n, rfl, rfl, hk, hn, HN, HRL, HBL⟩ := hrel
        obtain ⟨y0, y1, yf⟩ := (HX0.out.kept HBL.out).cells
        by_cases hlt : k < rnds mg bl
        · obtain ⟨hk1', hk2⟩ := rnds_lt.1 hlt
          have hk0 : (0 : Int) ≤ (k : Int) := by omega
          have hk1 : (k : Int) < (mg.length : Int) := by omega
          obtain ⟨B2, hB2⟩ : ∃ b, b = wr.heap.size := ⟨_, rfl⟩
          have HE := hide (show enc mg (k + 1) (bys s s.size) = scan (gm mg k).1 (gm mg k).2 (256 + (k : Int)) (enc mg k (bys s s.size)) from rfl)
          have HEL := hide (show (enc mg k (bys s s.size)).length ≤ 100000 by have := HN.out; omega)
          have HSL := hide (enc_len mg (k + 1) (bys s s.size))
          generalize enc mg k (bys s s.size) = L at *
          obtain rfl := HN.out
          have HI0 : Hid (InI w0.heap.size B2 w0 L (gm mg k).1 (gm mg k).2 (256 + (k : Int)) (.slice al L.length cl) 0 [] (.slice none 0 0) wr) := hide ⟨rfl, World.ownsRow_nil _ _ _ _, HRL.out, fun j e => by have := (HRL.out.lt j e).2; omega, HBL.out, by omega, by have := HBL.out.size; omega, by simp⟩
          clear hB2 HRL HBL HN
          go_wp2
          go_loopw [10, 11] (fun o i wr => ∃ (j : Nat) (out : List Int) (ao : Option Addr) (cap n : Nat), o = .slice ao n cap ∧ i = .int .i64 j ∧ j ≤ L.length ∧ Hid (n = out.length) ∧ Hid (InI w0.heap.size B2 w0 L (gm mg k).1 (gm mg k).2 (256 + (k : Int)) (.slice al L.length cl) j out (.slice ao n cap) wr)) (fun _ i _ => L.length - (intOf i).toNat)
          case atStart => exact ⟨0, [], none, 0, 0, rfl, rfl, Nat.zero_le _, hide rfl, HI0⟩
          case round =>
            clear HI0 y0 y1 yf
            obtain ⟨j, out, ao, cap, n, rfl, rfl, hj, HNO, HI⟩ := hrel
            obtain ⟨y0, y1, yf⟩ := (HX0.out.kept HI.out.B).cells
            by_cases hjl : j < L.length
            · have hj0 : (0 : Int) ≤ (j : Int) := by omega
              have hj1 : (j : Int) < (L.length : Int) := by omega
              obtain ⟨g, cg, hvg, hgl, c0⟩ := row_at HI.out.rl hjl
              simp only [Value.slice.injEq] at hvg
              obtain ⟨rfl, _, rfl⟩ := hvg
              obtain ⟨gq, cq, hvq, hgq, m0, m1⟩ := (HR0.out.kept HI.out.B).mer hk1'
              simp only [Value.slice.injEq] at hvq
              obtain ⟨rfl, _, rfl⟩ := hvq
              by_cases hjj : j + 1 < L.length
              · obtain ⟨g', cg', hvg, hgl', c1⟩ := row_at HI.out.rl hjj
                simp only [Value.slice.injEq, Option.some.injEq, Addr.mk.injEq, and_true, true_and] at hvg
                obtain ⟨rfl, rfl⟩ := hvg
                have hjj0 : (0 : Int) ≤ (j : Int) + 1 := by omega
                have hjj1 : (j : Int) + 1 < (L.length : Int) := by omega
                by_cases hx : gI L j = (gm mg k).1
                · have hxb : (gI L j == (gm mg k).1) = true := by simpa using hx
                  by_cases hy : gI L (j + 1) = (gm mg k).2
                  · have hyb : (gI L (j + 1) == (gm mg k).2) = true := by simpa using hy
                    have HSC := hide (scan_hit (c := 256 + (k : Int)) hjj hx hy)
                    clear hx hy
                    generalize gI L j = x at c0 hxb
                    generalize gI L (j + 1) = y at c1 hyb
                    go_wp2
                    go_quiet (fail)
                    have HD := hide (HI.out.drewN nq)
                    clear HI c0 c1 m0 m1 y0 y1 yf
                    generalize wr.drewN nq = wd at *
                    have hro := HD.out.ro
                    rw [← HNO.out] at hro
                    obtain ⟨g1, cap2, w1, hrun, hown, hB1⟩ := app_int wd B2 ao n cap out (256 + (k : Int)) hro (by have := HNO.out; have := HD.out.ol; have := HEL.out; omega) HD.out.b2
                    have HRUN := hide hrun
                    have HF := hide (HD.out.app HSC.out (by omega) HNO.out hown hB1)
                    clear hrun hown hB1 hro
                    go_wp2_with (at_builtin; refine Lib.wpList_append_run _ rfl _ _ _ _ rfl _ _ rfl rfl _ _ HRUN.out ?_)
                    exact ⟨⟨j + 1 + 1, out ++ [(256 + (k : Int))], _, cap2, n + 1, rfl, by go_num, by omega, hide (by simp [HNO.out]), HF⟩, by simp [intOf]; omega⟩
                  · have hyb : (gI L (j + 1) == (gm mg k).2) = false := by simpa using hy
                    have HSC := hide (scan_miss (c := 256 + (k : Int)) hjj (a := (gm mg k).1) (b := (gm mg k).2) (fun e => hy e.2))
                    clear hx hy
                    obtain ⟨x, hxe⟩ : ∃ x, gI L j = x := ⟨_, rfl⟩
                    have HX := hide hxe
                    rw [hxe] at c0 hxb HSC
                    clear hxe
                    generalize gI L (j + 1) = y at c1 hyb
                    go_wp2
                    go_quiet (fail)
                    have HD := hide (HI.out.drewN nq)
                    clear HI c0 c1 m0 m1 y0 y1 yf
                    generalize wr.drewN nq = wd at *
                    have hro := HD.out.ro
                    rw [← HNO.out] at hro
                    obtain ⟨g2, cg2, hvg, hgl2, c0⟩ := row_at HD.out.rl hjl
                    simp only [Value.slice.injEq, Option.some.injEq, Addr.mk.injEq, and_true, true_and] at hvg
                    obtain ⟨rfl, rfl⟩ := hvg
                    rw [HX.out] at c0
                    obtain ⟨g1, cap2, w1, hrun, hown, hB1⟩ := app_int wd B2 ao n cap out x hro (by have := HNO.out; have := HD.out.ol; have := HEL.out; omega) HD.out.b2
                    have HRUN := hide hrun
                    have HF := hide (HD.out.app HSC.out (by omega) HNO.out hown hB1)
                    clear hrun hown hB1 hro
                    go_wp2_with (at_builtin; refine Lib.wpList_append_run _ rfl _ _ _ _ rfl _ _ rfl rfl _ _ HRUN.out ?_)
                    exact ⟨⟨j + 1, out ++ [x], _, cap2, n + 1, rfl, by go_num, by omega, hide (by simp [HNO.out]), HF⟩, by simp [intOf]; omega⟩
                · have hxb : (gI L j == (gm mg k).1) = false := by simpa using hx
                  have HSC := hide (scan_miss (c := 256 + (k : Int)) hjj (a := (gm mg k).1) (b := (gm mg k).2) (fun e => hx e.1))
                  clear hx
                  obtain ⟨x, hxe⟩ : ∃ x, gI L j = x := ⟨_, rfl⟩
                  have HX := hide hxe
                  rw [hxe] at c0 hxb HSC
                  clear hxe
                  generalize gI L (j + 1) = y at c1
                  go_wp2
                  go_quiet (fail)
                  have HD := hide (HI.out.drewN nq)
                  clear HI c0 c1 m0 m1 y0 y1 yf
                  generalize wr.drewN nq = wd at *
                  have hro := HD.out.ro
                  rw [← HNO.out] at hro
                  obtain ⟨g2, cg2, hvg, hgl2, c0⟩ := row_at HD.out.rl hjl
                  simp only [Value.slice.injEq, Option.some.injEq, Addr.mk.injEq, and_true, true_and] at hvg
                  obtain ⟨rfl, rfl⟩ := hvg
                  rw [HX.out] at c0
                  obtain ⟨g1, cap2, w1, hrun, hown, hB1⟩ := app_int wd B2 ao n cap out x hro (by have := HNO.out; have := HD.out.ol; have := HEL.out; omega) HD.out.b2
                  have HRUN := hide hrun
                  have HF := hide (HD.out.app HSC.out (by omega) HNO.out hown hB1)
                  clear hrun hown hB1 hro
                  go_wp2_with (at_builtin; refine Lib.wpList_append_run _ rfl _ _ _ _ rfl _ _ rfl rfl _ _ HRUN.out ?_)
                  exact ⟨⟨j + 1, out ++ [x], _, cap2, n + 1, rfl, by go_num, by omega, hide (by simp [HNO.out]), HF⟩, by simp [intOf]; omega⟩
              · have hjj1 : decide ((j : Int) + 1 < (L.length : Int)) = false := by simp; omega
                have HSC := hide (scan_last (c := 256 + (k : Int)) (a := (gm mg k).1) (b := (gm mg k).2) (show j + 1 = L.length by omega))
                obtain ⟨x, hxe⟩ : ∃ x, gI L j = x := ⟨_, rfl⟩
                have HX := hide hxe
                rw [hxe] at c0 HSC
                clear hxe
                go_wp2
                go_quiet (fail)
                have HD := hide (HI.out.drewN nq)
                clear HI c0 m0 m1 y0 y1 yf
                generalize wr.drewN nq = wd at *
                have hro := HD.out.ro
                rw [← HNO.out] at hro
                obtain ⟨g2, cg2, hvg, hgl2, c0⟩ := row_at HD.out.rl hjl
                simp only [Value.slice.injEq, Option.some.injEq, Addr.mk.injEq, and_true, true_and] at hvg
                obtain ⟨rfl, rfl⟩ := hvg
                rw [HX.out] at c0
                obtain ⟨g1, cap2, w1, hrun, hown, hB1⟩ := app_int wd B2 ao n cap out x hro (by have := HNO.out; have := HD.out.ol; have := HEL.out; omega) HD.out.b2
                have HRUN := hide hrun
                have HF := hide (HD.out.app HSC.out (by omega) HNO.out hown hB1)
                clear hrun hown hB1 hro
                go_wp2_with (at_builtin; refine Lib.wpList_append_run _ rfl _ _ _ _ rfl _ _ rfl rfl _ _ HRUN.out ?_)
                exact ⟨⟨j + 1, out ++ [x], _, cap2, n + 1, rfl, by go_num, by omega, hide (by simp [HNO.out]), HF⟩, by simp [intOf]; omega⟩
            · obtain rfl : j = L.length := by omega
              have hfin : Hid (scan (gm mg k).1 (gm mg k).2 (256 + (k : Int)) L = out) := hide (by rw [HI.out.sc, List.drop_length]; simp [scan])
              have HR3 : Hid (wr.ownsRow w0.heap.size 3 1 (.slice ao n cap) n (iv (enc mg (k + 1) (bys s s.size)))) := hide (by rw [HE.out, hfin.out, HNO.out]; have := HI.out.ro; rw [HNO.out] at this; exact World.ownsRow.mono this HI.out.b02)
              have HN3 : Hid (n = (enc mg (k + 1) (bys s s.size)).length) := hide (by rw [HE.out, hfin.out, HNO.out])
              have HB3 := hide HI.out.B
              have hn3 : n ≤ 100000 := by have h1 := HN3.out; have h2 := HSL.out; rw [bys_len s s.size (Nat.le_refl _)] at h2; omega
              clear HI hfin HE HSL HEL
              go_wp2
              exact ⟨⟨k + 1, ao, cap, n, rfl, by go_num, by omega, hn3, HN3, HR3, HB3⟩, by simp [intOf]; omega⟩
        · have hkk : k = rnds mg bl := by omega
          have HFIN : Hid (wr.ownsRow w0.heap.size 3 1 (.slice al n cl) (made mg bl s).length (iv (made mg bl s))) := hide (by unfold made; rw [← hkk, ← HN.out]; exact HRL.out)
          clear HRL HN hkk
          have hcase : ¬ k < mg.length ∨ (k < mg.length ∧ ¬ (256 + (k : Int) < bl)) := by
            by_cases h1 : k < mg.length
            · exact Or.inr ⟨h1, fun h2 => hlt (rnds_lt.2 ⟨h1, h2⟩)⟩
            · exact Or.inl h1
          rcases hcase with h1 | ⟨h1, h2⟩
          · have h3 : ¬ ((k : Int) < (mg.length : Int)) := by omega
            go_wp2
            go_ret
            exact ⟨⟨_, rfl, World.ownsRow.mono HFIN.out HL0.out.size⟩, HL0.out.trans (HBL.out.mono HL0.out.size)⟩
          · have h3 : (k : Int) < (mg.length : Int) := by omega
            go_wp2
            go_ret
            exact ⟨⟨_, rfl, World.ownsRow.mono HFIN.out HL0.out.size⟩, HL0.out.trans (HBL.out.mono HL0.out.size)⟩
end

end Go.Proofs.YtdpmjaelbjjanaaGreat

namespace Go.Proofs.YtdpmjaelbjjanaaGreat
open Go.RowKit Go.Maps
set_option linter.unusedVariables false
set_option linter.unusedSimpArgs false

theorem scan_mem {a b c x : Int} : ∀ l, x ∈ scan a b c l → x = c ∨ x ∈ l
  | [], h => by simp [scan] at h
  | [y], h => Or.inr h
  | y :: z :: r, h => by
    rw [scan] at h
    split at h
    · rcases List.mem_cons.1 h with h | h
      · exact Or.inl h
      · rcases scan_mem r h with h | h
        · exact Or.inl h
        · exact Or.inr (List.mem_cons_of_mem _ (List.mem_cons_of_mem _ h))
    · rcases List.mem_cons.1 h with h | h
      · exact Or.inr (by rw [h]; exact List.mem_cons_self)
      · rcases scan_mem (z :: r) h with h | h
        · exact Or.inl h
        · exact Or.inr (List.mem_cons_of_mem _ h)
/-- A token's number. -/
def inT (tx : List ByteArray) (x : Int) : Prop := 0 ≤ x ∧ x < tx.length
theorem enc_in {tx : List ByteArray} {mg : List (Int × Int)} (hk : Tok tx mg) {l : List Int} (hl : ∀ x ∈ l, inT tx x) : ∀ n, n ≤ mg.length → ∀ x ∈ enc mg n l, inT tx x
  | 0, _, x, h => hl x h
  | n + 1, hn, x, h => by
    rw [enc] at h
    have := hk.len
    rcases scan_mem _ h with h | h
    · subst h
      exact ⟨by omega, by omega⟩
    · exact enc_in hk hl n (by omega) x h

/-- Tokens' bytes. -/
def txt (tx : List ByteArray) : List Int → List UInt8
  | [] => []
  | x :: r => (gs tx x.toNat).data.toList ++ txt tx r
theorem txt_append (tx : List ByteArray) (u v : List Int) : txt tx (u ++ v) = txt tx u ++ txt tx v := by
  induction u with
  | nil => rfl
  | cons a r ih => simp [txt, ih]
theorem txt_len (tx : List ByteArray) (l : List Int) : (txt tx l).length = pos tx l := by
  induction l with
  | nil => rfl
  | cons a r ih => simp [txt, pos, ih, sz]
theorem txt_scan {tx : List ByteArray} {a b c : Int} (h : gs tx c.toNat = gs tx a.toNat ++ gs tx b.toNat) : ∀ l, txt tx (scan a b c l) = txt tx l
  | [] => rfl
  | [x] => rfl
  | x :: y :: r => by
    rw [scan]
    split
    · rename_i e
      rw [e.1, e.2]
      simp only [txt]
      rw [h, txt_scan h r]
      simp
    · simp only [txt]
      rw [txt_scan h (y :: r)]
      rfl
theorem txt_enc {tx : List ByteArray} {mg : List (Int × Int)} (hk : Tok tx mg) (l : List Int) : ∀ n, n ≤ mg.length → txt tx (enc mg n l) = txt tx l
  | 0, _ => rfl
  | n + 1, hn => by
    rw [enc, txt_scan _ _, txt_enc hk l n (by omega)]
    have := hk.made n (by omega)
    rw [show (256 + (n : Int)).toNat = 256 + n by omega]
    exact this
theorem txt_bytes {tx : List ByteArray} {mg : List (Int × Int)} (hk : Tok tx mg) (s : ByteArray) : ∀ k, k ≤ s.size → txt tx (bys s k) = s.data.toList.take k
  | 0, _ => by simp [bys, txt]
  | k + 1, h => by
    have hl : k < s.data.toList.length := by simp; omega
    rw [bys_succ s k (by omega), txt_append, txt_bytes hk s k (by omega), List.take_succ_eq_append_getElem hl]
    congr 1
    have hb := byt_lt s k
    simp only [txt, List.append_nil]
    rw [hk.low _ (by omega)]
    have e : byt s k = ((s.data.toList[k]).toNat : Int) := by simp [byt, List.getD_eq_getElem?_getD, List.getElem?_eq_getElem hl]
    rw [e]
    simp [one]
theorem rnds_le (mg : List (Int × Int)) (bl : Int) : rnds mg bl ≤ mg.length := by unfold rnds; omega
theorem rnds_all {tx : List ByteArray} {mg : List (Int × Int)} (hk : Tok tx mg) : rnds mg tx.length = mg.length := by
  have := hk.len
  unfold rnds
  omega
theorem made_txt {tx : List ByteArray} {mg : List (Int × Int)} (hk : Tok tx mg) (bl : Int) (s : ByteArray) : txt tx (made mg bl s) = s.data.toList := by
  unfold made
  rw [txt_enc hk _ _ (rnds_le _ _), txt_bytes hk s s.size (Nat.le_refl _), show s.size = s.data.toList.length by simp, List.take_length]
theorem made_len (mg : List (Int × Int)) (bl : Int) (s : ByteArray) : (made mg bl s).length ≤ s.size := by
  have := enc_len mg (rnds mg bl) (bys s s.size)
  rw [bys_len s s.size (Nat.le_refl _)] at this
  exact this
/-- A cut of what was made is a cut of that of which it was made. -/
theorem scan_split {a b c : Int} : ∀ (L p q : List Int), scan a b c L = p ++ q → ∃ p' q', L = p' ++ q' ∧ p = scan a b c p' ∧ q = scan a b c q'
  | [], p, q, h => by
    simp [scan] at h
    exact ⟨[], [], rfl, by rw [h.1]; rfl, by rw [h.2]; rfl⟩
  | [x], p, q, h => by
    cases p with
    | nil => exact ⟨[], [x], rfl, rfl, by simpa [scan] using h.symm⟩
    | cons y p =>
      simp [scan] at h
      obtain ⟨rfl, rfl, rfl⟩ := h
      exact ⟨[x], [], rfl, rfl, rfl⟩
  | x :: y :: r, p, q, h => by
    cases p with
    | nil => exact ⟨[], x :: y :: r, rfl, rfl, by simpa using h.symm⟩
    | cons z p =>
      by_cases e : x = a ∧ y = b
      · rw [scan, if_pos e] at h
        simp at h
        obtain ⟨rfl, h⟩ := h
        obtain ⟨p', q', h1, h2, h3⟩ := scan_split r p q h
        refine ⟨x :: y :: p', q', by rw [h1]; rfl, ?_, h3⟩
        rw [scan, if_pos e, h2]
      · rw [scan, if_neg e] at h
        simp at h
        obtain ⟨rfl, h⟩ := h
        obtain ⟨p', q', h1, h2, h3⟩ := scan_split (y :: r) p q h
        refine ⟨x :: p', q', by rw [h1]; rfl, ?_, h3⟩
        cases p' with
        | nil => rw [h2]; rfl
        | cons y' p' =>
          simp at h1
          rw [scan, if_neg (by rw [← h1.1]; exact e), h2]
theorem enc_split {mg : List (Int × Int)} : ∀ (n : Nat) (L p q : List Int), enc mg n L = p ++ q → ∃ p' q', L = p' ++ q' ∧ p = enc mg n p' ∧ q = enc mg n q'
  | 0, L, p, q, h => ⟨p, q, h, rfl, rfl⟩
  | n + 1, L, p, q, h => by
    rw [enc] at h
    obtain ⟨p1, q1, h1, h2, h3⟩ := scan_split _ _ _ h
    obtain ⟨p', q', h4, h5, h6⟩ := enc_split n L p1 q1 h1
    exact ⟨p', q', h4, by rw [h2, h5, enc], by rw [h3, h6, enc]⟩
theorem bys_all (s : ByteArray) : bys s s.size = s.data.toList.map (fun b => (b.toNat : Int)) := by
  unfold bys
  rw [show s.size = s.data.toList.length by simp, List.take_length]
/-- Where tokens end. -/
def ends (tx : List ByteArray) : Nat → List Int → List Int
  | _, [] => []
  | k, x :: r => ((k + sz tx x : Nat) : Int) :: ends tx (k + sz tx x) r
end Go.Proofs.YtdpmjaelbjjanaaGreat
