/- The walk of SpecLines. -/
import Derived.Test.YthneahkiegobaaaDoorSpAw
import Derived.Test.YthneahkiegobaaaDoorSpG2
import Derived.Test.YthneahkiegobaaaDoorSpLp
namespace Go.Proofs.YthneahkiegobaaaDoor
open Go.RowKit
set_option linter.unusedVariables false
set_option linter.unusedSimpArgs false

theorem print_ok {s : Sp} (h : (printP s).2 = 0) : s.Right ∧ s.text.length ≤ 60000 ∧ (printP s).1 = ⟨s.text.toArray⟩ := by
  unfold printP at h ⊢
  split at h
  · rename_i hr
    rw [if_pos hr]
    split at h
    · cases h
    · rename_i hl
      rw [if_neg hl]
      exact ⟨(rightB_iff s).1 hr, by omega, rfl⟩
  · cases h
def zr (l : List Nat) : List Value := l.map (fun (n : Nat) => Value.int .i64 (n : Int))
theorem info_z : (Tryd.prog.info? 3).map (fun i => (i.zero, i.size, i.bytes)) = some (some (.int .i64 0), 1, 8) := by kernel_rfl
/-- With few merges and tokens a right spec's text is short. -/
theorem short {s : Sp} {x : Sv} {w : World} (hR : s.Right) (hS : SpAt w x s) (h1 : x.n1 ≤ 60 ∨ x.n1 = 745) (h2 : x.n2 ≤ 60) : s.text.length ≤ 59000 := by
  have hl := txt_len s.lines (by
    intro l hl
    simp only [Sp.lines, Sp.body, List.mem_cons, List.mem_append, List.mem_map] at hl
    rcases hl with rfl | ⟨y, hy, rfl⟩ | ⟨y, hy, rfl⟩ | ⟨y, hy, rfl⟩ | ⟨y, hy, rfl⟩ | ⟨y, hy, rfl⟩
    · exact lV_len _
    · exact lM_len (hR.am y hy)
    · exact lT_len (hR.atk y hy)
    · exact lS_len (hR.asp y hy)
    · exact lC_len (hR.ac y hy)
    · exact lJ_len (hR.aj y hy))
  have hn : s.lines.length = 1 + (s.merges.length + (s.tokens.length + (s.specials.length + (s.classes.length + s.joins.length)))) := by
    simp [Sp.lines, Sp.body]
    omega
  have a1 := hS.ms.1; have a2 := hS.ts.1
  have b1 := hR.nm; have b3 := hR.ns; have b4 := hR.nc; have b5 := hR.nj
  have b1' : s.merges.length ≤ 744 := by unfold roomM at b1; split at b1 <;> omega
  unfold Sp.text
  omega

theorem mod_of (k : Int) (n : Nat) (hn : n ≤ 100000) : ∃ m : Nat, wrap64 ((IntKind.u64.wrap k).tmod ((n : Int) + 1)) = (m : Int) ∧ m ≤ n := by
  have h0 : 0 ≤ IntKind.u64.wrap k := by rw [IntKind.wrap_u64]; omega
  have h1 : 0 ≤ (IntKind.u64.wrap k).tmod ((n : Int) + 1) := Int.tmod_nonneg _ h0
  have h2 : (IntKind.u64.wrap k).tmod ((n : Int) + 1) < (n : Int) + 1 := Int.tmod_lt_of_pos _ (by omega)
  generalize (IntKind.u64.wrap k).tmod ((n : Int) + 1) = q at h1 h2
  obtain ⟨m, rfl⟩ := Int.eq_ofNat_of_zero_le h1
  refine ⟨m, ?_, by omega⟩
  unfold wrap64
  omega
theorem extract_list (tt : ByteArray) (T : List UInt8) (h : (⟨T.toArray⟩ : ByteArray) = tt) (E : Nat) : (tt.extract 0 E).data.toList = T.take E := by
  subst h
  simp

theorem int_bounds {n : Int} (h : (Lit.int .i64 n).wf = true) : -9223372036854775808 ≤ n ∧ n ≤ 9223372036854775807 := by
  simp [Lit.wf, IntKind.min, IntKind.max, IntKind.signed, IntKind.bits] at h
  omega

set_option maxHeartbeats 16000000 in
set_option maxRecDepth 20000 in
theorem lines_walk (x : Sv) (s : Sp) (k : Int) (w : World) (hE : Env w) (hS : SpAt w x s) (hk : -9223372036854775808 ≤ k ∧ k ≤ 9223372036854775807) :
    Calls Tryd.prog 3 #[.agg x.cs, .int .i64 k] w fun e w' => e = .returned (.bool true) ∧ Below w.heap.size w w' := by
  have HE := hide hE
  have HI := hide (SpI.new hS 28)
  have HAW : Hid (∀ W, Below w.heap.size w W → Calls Tryd.prog 6 #[] W fun e w' => e = .returned (.bool true) ∧ Below W.heap.size W w') := hide fun W hb => awake6_any W (hE.kept hb)
  have KP := print_any x s _ (hE.kept HI.out.bel) HI.out.sp
  clear hE hS
  obtain ⟨y0, y1, y2, y3, y4, y5⟩ := HI.out.box
  go_enter Tryd.func3, Tryd.ntmps3
  go_wp2_with fail
  refine KP.mono ?_
  clear KP y0 y1 y2 y3 y4 y5
  rintro e w1 ⟨rfl, hb1⟩
  replace HI := hide (HI.out.next hb1)
  clear hb1
  obtain ⟨y0, y1, y2, y3, y4, y5⟩ := HI.out.box
  have KG := great2_any x s w1 HI.out.sp
  have HPR : Hid ((printP s).2 = 0 → s.Right ∧ s.text.length ≤ 60000 ∧ (printP s).1 = ⟨s.text.toArray⟩) := hide print_ok
  obtain ⟨pp, hpp⟩ : ∃ pp, printP s = pp := ⟨_, rfl⟩
  rw [hpp] at HPR ⊢
  clear hpp
  obtain ⟨ps, pe⟩ := pp
  simp only at HPR ⊢
  go_wp2_with fail
  refine KG.mono ?_
  clear KG y0 y1 y2 y3 y4 y5
  rintro e w2 ⟨hB, hb2⟩
  replace HI := hide (HI.out.next hb2)
  clear hb2
  rcases hB with rfl | ⟨rfl, hg1, hg2⟩
  · go_wp2_with fail
    refine (HAW.out _ HI.out.bel).mono ?_
    rintro e w3 ⟨rfl, hb3⟩
    have HBB := hide (HI.out.next hb3).bel
    clear hb3
    go_wp2
    go_ret
    exact ⟨rfl, HBB.out⟩
  by_cases hpe : pe = 0
  case neg =>
    have hpb : (pe != 0) = true := by simpa using hpe
    clear hpe
    go_wp2_with fail
    refine (HAW.out _ HI.out.bel).mono ?_
    rintro e w3 ⟨rfl, hb3⟩
    have HBB := hide (HI.out.next hb3).bel
    clear hb3
    go_wp2
    go_ret
    exact ⟨rfl, HBB.out⟩
  subst hpe
  obtain ⟨hR, hl6, hps⟩ := HPR.out rfl
  have HSH := hide (short hR HI.out.sp hg1 hg2)
  have HRR := hide hR
  subst hps
  clear HPR hR hl6 hg1 hg2
  go_wp2_with fail
  refine (HAW.out _ HI.out.bel).mono ?_
  rintro e w3 ⟨rfl, hb3⟩
  have HB3 := hide (HI.out.next hb3).bel
  clear hb3 HI
  obtain ⟨T, hT⟩ : ∃ T, s.text = T := ⟨_, rfl⟩
  have HT := hide hT
  have HSH2 := hide (show T.length ≤ 59000 by rw [← hT]; exact HSH.out)
  rw [hT]
  clear hT
  have hsz : (⟨T.toArray⟩ : ByteArray).size = T.length := by show T.toArray.size = _; rw [List.size_toArray]
  obtain ⟨tt, htt⟩ : ∃ tt : ByteArray, (⟨T.toArray⟩ : ByteArray) = tt := ⟨_, rfl⟩
  rw [htt] at hsz ⊢
  have HTT := hide htt
  have hsz2 : tt.size ≤ 59000 := by have := HSH2.out; omega
  have HSZ := hide hsz
  clear htt hsz
  obtain ⟨i0, hii, hz0, hz1, hz2⟩ := info_parts info_z
  go_wp2
  go_loopw [7, 8] (fun v i wr => ∃ (j n : Nat) (ao : Option Addr) (cap : Nat), v = .slice ao n cap ∧ i = .int .i64 j ∧ j ≤ tt.size ∧ Hid ((endsR 0 (T.take j)).length = n) ∧ Hid (wr.ownsRow w.heap.size 3 1 (.slice ao n cap) n (zr (endsR 0 (T.take j)))) ∧ Below w.heap.size w wr) (fun _ i _ => tt.size - (intOf i).toNat)
  case atStart => exact ⟨0, 0, none, 0, rfl, rfl, Nat.zero_le _, hide rfl, hide (World.ownsRow_nil _ _ _ _), HB3.out⟩
  case round =>
    obtain ⟨j, n, ao, cap, rfl, rfl, hj, HNL, HOW, hbw⟩ := hrel
    have hnj : n ≤ 59000 := by
      have h1 := ends_le (T.take j) 0
      rw [HNL.out, List.length_take] at h1
      omega
    by_cases hlt : j < tt.size
    · have hj0 : (0 : Int) ≤ (j : Int) := by omega
      have hj1 : (j : Int) < (tt.size : Int) := by omega
      have hjT : j < T.length := by rw [← HSZ.out]; exact hlt
      have HSN := hide (ends_snoc T j hjT)
      have HAT : Hid (tt[j]'hlt = T[j]'hjT) := hide (by have := HTT.out; subst this; rfl)
      cases hq : (((tt[j]'hlt).toNat : Int) == 10) with
      | true =>
        have HEQ : Hid (T[j]'hjT = 10) := hide (by
          rw [← HAT.out]
          have h0 : ((tt[j]'hlt).toNat : Int) = 10 := by simpa using hq
          have h1 : (tt[j]'hlt).toNat = 10 := by omega
          exact UInt8.toNat_inj.1 h1)
        have hown := HOW.out
        have hbs := hbw.size
        go_wp2_with (at_builtin; refine wpList_append_own _ rfl _ _ 34 rfl w.heap.size 3 i0 (.int .i64 0) 1 8 Tryd.underlying34 hii hz0 hz1 hz2 rfl (by decide) _ _ _ rfl (hown.alloc _) ⟨wr.heap.size, 0, none⟩ 1 1 [.int .i64 ((j : Int) + 1)] rfl rfl ?c1 ?c2 ?c3 ?c4 ?c5 ?_)
        case c1 =>
          intro q u hq
          match q, hq with
          | 0, hq => simp at hq; subst hq; simp [Addr.add]
        case c2 => intro u hu; simp at hu; subst hu; rfl
        case c3 => unfold maxLen; omega
        case c4 => omega
        case c5 => simp; omega
        intro v' w5 hown' hgrow _
        obtain ⟨g, cap1, rfl, _, _⟩ := hown'.form (by omega)
        have HB5 := hide ((hbw.alloc (by omega) _).grown hgrow (by simp; omega) (fun q hq => (hown.lt q hq).1))
        have HO5 : Hid (w5.ownsRow w.heap.size 3 1 (.slice (some ⟨g, 0, none⟩) (n + 1) cap1) (n + 1) (zr (endsR 0 (T.take (j + 1))))) := hide (by
          rw [HSN.out, if_pos HEQ.out]
          unfold zr
          rw [List.map_append]
          exact hown')
        have HN5 : Hid ((endsR 0 (T.take (j + 1))).length = n + 1) := hide (by rw [HSN.out, if_pos HEQ.out, List.length_append, HNL.out]; rfl)
        clear hgrow hown hown' hq
        go_wp2
        exact ⟨⟨j + 1, n + 1, some ⟨g, 0, none⟩, cap1, rfl, by go_num, by omega, HN5, HO5, HB5.out⟩, by simp [intOf]; omega⟩
      | false =>
        have HEQ : Hid (T[j]'hjT ≠ 10) := hide (by
          rw [← HAT.out]
          intro e
          rw [e] at hq
          cases hq)
        have HO5 : Hid (wr.ownsRow w.heap.size 3 1 (.slice ao n cap) n (zr (endsR 0 (T.take (j + 1))))) := hide (by rw [HSN.out, if_neg HEQ.out]; exact HOW.out)
        have HN5 : Hid ((endsR 0 (T.take (j + 1))).length = n) := hide (by rw [HSN.out, if_neg HEQ.out]; exact HNL.out)
        go_wp2
        exact ⟨⟨j + 1, n, ao, cap, rfl, by go_num, by omega, HN5, HO5, hbw⟩, by simp [intOf]; omega⟩
    · have hje : j = tt.size := by omega
      have HN : Hid ((endsR 0 T).length = n) := hide (by have := HNL.out; rwa [hje, HSZ.out, List.take_length] at this)
      have HO : Hid (wr.ownsRow w.heap.size 3 1 (.slice ao n cap) n (zr (endsR 0 T))) := hide (by have := HOW.out; rwa [hje, HSZ.out, List.take_length] at this)
      subst hje
      clear HNL HOW hlt hj HB3
      have HRT := HRR.out
      have HTL := HT.out
      have hNL : n = s.lines.length := by rw [← HN.out, ← HTL]; exact ends_len s.lines 0 (lines_plain HRT)
      obtain ⟨m, hm, hmn⟩ := mod_of k n (by omega)
      rcases Nat.eq_zero_or_pos m with h0 | h0
      · subst h0
        have KT := parseT_any ⟨#[]⟩ wr (HE.out.kept hbw) (by decide)
        unfold ParsePost at KT
        rw [show (⟨#[]⟩ : ByteArray).data.toList = [] from rfl, parse_none] at KT
        clear HRT HTL hNL hmn
        have hm0 : wrap64 ((IntKind.u64.wrap k).tmod ((n : Int) + 1)) = 0 := hm
        clear hm
        go_wp2_with fail
        refine KT.mono ?_
        rintro e w5 ⟨x5, rfl, hS5, hb5⟩
        have hlo5 := low_alloc w5 (.cells x5.cs 28)
        have HB5 := hide ((hbw.trans (hb5.mono hbw.size)).trans (hlo5.mono (hbw.trans (hb5.mono hbw.size)).size))
        clear hS5 hb5 hlo5 KT
        go_wp2
        go_ret
        exact ⟨rfl, HB5.out⟩
      · obtain ⟨q, rfl⟩ : ∃ q, m = q + 1 := ⟨m - 1, by omega⟩
        have hqn : q < n := by omega
        have hqL : q < s.lines.length := by omega
        obtain ⟨E1, hE1⟩ : ∃ E1, (txt (s.lines.take (q + 1))).length = E1 + 1 := by
          have h1 : (txt (s.lines.take (q + 1))).length ≠ 0 := by
            rw [List.take_succ_eq_append_getElem hqL, txt_append]
            simp [txt]
          exact ⟨(txt (s.lines.take (q + 1))).length - 1, by omega⟩
        have hEle : E1 + 1 ≤ tt.size := by
          have h1 := txt_take_len s.lines (q + 1)
          rw [HSZ.out, ← HTL]
          unfold Sp.text
          omega
        have HPre : Hid (T.take (E1 + 1) = txt (s.lines.take (q + 1))) := hide (by rw [← hE1, ← HTL]; exact txt_prefix s.lines (q + 1))
        have HPre2 : Hid (T.take E1 = txt (s.lines.take q) ++ s.lines.getD q []) := hide (by
          have e : txt (s.lines.take (q + 1)) = (txt (s.lines.take q) ++ s.lines.getD q []) ++ [10] := by
            rw [List.take_succ_eq_append_getElem hqL, txt_append]
            simp [txt, List.getD_eq_getElem?_getD, hqL]
          have h1 := HPre.out
          have h2 : (txt (s.lines.take q) ++ s.lines.getD q []).length = E1 := by
            have h3 := hE1
            rw [e, List.length_append, List.length_singleton] at h3
            omega
          have h4 : T.take E1 = (T.take (E1 + 1)).take E1 := by rw [List.take_take]; congr 1; omega
          rw [h4, h1, e, List.take_left' h2])
        obtain ⟨g, cp, hv, _, hgl⟩ := HO.out.form (by omega)
        simp only [Value.slice.injEq] at hv
        obtain ⟨rfl, -, rfl⟩ := hv
        have hcq : wr.cell? ⟨g, q, none⟩ = some (.int .i64 ((E1 : Int) + 1)) := by
          rw [HO.out.cellAt q (by omega)]
          unfold zr
          have h1 : (endsR 0 s.text).getD q 0 = E1 + 1 := by
            have h0 := ends_get s.lines 0 q (lines_plain HRT) hqL
            rw [hE1, Nat.zero_add] at h0
            exact h0
          have h2 : (endsR 0 T)[q]? = some (E1 + 1) := by
            have h3 : q < (endsR 0 T).length := by rw [HN.out]; exact hqn
            rw [← HTL] at h3 ⊢
            rw [List.getElem?_eq_getElem h3]
            rw [List.getD_eq_getElem?_getD, List.getElem?_eq_getElem h3] at h1
            exact congrArg some h1
          rw [List.getElem?_map, h2]
          rfl
        obtain ⟨s1, hp1, hr1⟩ := parse_take HRT (by have := HSH.out; omega) (q + 1) (by omega) (by omega)
        have hp2 := parse_nothing HRT HSH.out (q + 1) (by omega)
        have hp3 := parse_open HRT (by have := HSH.out; omega) q hqL
        have HX1 := hide (extract_list tt T HTT.out (E1 + 1))
        have HX2 := hide (extract_list tt T HTT.out E1)
        have KA : Hid (∀ W, Below w.heap.size w W → Calls Tryd.prog 7 #[.string (tt.extract 0 (E1 + 1))] W fun e w' => ∃ x', e = .returned (.tuple #[.agg (Sv.cs x'), .int .i64 0, .int .i64 0]) ∧ SpAt w' x' s1 ∧ Below W.heap.size W w') := by
          refine hide fun W hb => ?_
          have K := parseT_any (tt.extract 0 (E1 + 1)) W (HE.out.kept hb) (by
            have h1 : (tt.extract 0 (E1 + 1)).size ≤ tt.size := by rw [ByteArray.size_extract]; omega
            omega)
          unfold ParsePost at K
          rw [HX1.out, HPre.out, hp1] at K
          exact K
        have KB : Hid (∀ W, Below w.heap.size w W → Calls Tryd.prog 7 #[.string (tt.extract 0 (E1 + 1) ++ ⟨#[110, 111, 116, 104, 105, 110, 103, 10]⟩)] W fun e w' => ∃ x', e = .returned (.tuple #[.agg (Sv.cs x'), .int .i64 ((q : Int) + 2), .int .i64 2]) ∧ Below W.heap.size W w') := by
          refine hide fun W hb => ?_
          have K := parseT_any (tt.extract 0 (E1 + 1) ++ ⟨#[110, 111, 116, 104, 105, 110, 103, 10]⟩) W (HE.out.kept hb) (by
            have h1 : (tt.extract 0 (E1 + 1)).size ≤ tt.size := by rw [ByteArray.size_extract]; omega
            rw [ByteArray.size_append]
            have h2 : (⟨#[110, 111, 116, 104, 105, 110, 103, 10]⟩ : ByteArray).size = 8 := rfl
            omega)
          unfold ParsePost at K
          have e : (tt.extract 0 (E1 + 1) ++ (⟨#[110, 111, 116, 104, 105, 110, 103, 10]⟩ : ByteArray)).data.toList = txt (s.lines.take (q + 1)) ++ (wNothing ++ [10]) := by
            rw [ByteArray.data_append, Array.toList_append, HX1.out, HPre.out]
            rfl
          rw [e, hp2] at K
          exact K.mono fun e' w' ⟨x', h1, _, h3⟩ => ⟨x', h1, h3⟩
        have KC : Hid (∀ W, Below w.heap.size w W → Calls Tryd.prog 7 #[.string (tt.extract 0 E1)] W fun e w' => ∃ x', e = .returned (.tuple #[.agg (Sv.cs x'), .int .i64 ((q : Int) + 1), .int .i64 2]) ∧ Below W.heap.size W w') := by
          refine hide fun W hb => ?_
          have K := parseT_any (tt.extract 0 E1) W (HE.out.kept hb) (by
            have h1 : (tt.extract 0 E1).size ≤ tt.size := by rw [ByteArray.size_extract]; omega
            omega)
          unfold ParsePost at K
          rw [HX2.out, HPre2.out, hp3] at K
          exact K.mono fun e' w' ⟨x', h1, _, h3⟩ => ⟨x', h1, h3⟩
        have HR1 := hide ((rightB_iff s1).2 hr1)
        have hm1 : wrap64 ((IntKind.u64.wrap k).tmod ((n : Int) + 1)) = (q : Int) + 1 := hm
        have q0 : (0 : Int) ≤ (q : Int) := by omega
        have q1 : (q : Int) < (n : Int) := by omega
        have q2 : ((q : Int) + 1 == 0) = false := by simp; omega
        have E2 : (0 : Int) ≤ (E1 : Int) + 1 := by omega
        have E3 : (E1 : Int) + 1 ≤ (tt.size : Int) := by omega
        have E4 : (0 : Int) ≤ (E1 : Int) := by omega
        have E5 : (E1 : Int) ≤ (tt.size : Int) := by omega
        clear hm hp1 hp2 hp3 hr1 hE1 HX1 HX2 HPre HPre2 HRT HTL hNL hmn h0 HO HN
        go_wp2_with fail
        refine (KA.out _ hbw).mono ?_
        rintro e w5 ⟨x5, rfl, hS5, hb5⟩
        have hc5 : w5.cell? ⟨g, q, none⟩ = some (.int .i64 ((E1 : Int) + 1)) := by rw [bcell hb5 hgl]; exact hcq
        have hgl5 : g < w5.heap.size := Nat.lt_of_lt_of_le hgl hb5.size
        have HB5 := hide (hbw.trans (hb5.mono hbw.size))
        have HI5 := hide (SpI.new hS5 28)
        have KR := right_any x5 s1 _ HI5.out.sp
        rw [HR1.out] at KR
        have hc6 : (w5.alloc (.cells x5.cs 28)).cell? ⟨g, q, none⟩ = some (.int .i64 ((E1 : Int) + 1)) := by rw [bcell HI5.out.bel hgl5]; exact hc5
        have HB6 := hide (HB5.out.trans (HI5.out.bel.mono HB5.out.size))
        obtain ⟨y0, y1, y2, y3, y4, y5⟩ := HI5.out.box
        clear hS5 hb5 hcq hgl hc5 KA
        go_wp2_with fail
        refine KR.mono ?_
        rintro e w6 ⟨rfl, hb6⟩
        have hgl6 : g < (w5.alloc (.cells x5.cs 28)).heap.size := Nat.lt_of_lt_of_le hgl5 HI5.out.bel.size
        have hc7 : w6.cell? ⟨g, q, none⟩ = some (.int .i64 ((E1 : Int) + 1)) := by rw [bcell hb6 hgl6]; exact hc6
        have hgl7 : g < w6.heap.size := Nat.lt_of_lt_of_le hgl6 hb6.size
        have HB7 := hide (HB6.out.trans (hb6.mono HB6.out.size))
        clear hc6 hb6 KR y0 y1 y2 y3 y4 y5 hgl5 hgl6 HI5 HB5 HB6 HR1
        go_wp2_with fail
        refine (KB.out _ HB7.out).mono ?_
        rintro e w7 ⟨x7, rfl, hb7⟩
        have hc8 : w7.cell? ⟨g, q, none⟩ = some (.int .i64 ((E1 : Int) + 1)) := by rw [bcell hb7 hgl7]; exact hc7
        have HB8 := hide (HB7.out.trans (hb7.mono HB7.out.size))
        clear hc7 hb7 hgl7 HB7 KB
        go_wp2_with fail
        refine (KC.out _ HB8.out).mono ?_
        rintro e w8 ⟨x8, rfl, hb8⟩
        have HB9' := HB8.out.trans (hb8.mono HB8.out.size)
        have HB9 := hide (HB9'.trans ((low_alloc w8 (.cells x8.cs 28)).mono HB9'.size))
        clear HB9' hc8 hb8 HB8 KC
        go_wp2_with fail
        go_ret
        exact ⟨rfl, HB9.out⟩
end Go.Proofs.YthneahkiegobaaaDoor
