/- VocabLoads: the walk. -/
import Derived.Test.YtoihocbnhoniaaaGreatDoorQl41
import Derived.Test.YtoihocbnhoniaaaGreatDoorQl44
import Derived.Test.YtoihocbnhoniaaaGreatDoorQl9
namespace Go.Proofs.YtoihocbnhoniaaaGreatDoor
open Go.RowKit Go.Maps
set_option linter.unusedVariables false
set_option linter.unusedSimpArgs false
attribute [local go_sem ↓] Go.wp_at_zero Go.wp_at_succ

theorem parse_small {t : List UInt8} (h : t.length ≤ 3000) {n : Nat} {er : Int} (hp : (Wf.parseP t).2 = (n, er)) (he : er ≠ 0) : er = 2 ∧ 0 < n := by
  unfold Wf.parseP at hp
  rw [if_neg (by omega)] at hp
  unfold Wf.parseC at hp
  simp only at hp
  split at hp
  · simp only [Prod.mk.injEq] at hp
    exact absurd hp.2.symm he
  · simp only [Prod.mk.injEq] at hp
    exact ⟨hp.2.symm, by omega⟩
/-- Where the law stands: a vocabulary, a spec in a box. -/
structure VlM (w : World) (q qs : Nat) (z : VV) (X : Wf.Sv) (s : Wf.Sp) (W : World) : Prop where
  st : StB w q 4 z s W
  env : Wf.Env W
  sp : Wf.SpAt W X s
  box : Wf.BxS qs X W
  lt : qs < W.heap.size
theorem VlM.next {w : World} {q qs : Nat} {z : VV} {X : Wf.Sv} {s : Wf.Sp} {W W' : World} (h : VlM w q qs z X s W) (hb : Below W.heap.size W W') : VlM w q qs z X s W' :=
  ⟨h.st.low hb, h.env.kept hb, h.sp.kept hb, h.box.kept h.lt hb, Nat.lt_of_lt_of_le h.lt hb.size⟩
/-- The same without a vocabulary. -/
structure VlN (w : World) (qs : Nat) (X : Wf.Sv) (s : Wf.Sp) (W : World) : Prop where
  bel : Below w.heap.size w W
  env : Wf.Env W
  sp : Wf.SpAt W X s
  box : Wf.BxS qs X W
  lt : qs < W.heap.size
theorem VlN.next {w : World} {qs : Nat} {X : Wf.Sv} {s : Wf.Sp} {W W' : World} (h : VlN w qs X s W) (hb : Below W.heap.size W W') : VlN w qs X s W' :=
  ⟨h.bel.trans (hb.mono h.bel.size), h.env.kept hb, h.sp.kept hb, h.box.kept h.lt hb, Nat.lt_of_lt_of_le h.lt hb.size⟩

set_option maxRecDepth 20000 in
set_option maxHeartbeats 8000000 in
theorem vloads_walk (t : ByteArray) (w : World) (hE : Wf.Env w) (hbig : t.size ≤ 9223372036854775807) :
    Calls Tryz.prog 4 #[.string t] w fun e w' => e = .returned (.bool true) ∧ Below w.heap.size w w' := by
  have HE := hide hE
  by_cases h3 : 3000 < t.size
  · have h3i : (3000 : Int) < (t.size : Int) := by omega
    clear hE
    go_enter Tryz.func4, Tryz.ntmps4
    go_wp2_with fail
    refine (awake10_any _ HE.out).mono ?_
    rintro e w2 ⟨rfl, hb2⟩
    go_wp2
    go_ret
    exact ⟨rfl, hb2⟩
  have h3i : ¬ (3000 : Int) < (t.size : Int) := by omega
  have HSZ : Hid (t.data.toList.length ≤ 3000) := hide (by rw [Array.length_toList]; exact (by omega : t.size ≤ 3000))
  have K := hide (vload_any t w hE hbig)
  have KR := hide (fun W => Wf.rparse_any t W (by omega))
  clear hE h3 hbig
  go_enter Tryz.func4, Tryz.ntmps4
  go_wp2_with fail
  refine (unhide K).mono ?_
  rintro e w1 ⟨hP, hb1⟩
  have HE1 := hide (HE.out.kept hb1)
  have HB1 := hide hb1
  clear hb1 K
  rcases hP with ⟨n, er, hp, hne, rfl⟩ | ⟨s, hp, hP⟩
  · obtain ⟨rfl, hn⟩ := parse_small HSZ.out hp hne
    have hni : (0 : Int) < (n : Int) := by omega
    have hp1 : (Wf.parseP t.data.toList).2.1 = n := by rw [hp]
    have KQ := KR.out w1
    rw [hp1] at KQ
    have HK := hide KQ
    clear hp hne hp1 KQ KR hn
    go_wp2_with fail
    refine (unhide HK).mono ?_
    rintro e w2 ⟨X, rfl, hX, hb2⟩
    have hlo := Wf.low_alloc w2 (.cells X.cs 28)
    have HE2 := hide ((HE1.out.kept hb2).kept hlo)
    have HB2 := hide ((HB1.out.trans (hb2.mono HB1.out.size)).trans (hlo.mono (HB1.out.trans (hb2.mono HB1.out.size)).size))
    clear hX hb2 hlo HK HE1 HB1
    obtain ⟨r, a1, n1, c1, a2, n2, c2, a3, n3, c3, a4, n4, c4, a5, n5, c5⟩ := X
    go_wp2_with fail
    refine (awake10_any _ HE2.out).mono ?_
    rintro e w3 ⟨rfl, hb3⟩
    have HB3 := hide (HB2.out.trans (hb3.mono HB2.out.size))
    clear hb3 HE2 HB2
    go_wp2
    go_ret
    exact ⟨rfl, HB3.out⟩
  have hR := (Wf.parseP_sound hp).1
  have HRT := hide hR
  have KQ : Calls Tryz.prog 18 #[.string t] w1 fun e w' => ∃ X : Wf.Sv, e = .returned (.tuple #[.agg X.cs, .int .i64 0]) ∧ Wf.SpAt w' X s ∧ Below w1.heap.size w1 w' := by
    have := KR.out w1
    rw [hp] at this
    exact this
  have HK := hide KQ
  clear hp KQ KR HSZ hR
  rcases hP with ⟨q, z, hv, rfl, hz⟩ | ⟨p, k, er, hbad, rfl⟩
  · have HZ := hide hz
    have HV := hide hv
    clear hz hv
    go_wp2_with fail
    refine (unhide HK).mono ?_
    rintro e w2 ⟨X, rfl, hX, hb2⟩
    have hlo := Wf.low_alloc w2 (.cells X.cs 28)
    have HM : Hid (VlM w q w2.heap.size z X s (w2.alloc (.cells X.cs 28))) := hide ⟨(HZ.out.low hb2).low hlo, (HE1.out.kept hb2).kept hlo, hX.kept hlo, Wf.BxS.new w2 X _, by simp⟩
    have HNL := hide (at_le hX HRT.out)
    clear hX hb2 hlo HK HE1 HB1 HZ
    have HC := hide (rnew10_any X s _ HM.out.sp HRT.out)
    obtain ⟨y0, y1, y2, y3, y4, y5⟩ := HM.out.box
    obtain ⟨r, a1, n1, c1, a2, n2, c2, a3, n3, c3, a4, n4, c4, a5, n5, c5⟩ := X
    simp only at y0 y1 y2 y3 y4 y5
    go_wp2_with fail
    generalize w2.heap.size = qs at *
    refine (unhide HC).mono ?_
    rintro e w3 ⟨hP, hb3⟩
    rcases hP with ⟨vb, vm, -, rfl, hRT⟩ | ⟨p, k, er, hbad, _⟩
    rotate_left
    · exact (hbad.not HV.out).elim
    obtain ⟨e1, d1, hv1⟩ := row_form hRT.rb
    obtain ⟨e2, d2, hv2⟩ := row_form hRT.rm
    subst hv1 hv2
    simp only
    generalize (txT s).length = N1 at *
    generalize (mgT s).length = N2 at *
    have hlo := Wf.low_alloc w3 (.cells #[.slice e1 N1 d1, .slice e2 N2 d2, .slice a4 n4 c4, .slice a5 n5 c5, .slice a3 n3 c3] 40)
    replace HM := hide (((HM.out.next hb3).next hlo).next below_drw)
    clear hb3 hlo hRT HC y0 y1 y2 y3 y4 y5
    go_wp2
    generalize (w3.alloc (.cells #[.slice e1 N1 d1, .slice e2 N2 d2, .slice a4 n4 c4, .slice a5 n5 c5, .slice a3 n3 c3] 40)) = w4 at *
    obtain ⟨y0, y1, y2, y3, y4, y5⟩ := HM.out.box
    simp only at y0 y1 y2 y3 y4 y5
    have KS := hide (fun (W : World) (h : VlM w q qs z ⟨r, a1, n1, c1, a2, n2, c2, a3, n3, c3, a4, n4, c4, a5, n5, c5⟩ s W) => vspec_any h.st)
    have KM := hide (fun (W : World) (y : Wf.Sv) (h1 : Wf.SpAt W y s) (hn : Wf.NLe y 1000) (h : VlM w q qs z ⟨r, a1, n1, c1, a2, n2, c2, a3, n3, c3, a4, n4, c4, a5, n5, c5⟩ s W) => Wf.same_any y ⟨r, a1, n1, c1, a2, n2, c2, a3, n3, c3, a4, n4, c4, a5, n5, c5⟩ s W h1 h.sp hn.n1 hn.n2 hn.n3 hn.n4 hn.n5)
    have KA := hide (fun (W : World) (h : VlM w q qs z ⟨r, a1, n1, c1, a2, n2, c2, a3, n3, c3, a4, n4, c4, a5, n5, c5⟩ s W) => awake10_any W h.env)
    go_region_held3 (fun W => W.cell? ⟨qs, 0, none⟩ = some (.bool r) ∧ W.cell? ⟨qs, 1, none⟩ = some (.slice a1 n1 c1) ∧ W.cell? ⟨qs, 2, none⟩ = some (.slice a2 n2 c2) ∧ W.cell? ⟨qs, 3, none⟩ = some (.slice a3 n3 c3) ∧ W.cell? ⟨qs, 4, none⟩ = some (.slice a4 n4 c4) ∧ W.cell? ⟨qs, 5, none⟩ = some (.slice a5 n5 c5)) (first | exact x0 | exact ⟨y0, y1, y2, y3, y4, y5⟩ | go_keep) (first
      | (go_at_call 10; refine (KA.out _ HM.out).mono ?_; rintro e W3 ⟨rfl, hb⟩; replace HM := hide (HM.out.next hb); have x0 := HM.out.box; clear hb)
      | (go_at_call 16; refine (KM.out _ _ HY.out HYN.out HM.out).mono ?_; rintro e W2 ⟨rfl, hb⟩; replace HM := hide (HM.out.next hb); have x0 := HM.out.box; clear hb)
      | (go_at_call 17; refine (KS.out _ HM.out).mono ?_; rintro e W1 ⟨⟨y, rfl, hrw, hnl⟩, hb⟩; replace HM := hide (HM.out.next hb); have x0 := HM.out.box; have HY := hide hrw.spec; have HYN := hide hnl; clear hb hrw hnl))
    all_goals
      go_wp2
      go_ret
      exact ⟨rfl, HM.out.st.bel⟩
  · have HBD := hide hbad
    clear hbad
    go_wp2_with fail
    refine (unhide HK).mono ?_
    rintro e w2 ⟨X, rfl, hX, hb2⟩
    have hlo := Wf.low_alloc w2 (.cells X.cs 28)
    have hb12 := HB1.out.trans (hb2.mono HB1.out.size)
    have HM : Hid (VlN w w2.heap.size X s (w2.alloc (.cells X.cs 28))) := hide ⟨hb12.trans (hlo.mono hb12.size), (HE1.out.kept hb2).kept hlo, hX.kept hlo, Wf.BxS.new w2 X _, by simp⟩
    have HNL := hide (at_le hX HRT.out)
    clear hX hb2 hlo HK HE1 HB1 hb12
    have HC := hide (rnew10_any X s _ HM.out.sp HRT.out)
    obtain ⟨y0, y1, y2, y3, y4, y5⟩ := HM.out.box
    obtain ⟨r, a1, n1, c1, a2, n2, c2, a3, n3, c3, a4, n4, c4, a5, n5, c5⟩ := X
    simp only at y0 y1 y2 y3 y4 y5
    go_wp2_with fail
    generalize w2.heap.size = qs at *
    refine (unhide HC).mono ?_
    rintro e w3 ⟨hP, hb3⟩
    rcases hP with ⟨vb, vm, hv, rfl, hRT⟩ | ⟨p', k', er', hbad', rfl⟩
    · exact (HBD.out.not hv).elim
    obtain ⟨rfl, rfl, rfl⟩ := HBD.out.uniq hbad'
    have hlo := Wf.low_alloc w3 (.cells rz5 40)
    replace HM := hide ((HM.out.next hb3).next hlo)
    obtain ⟨hk1, hp1⟩ := bad_le HBD.out HRT.out
    have e1 := HM.out.sp.ms.1
    have e2 := HM.out.sp.ts.1
    simp only at e1 e2
    rw [e1, e2]
    have hm1 := HNL.out.n1
    have hm2 := HNL.out.n2
    simp only at hm1 hm2
    have w1' : IntKind.i64.wrap (2 + (k : Int)) = 2 + k := by rw [IntKind.wrap_i64]; omega
    have w2' : IntKind.i64.wrap (2 + (k : Int) + n1) = 2 + k + n1 := by rw [IntKind.wrap_i64]; omega
    have w3' : IntKind.i64.wrap (2 + (k : Int) + n1 + n2) = 2 + k + n1 + n2 := by rw [IntKind.wrap_i64]; omega
    clear hb3 hlo hbad' HC y0 y1 y2 y3 y4 y5 e1 e2 hk1 hp1 hm1 hm2
    obtain ⟨y0, y1, y2, y3, y4, y5⟩ := HM.out.box
    simp only at y0 y1 y2 y3 y4 y5
    have HA := hide (awake10_any _ HM.out.env)
    by_cases hp0 : p = 0
    · subst hp0
      have hl : ((lineV 0 k (n1 + n2) : Nat) : Int) = 2 + k := by simp [lineV]
      rw [hl]
      clear hl
      go_wp2_with fail
      refine (unhide HA).mono ?_
      rintro e w5 ⟨rfl, hb5⟩
      have HB5 := hide ((HM.out.next hb5).bel)
      clear hb5 HM y0 y1 y2 y3 y4 y5
      go_wp2
      go_ret
      exact ⟨rfl, HB5.out⟩
    · have hl : ((lineV p k (n1 + n2) : Nat) : Int) = 2 + k + n1 + n2 := by simp [lineV, hp0]; omega
      rw [hl, if_neg hp0]
      clear hl hp0
      go_wp2_with fail
      refine (unhide HA).mono ?_
      rintro e w5 ⟨rfl, hb5⟩
      have HB5 := hide ((HM.out.next hb5).bel)
      clear hb5 HM y0 y1 y2 y3 y4 y5
      go_wp2
      go_ret
      exact ⟨rfl, HB5.out⟩
end Go.Proofs.YtoihocbnhoniaaaGreatDoor
