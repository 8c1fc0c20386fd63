/- VocabAlone: the walk. -/
import Derived.Test.YteonoccefpkcgaaGreatDoorQk43
import Derived.Test.YteonoccefpkcgaaGreatDoorQk44
import Derived.Test.YteonoccefpkcgaaGreatDoorQk37
import Derived.Test.YteonoccefpkcgaaGreatDoorQk45
namespace Go.Proofs.YteonoccefpkcgaaGreatDoor
open Go.RowKit Go.Maps
set_option linter.unusedVariables false
set_option linter.unusedSimpArgs false
attribute [local go_sem ↓] Go.wp_at_zero Go.wp_at_succ

/-- Where the law stands: the vocabulary, and the document's. -/
structure VxS (w : World) (B q qd : Nat) (z : VV) (s : Wf.Sp) (vb vm : Value) (a4 : Option Addr) (n4 c4 : Nat) (a5 : Option Addr) (n5 c5 : Nat) (a3 : Option Addr) (n3 c3 : Nat) (W : World) : Prop where
  va : ∃ u d ax an, Va B q z s u d ax an 0 W
  bel : Below w.heap.size w W
  rt : RT vb vm (txT s) (mgT s) W
  rd : Mk.RdS W a3 n3 s.specials
  rc : Wf.Bq.RdC W a4 n4 s.classes
  rj : Wf.Bq.RdJ W a5 n5 s.joins
  ncq : 0 < n4 → ∀ b off, a4 = some ⟨b, off, none⟩ → b ≠ q
  njq : 0 < n5 → ∀ b off, a5 = some ⟨b, off, none⟩ → b ≠ q
  box : W.heap[qd]? = some (.cells #[vb, vm, .slice a4 n4 c4, .slice a5 n5 c5, .slice a3 n3 c3] 43 (0, 0))
  hq : w.heap.size ≤ q
section
variable {w : World} {B q qd : Nat} {z : VV} {s : Wf.Sp} {vb vm : Value} {a4 : Option Addr} {n4 c4 : Nat} {a5 : Option Addr} {n5 c5 : Nat} {a3 : Option Addr} {n3 c3 : Nat} {W W' : World}
theorem VxS.next (h : VxS w B q qd z s vb vm a4 n4 c4 a5 n5 c5 a3 n3 c3 W) (hb : Below W.heap.size W W') : VxS w B q qd z s vb vm a4 n4 c4 a5 n5 c5 a3 n3 c3 W' := by
  obtain ⟨u, d, ax, an, hv⟩ := h.va
  exact ⟨⟨u, d, ax, an, hv.low hb⟩, h.bel.trans (hb.mono h.bel.size), h.rt.kept hb, h.rd.kept hb, h.rc.kept hb, h.rj.kept hb, h.ncq, h.njq, by rw [hb.block _ (Array.getElem?_eq_some_iff.1 h.box).1]; exact h.box, h.hq⟩
theorem VxS.turned (h : VxS w B q qd z s vb vm a4 n4 c4 a5 n5 c5 a3 n3 c3 W) (hv : ∃ u d ax an, Va B q z s u d ax an 0 W') (hF : FrL [q] W W') : VxS w B q qd z s vb vm a4 n4 c4 a5 n5 c5 a3 n3 c3 W' := by
  obtain ⟨u, d, ax, an, hv0⟩ := h.va
  have hV : IsV q W := IsV.of hv0.box
  have hw := h.hq
  refine ⟨hv, h.bel.trans (hF.below h.bel.size (fun k hk => by simp at hk; omega)), h.rt.q hv0.box (by decide) (by decide) hF, ?_, ?_, ?_, h.ncq, h.njq, ?_, h.hq⟩
  · refine ⟨h.rd.1, ?_⟩
    rcases h.rd.2 with h0 | ⟨b, off, ha, hlt, hc⟩
    · exact Or.inl h0
    · rcases Nat.eq_zero_or_pos n3 with h0 | h0
      · exact Or.inl h0
      · have hne := hV.ne_str (hc 0 h0).2
        exact Or.inr ⟨b, off, ha, Nat.lt_of_lt_of_le hlt hF.size, fun i hi => ⟨frq hF (hc i hi).1 hne, frq hF (hc i hi).2 hne⟩⟩
  · refine ⟨h.rc.1, ?_⟩
    rcases h.rc.2 with h0 | ⟨b, off, ha, hlt, hc⟩
    · exact Or.inl h0
    · rcases Nat.eq_zero_or_pos n4 with h0 | h0
      · exact Or.inl h0
      · have hne := h.ncq h0 b off ha
        exact Or.inr ⟨b, off, ha, Nat.lt_of_lt_of_le hlt hF.size, fun i hi => ⟨frq hF (hc i hi).1 hne, frq hF (hc i hi).2.1 hne, frq hF (hc i hi).2.2 hne⟩⟩
  · refine ⟨h.rj.1, ?_⟩
    rcases h.rj.2 with h0 | ⟨b, off, ha, hlt, hc⟩
    · exact Or.inl h0
    · rcases Nat.eq_zero_or_pos n5 with h0 | h0
      · exact Or.inl h0
      · have hne := h.njq h0 b off ha
        exact Or.inr ⟨b, off, ha, Nat.lt_of_lt_of_le hlt hF.size, fun i hi => ⟨frq hF (hc i hi).1 hne, frq hF (hc i hi).2 hne⟩⟩
  · have hne : qd ≠ q := by
      rintro rfl
      have h1 := h.box
      rw [hv0.box] at h1
      simp only [Option.some.injEq, Obj.cells.injEq] at h1
      exact absurd h1.2.1 (by decide)
    rw [hF.block qd (Array.getElem?_eq_some_iff.1 h.box).1 (by simpa using hne)]
    exact h.box
theorem VxS.alone (h : VxS w B q qd z s vb vm a4 n4 c4 a5 n5 c5 a3 n3 c3 W) (hR : okB s) (hl : s.specials.length ≤ 1000) (id : Int) (hw : Mk.wfI id) :
    Calls Tryz.prog 19 #[.pointer (some ⟨q, 0, none⟩), .int .i64 id] W fun e w' => e = .returned (.bool (aloneV s id)) ∧ VxS w B q qd z s vb vm a4 n4 c4 a5 n5 c5 a3 n3 c3 w' := by
  obtain ⟨u, d, ax, an, hv⟩ := h.va
  exact (valone_any hv hR hl id hw).mono (fun e w' ⟨h1, h2, h3⟩ => ⟨h1, h.turned h2 h3⟩)
theorem VxS.cells (h : VxS w B q qd z s vb vm a4 n4 c4 a5 n5 c5 a3 n3 c3 W) : W.cell? ⟨qd, 0, none⟩ = some vb ∧ W.cell? ⟨qd, 1, none⟩ = some vm ∧ W.cell? ⟨qd, 2, none⟩ = some (.slice a4 n4 c4) ∧ W.cell? ⟨qd, 3, none⟩ = some (.slice a5 n5 c5) ∧ W.cell? ⟨qd, 4, none⟩ = some (.slice a3 n3 c3) :=
  ⟨Lib.cell_of_heap h.box 0, Lib.cell_of_heap h.box 1, Lib.cell_of_heap h.box 2, Lib.cell_of_heap h.box 3, Lib.cell_of_heap h.box 4⟩
end

theorem spc_low {s : Wf.Sp} (h : VOk s) {k : Nat} (hk : k < (txT s).length) : spcV s (k : Int) = false := by
  cases e : spcV s (k : Int) with
  | false => rfl
  | true =>
    unfold spcV at e
    rw [List.any_eq_true] at e
    obtain ⟨x, hx, hd⟩ := e
    obtain ⟨j, hj, rfl⟩ := List.mem_iff_getElem.1 hx
    have h1 := h.2.2 j hj
    have h2 := of_decide_eq_true hd
    have h3 : Mk.gS s.specials j = s.specials[j] := by simp [Mk.gS, hj]
    rw [h3] at h1
    omega
theorem alone_low {s : Wf.Sp} (h : VOk s) {k : Nat} (hk : k < (txT s).length) : aloneV s (k : Int) = (wholeF s k && madeF s k) := by
  unfold aloneV
  rw [spc_low h hk, decide_eq_true (show (0 : Int) ≤ (k : Int) ∧ (k : Int) < ((txT s).length : Int) by omega)]
  simp [alF]
theorem alone_spec {s : Wf.Sp} {j : Nat} (hj : j < s.specials.length) : aloneV s (Mk.gS s.specials j).1 = true := by
  have : spcV s (Mk.gS s.specials j).1 = true := by
    unfold spcV
    rw [List.any_eq_true]
    exact ⟨s.specials[j], List.getElem_mem hj, by simp [Mk.gS, hj]⟩
  simp [aloneV, this]
theorem alone_has {s : Wf.Sp} {id : Int} (h : hasD s.specials (txT s).length id = false) : aloneV s id = false := by
  rw [← hasV_eq] at h
  unfold hasV at h
  rw [Bool.or_eq_false_iff] at h
  unfold aloneV
  rw [h.1, h.2]
  rfl
theorem pieces_pos {s : Wf.Sp} {k : Nat} (hk : k < (txT s).length) : 1 ≤ (Wf.Bq.pcs (Wf.Bq.cutP s.classes s.joins) (gs (txT s) k).data.toList).length := by
  rw [Wf.Bq.pcs_len]
  refine Wf.Bq.cnt_pos _ _ ?_
  have := (tokT s).pos k hk
  simpa using this

set_option maxRecDepth 20000 in
set_option maxHeartbeats 16000000 in
theorem valone_walk (au : Option Addr) (nu cu : Nat) (U : List Int) (ac : Option Addr) (nc cc : Nat) (C : List (Int × Int × Int)) (aj : Option Addr) (nj cj : Nat) (J : List (Int × Int)) (ax : Option Addr) (nx cx : Nat) (X : List (Int × ByteArray)) (id : Int) (w : World)
    (hE : Wf.Env w)
    (hU : ReadsH w au nu U) (hC : Wf.Bq.RdC w ac nc C) (q2 : nc ≤ cc) (hJ : Wf.Bq.RdJ w aj nj J) (q3 : nj ≤ cj) (hX : Mk.RdS w ax nx X) (hn : nx ≤ 9223372036854775807) (hid : Mk.wfI id) :
    Calls Tryz.prog 4 #[.slice au nu cu, .slice ac nc cc, .slice aj nj cj, .slice ax nx cx, .int .i64 id] w fun e w' => e = .returned (.bool true) ∧ Below w.heap.size w w' := by
  have HG := hide (rgreat10_any au nu cu ac nc cc aj nj cj ax nx cx X w hX hn)
  have HE := hide hE
  have HU := hide hU
  have HC := hide hC
  have HJ := hide hJ
  have HX := hide hX
  have HID := hide hid
  clear hE hU hC hJ hX hn hid
  go_enter Tryz.func4, Tryz.ntmps4
  go_wp2_with fail
  refine (unhide HG).mono ?_
  rintro e w1 ⟨⟨b, rfl, hb⟩, hb1⟩
  have HB1 := hide hb1
  clear hb1 HG
  cases b with
  | true =>
    clear hb
    go_wp2_with fail
    refine (awake10_any _ (HE.out.kept HB1.out)).mono ?_
    rintro e w2 ⟨rfl, hb2⟩
    have HB2 := hide (HB1.out.trans (hb2.mono HB1.out.size))
    clear hb2
    go_wp2
    go_ret
    exact ⟨rfl, HB2.out⟩
  | false =>
    obtain ⟨m1, m2, m3, m4⟩ := hb rfl
    have hnx : nx ≤ 40 := by have := m4.1; have h := HX.out.1; omega
    clear hb m4
    go_wp2_with fail
    refine (awake10_any _ (HE.out.kept HB1.out)).mono ?_
    rintro e w2 ⟨rfl, hb2⟩
    have HB2 := hide (HB1.out.trans (hb2.mono HB1.out.size))
    have HSM := hide (rsome_any au nu cu U ac nc cc C aj nj cj J ax nx cx X w2 (HU.out.kept HB2.out) (HC.out.kept HB2.out) (HJ.out.kept HB2.out) (HX.out.kept HB2.out) (by omega) (by omega) (by omega) (by omega) q2 q3)
    clear hb2 m1 m2 m3 hnx
    go_wp2_with fail
    refine (unhide HSM).mono ?_
    rintro e w3 ⟨⟨ys, s, tx, mg, rfl, hR, hG, hrw⟩, hb3⟩
    have hB3 := HB2.out.trans (hb3.mono HB2.out.size)
    have hlo := Wf.low_alloc w3 (.cells ys.cs 32)
    have HB4 := hide (below_tr hB3 hB3.size hlo)
    have HRT := hide (smg_right hG hR)
    have HKB : Hid (okB s) := hide ⟨hG.cs, hG.js⟩
    have HOK := hide (smg_ok hG hR)
    have HRW : Hid (Wf.SpRw w.heap.size ys s (w3.alloc (.cells ys.cs 32))) := hide ((hrw.low hlo).mono HB2.out.size)
    have HNW := hide (vnew_any ys s _ HRW.out.spec)
    have hs1x := hide HRW.out.spec
    have HNS := hide (at_le HRW.out.spec HRT.out)
    have hbx0 := Wf.BxS.new w3 ys 32
    have HBX := hide hbx0
    obtain ⟨y0, y1, y2, y3, y4, y5⟩ := hbx0
    have hqs : w3.heap.size < (w3.alloc (.cells ys.cs 32)).heap.size := by simp
    have HQS := hide hqs
    have HLS := hide HRW.out.spec.ss.1
    clear hb3 hB3 hlo hR hG hrw HSM HU HC HJ HX HB1 q2 q3 hqs HB2
    have hys : ys = ys := rfl
    obtain ⟨r, a1, n1, c1, a2, n2, c2, a3, n3, c3, a4, n4, c4, a5, n5, c5⟩ := ys
    simp only at y0 y1 y2 y3 y4 y5 HLS
    clear hys
    go_wp2_with fail
    generalize w3.heap.size = qs at *
    generalize (w3.alloc (.cells (Wf.Sv.mk r a1 n1 c1 a2 n2 c2 a3 n3 c3 a4 n4 c4 a5 n5 c5).cs 32)) = W1 at *
    refine (unhide HNW).mono ?_
    rintro e W2 ⟨hP, hb⟩
    rcases hP with ⟨hr, _⟩ | ⟨_, ⟨q, z, _, rfl, hz⟩ | ⟨p, k, er, hbad, _⟩⟩
    · exact absurd ((Wf.rightB_iff s).2 HRT.out) (by rw [hr]; simp)
    rotate_left
    · exact (hbad.not HOK.out).elim
    have HVU := hide hz.va
    have HQ1 := hide hz.hq
    have HQ : Hid (w.heap.size ≤ q) := hide (Nat.le_trans HB4.out.size hz.hq)
    have HB5 := hide (HB4.out.trans (hb.mono HB4.out.size))
    have hs2 := HRW.out.spec.kept hb
    have HBX2 := hide (HBX.out.kept HQS.out hb)
    have HOF := hide (rof_any _ s W2 hs2 HRT.out HOK.out)
    clear hz hb HNW y0 y1 y2 y3 y4 y5 HBX HRW HB4 HQS
    have HS2 := hide hs2
    clear hs2
    obtain ⟨y0, y1, y2, y3, y4, y5⟩ := HBX2.out
    simp only at y0 y1 y2 y3 y4 y5
    go_wp2_with fail
    refine (unhide HOF).mono ?_
    rintro e W3 ⟨⟨vb, vm, rfl, hT⟩, hb⟩
    obtain ⟨e1, d1, rfl⟩ := row_form hT.rb
    obtain ⟨e2, d2, rfl⟩ := row_form hT.rm
    have hla := Wf.low_alloc W3 (.cells #[.slice e1 (txT s).length d1, .slice e2 (mgT s).length d2, .slice a4 n4 c4, .slice a5 n5 c5, .slice a3 n3 c3] 43)
    have hB6 := below_tr (HB5.out.trans (hb.mono HB5.out.size)) (HB5.out.trans (hb.mono HB5.out.size)).size hla
    have hb23 : Below W2.heap.size W2 (W3.alloc (.cells #[.slice e1 (txT s).length d1, .slice e2 (mgT s).length d2, .slice a4 n4 c4, .slice a5 n5 c5, .slice a3 n3 c3] 43)) := below_tr hb hb.size hla
    have hqs1 := HQ1.out
    have hs1 := hs1x.out
    have HVS : Hid (VxS w W1.heap.size q W3.heap.size z s (.slice e1 (txT s).length d1) (.slice e2 (mgT s).length d2) a4 n4 c4 a5 n5 c5 a3 n3 c3 (W3.alloc (.cells #[.slice e1 (txT s).length d1, .slice e2 (mgT s).length d2, .slice a4 n4 c4, .slice a5 n5 c5, .slice a3 n3 c3] 43))) := hide ⟨⟨_, _, _, _, HVU.out.low hb23⟩, hB6, hT.kept hla, mk_at (HS2.out.kept hb23).ss, bd_at (HS2.out.kept hb23).cs, bj_at (HS2.out.kept hb23).js, fun h0 b off e hbq => by
      rcases hs1.cs.2 with h1 | ⟨b', off', e', hlt, _⟩
      · simp only at h1; omega
      · simp only [e, Option.some.injEq, Addr.mk.injEq, and_true] at e'
        omega, fun h0 b off e hbq => by
      rcases hs1.js.2 with h1 | ⟨b', off', e', hlt, _⟩
      · simp only at h1; omega
      · simp only [e, Option.some.injEq, Addr.mk.injEq, and_true] at e'
        omega, heap_alloc_new W3 _, HQ.out⟩
    have hsl : s.specials.length ≤ 1000 := by rw [HLS.out]; exact HNS.out.n3
    have HSL := hide hsl
    have hn3 : n3 ≤ 1000 := by have := HLS.out; omega
    have hn4 : n4 ≤ 1000 := HNS.out.n4
    have hn5 : n5 ≤ 1000 := HNS.out.n5
    clear hla hB6 hb23 hT hb hsl HB5 HVU HS2 HOF HBX2 HNS y0 y1 y2 y3 y4 y5 hs1x hs1 hqs1 HQ1
    generalize hT1 : (txT s).length = T at *
    generalize hT2 : (mgT s).length = M at *
    have HTN := hide hT1
    clear hT1 hT2
    have hT256 : 256 ≤ T := by have := (tokT s).len; have h := HTN.out; omega
    have hTle : T ≤ 1000 := by have := (tokT s).cap; have h := HTN.out; omega
    obtain ⟨g, cap, hv, hglt, -⟩ := HVS.out.rt.text (i := 0) (by have h := HTN.out; omega)
    simp only [Value.slice.injEq] at hv
    obtain ⟨rfl, -, rfl⟩ := hv
    clear hglt
    go_wp2
    generalize W3.heap.size = qd at *
    generalize W3.alloc (.cells #[.slice (some ⟨g, 0, none⟩) T d1, .slice e2 M d2, .slice a4 n4 c4, .slice a5 n5 c5, .slice a3 n3 c3] 43) = W4 at *
    go_loopw [16] (fun i wr => ∃ (k : Nat), i = .int .i64 k ∧ 97 ≤ k ∧ k ≤ T ∧ Hid (VxS w W1.heap.size q qd z s (.slice (some ⟨g, 0, none⟩) T d1) (.slice e2 M d2) a4 n4 c4 a5 n5 c5 a3 n3 c3 wr)) (fun i _ => T - (intOf i).toNat)
    case atStart => exact ⟨97, rfl, Nat.le_refl _, by omega, HVS⟩
    case round =>
      obtain ⟨k, rfl, hk97, hk, HS⟩ := hrel
      clear HVS
      obtain ⟨y0, y1, y2, y3, y4⟩ := HS.out.cells
      by_cases hlt : k < T
      · have hk0 : (0 : Int) ≤ (k : Int) := by omega
        have hk1 : (k : Int) < (T : Int) := by omega
        by_cases hmid : 99 < k ∧ k < 256
        · have m1 : (99 : Int) < (k : Int) := by omega
          have m2 : (k : Int) < 256 := by omega
          go_wp2
          exact ⟨⟨k + 1, by go_num, by omega, by omega, HS⟩, by simp [intOf]; omega⟩
        · have hkT : k < (txT s).length := by rw [HTN.out]; exact hlt
          have hsz : (gs (txT s) k).size ≤ 64 := (tokT s).sz k hkT
          have hpos := pieces_pos hkT
          have hav := alone_low HOK.out hkT
          have hwk : Mk.wfI (k : Int) := ⟨by omega, by omega⟩
          have CA : Hid (∀ W, VxS w W1.heap.size q qd z s (.slice (some ⟨g, 0, none⟩) T d1) (.slice e2 M d2) a4 n4 c4 a5 n5 c5 a3 n3 c3 W → Calls Tryz.prog 19 #[.pointer (some ⟨q, 0, none⟩), .int .i64 (k : Int)] W fun e w' => e = .returned (.bool (aloneV s (k : Int))) ∧ VxS w W1.heap.size q qd z s (.slice (some ⟨g, 0, none⟩) T d1) (.slice e2 M d2) a4 n4 c4 a5 n5 c5 a3 n3 c3 w') := hide (fun W h => h.alone HKB.out HSL.out (k : Int) hwk)
          have CO : Hid (∀ W, VxS w W1.heap.size q qd z s (.slice (some ⟨g, 0, none⟩) T d1) (.slice e2 M d2) a4 n4 c4 a5 n5 c5 a3 n3 c3 W → Calls Tryz.prog 20 #[.agg #[.slice (some ⟨g, 0, none⟩) T d1, .slice e2 M d2], .int .i64 (k : Int)] W fun e w' => e = .returned (.bool (madeF s k)) ∧ Below W.heap.size W w') := hide (fun W h => ralone07_any h.rt (tokT s) k hkT)
          have CP : Hid (∀ W, VxS w W1.heap.size q qd z s (.slice (some ⟨g, 0, none⟩) T d1) (.slice e2 M d2) a4 n4 c4 a5 n5 c5 a3 n3 c3 W → Calls Tryz.prog 21 #[.agg #[.slice a4 n4 c4, .slice a5 n5 c5], .string (gs (txT s) k)] W fun e w' => (∃ o N k', e = .returned (.slice o N k') ∧ N = (Wf.Bq.pcs (Wf.Bq.cutP s.classes s.joins) (gs (txT s) k).data.toList).length) ∧ Below W.heap.size W w') := hide (fun W h => (Wf.Bq.rpieces_any h.rc h.rj (by omega) (by omega) (gs (txT s) k) (by omega)).mono (fun e w' ⟨⟨o, N, k', h1, h2, _⟩, h3⟩ => ⟨⟨o, N, k', h1, h2⟩, h3⟩))
          have CT : Hid (∀ W, VxS w W1.heap.size q qd z s (.slice (some ⟨g, 0, none⟩) T d1) (.slice e2 M d2) a4 n4 c4 a5 n5 c5 a3 n3 c3 W → W.cell? ⟨g, k, none⟩ = some (.string (gs (txT s) k))) := hide (fun W h => by
            obtain ⟨g', cap', hv', _, hc'⟩ := h.rt.text hkT
            simp only [Value.slice.injEq, Option.some.injEq, Addr.mk.injEq, and_true] at hv'
            rw [hv'.1]
            exact hc')
          rw [hav] at CA
          have hwF : wholeF s k = decide ((Wf.Bq.pcs (Wf.Bq.cutP s.classes s.joins) (gs (txT s) k).data.toList).length < 2) := rfl
          rw [hwF] at CA
          generalize (Wf.Bq.pcs (Wf.Bq.cutP s.classes s.joins) (gs (txT s) k).data.toList).length = N at *
          generalize gs (txT s) k = tk at *
          clear hwF hav hsz
          have hNX : Hid (∀ wn, VxS w W1.heap.size q qd z s (.slice (some ⟨g, 0, none⟩) T d1) (.slice e2 M d2) a4 n4 c4 a5 n5 c5 a3 n3 c3 wn → (∃ k' : Nat, Value.int .i64 ((k : Int) + 1) = .int .i64 k' ∧ 97 ≤ k' ∧ k' ≤ T ∧ Hid (VxS w W1.heap.size q qd z s (.slice (some ⟨g, 0, none⟩) T d1) (.slice e2 M d2) a4 n4 c4 a5 n5 c5 a3 n3 c3 wn)) ∧ T - (intOf (Value.int .i64 ((k : Int) + 1))).toNat < T - (intOf (Value.int .i64 (k : Int))).toNat) := hide (fun wn h => ⟨⟨k + 1, by go_num, by omega, by omega, hide h⟩, by simp [intOf]; omega⟩)
          have hor : k ≤ 99 ∨ 256 ≤ k := by omega
          cases hmd : madeF s k with
          | false =>
            rw [hmd, Bool.and_false] at CA
            rw [hmd] at CO
            have K1 : Hid (∀ d : Wc (fun W => VxS w W1.heap.size q qd z s (.slice (some ⟨g, 0, none⟩) T d1) (.slice e2 M d2) a4 n4 c4 a5 n5 c5 a3 n3 c3 W), Calls Tryz.prog 19 #[.pointer (some ⟨q, 0, none⟩), .int .i64 (k : Int)] d.W fun e w' => e = .returned (.bool false) ∧ ∃ p : Wc (fun W => VxS w W1.heap.size q qd z s (.slice (some ⟨g, 0, none⟩) T d1) (.slice e2 M d2) a4 n4 c4 a5 n5 c5 a3 n3 c3 W), w' = p.W) := hide (fun d => (CA.out d.W d.h).mono fun e w' h => ⟨h.1, ⟨w', h.2⟩, rfl⟩)
            have K2 : Hid (∀ d : Wc (fun W => VxS w W1.heap.size q qd z s (.slice (some ⟨g, 0, none⟩) T d1) (.slice e2 M d2) a4 n4 c4 a5 n5 c5 a3 n3 c3 W), Calls Tryz.prog 20 #[.agg #[.slice (some ⟨g, 0, none⟩) T d1, .slice e2 M d2], .int .i64 (k : Int)] d.W fun e w' => e = .returned (.bool false) ∧ ∃ p : Wc (fun W => VxS w W1.heap.size q qd z s (.slice (some ⟨g, 0, none⟩) T d1) (.slice e2 M d2) a4 n4 c4 a5 n5 c5 a3 n3 c3 W), w' = p.W) := hide (fun d => (CO.out d.W d.h).mono fun e w' h => ⟨h.1, ⟨w', d.h.next h.2⟩, rfl⟩)
            have g0 : ∀ d : Wc (fun W => VxS w W1.heap.size q qd z s (.slice (some ⟨g, 0, none⟩) T d1) (.slice e2 M d2) a4 n4 c4 a5 n5 c5 a3 n3 c3 W), d.W.cell? ⟨qd, 0, none⟩ = some (.slice (some ⟨g, 0, none⟩) T d1) := fun d => d.h.cells.1
            have g1 : ∀ d : Wc (fun W => VxS w W1.heap.size q qd z s (.slice (some ⟨g, 0, none⟩) T d1) (.slice e2 M d2) a4 n4 c4 a5 n5 c5 a3 n3 c3 W), d.W.cell? ⟨qd, 1, none⟩ = some (.slice e2 M d2) := fun d => d.h.cells.2.1
            have ne : Nonempty (Wc (fun W => VxS w W1.heap.size q qd z s (.slice (some ⟨g, 0, none⟩) T d1) (.slice e2 M d2) a4 n4 c4 a5 n5 c5 a3 n3 c3 W)) := ⟨⟨_, HS.out⟩⟩
            clear CA CO CP CT hmid
            rcases hor with ho | ho
            · have m1 : ¬ (99 : Int) < (k : Int) := by omega
              go_wp2
              refine region_v (α := Wc (fun W => VxS w W1.heap.size q qd z s (.slice (some ⟨g, 0, none⟩) T d1) (.slice e2 M d2) a4 n4 c4 a5 n5 c5 a3 n3 c3 W)) Wc.W (by kernel_rfl) (by kernel_rfl) ⟨_, HS.out.next below_drw⟩ rfl ?_
              repeat (go_big_quiet_step (first
                | (go_at_call 19; with_reducible exact K1.out _)
                | (go_at_call 20; with_reducible exact K2.out _)))
              refine wpQuiet_nil ?_
              intro W8 hw'
              have hW : VxS w W1.heap.size q qd z s (.slice (some ⟨g, 0, none⟩) T d1) (.slice e2 M d2) a4 n4 c4 a5 n5 c5 a3 n3 c3 W8 := by obtain ⟨p, rfl⟩ := hw'; exact p.h
              have HN := hNX.out _ hW
              clear hW hw' K1 K2 g0 g1 ne HS
              go_wp2
              exact HN
            · have m1 : (99 : Int) < (k : Int) := by omega
              have m2 : ¬ (k : Int) < 256 := by omega
              go_wp2
              refine region_v (α := Wc (fun W => VxS w W1.heap.size q qd z s (.slice (some ⟨g, 0, none⟩) T d1) (.slice e2 M d2) a4 n4 c4 a5 n5 c5 a3 n3 c3 W)) Wc.W (by kernel_rfl) (by kernel_rfl) ⟨_, HS.out.next below_drw⟩ rfl ?_
              repeat (go_big_quiet_step (first
                | (go_at_call 19; with_reducible exact K1.out _)
                | (go_at_call 20; with_reducible exact K2.out _)))
              refine wpQuiet_nil ?_
              intro W8 hw'
              have hW : VxS w W1.heap.size q qd z s (.slice (some ⟨g, 0, none⟩) T d1) (.slice e2 M d2) a4 n4 c4 a5 n5 c5 a3 n3 c3 W8 := by obtain ⟨p, rfl⟩ := hw'; exact p.h
              have HN := hNX.out _ hW
              clear hW hw' K1 K2 g0 g1 ne HS
              go_wp2
              exact HN
          | true =>
            rw [hmd, Bool.and_true] at CA
            rw [hmd] at CO
            have hcg := CT.out _ HS.out
            clear hmid
            by_cases hN1 : N = 1
            · subst hN1
              have hd : decide (1 < 2) = true := by decide
              rw [hd] at CA
              clear hd
              rcases hor with ho | ho
              · have m1 : ¬ (99 : Int) < (k : Int) := by omega
                go_wp2
                go_region_held3 (fun W => W.cell? ⟨qd, 0, none⟩ = some (.slice (some ⟨g, 0, none⟩) T d1) ∧ W.cell? ⟨qd, 1, none⟩ = some (.slice e2 M d2) ∧ W.cell? ⟨qd, 2, none⟩ = some (.slice a4 n4 c4) ∧ W.cell? ⟨qd, 3, none⟩ = some (.slice a5 n5 c5) ∧ W.cell? ⟨g, k, none⟩ = some (.string tk)) (first | exact ⟨y0, y1, y2, y3, hcg⟩ | go_keep) (first
                  | (go_at_call 19; refine (CA.out _ (by first | with_reducible exact HS.out | with_reducible exact HS.out.next below_drw)).mono ?_; rintro e W5 ⟨rfl, hn⟩; replace HS := hide hn; obtain ⟨y0, y1, y2, y3, -⟩ := HS.out.cells; have hcg := CT.out _ HS.out)
                  | (go_at_call 20; refine (CO.out _ (by first | with_reducible exact HS.out | with_reducible exact HS.out.next below_drw)).mono ?_; rintro e W5 ⟨rfl, hb⟩; replace HS : Hid (VxS w W1.heap.size q qd z s (.slice (some ⟨g, 0, none⟩) T d1) (.slice e2 M d2) a4 n4 c4 a5 n5 c5 a3 n3 c3 W5) := hide (by first | with_reducible exact HS.out.next hb | with_reducible exact (HS.out.next below_drw).next hb); obtain ⟨y0, y1, y2, y3, -⟩ := HS.out.cells; have hcg := CT.out _ HS.out)
                  | (go_at_call 21; refine (CP.out _ (by first | with_reducible exact HS.out | with_reducible exact HS.out.next below_drw)).mono ?_; rintro e W5 ⟨⟨o, N', k', rfl, rfl⟩, hb⟩; replace HS : Hid (VxS w W1.heap.size q qd z s (.slice (some ⟨g, 0, none⟩) T d1) (.slice e2 M d2) a4 n4 c4 a5 n5 c5 a3 n3 c3 W5) := hide (by first | with_reducible exact HS.out.next hb | with_reducible exact (HS.out.next below_drw).next hb); obtain ⟨y0, y1, y2, y3, -⟩ := HS.out.cells; have hcg := CT.out _ HS.out))
                all_goals
                  have HN := hNX.out _ HS.out
                  clear CA CO CP CT HS
                  go_wp2
                  exact HN
              · have m1 : (99 : Int) < (k : Int) := by omega
                have m2 : ¬ (k : Int) < 256 := by omega
                go_wp2
                go_region_held3 (fun W => W.cell? ⟨qd, 0, none⟩ = some (.slice (some ⟨g, 0, none⟩) T d1) ∧ W.cell? ⟨qd, 1, none⟩ = some (.slice e2 M d2) ∧ W.cell? ⟨qd, 2, none⟩ = some (.slice a4 n4 c4) ∧ W.cell? ⟨qd, 3, none⟩ = some (.slice a5 n5 c5) ∧ W.cell? ⟨g, k, none⟩ = some (.string tk)) (first | exact ⟨y0, y1, y2, y3, hcg⟩ | go_keep) (first
                  | (go_at_call 19; refine (CA.out _ (by first | with_reducible exact HS.out | with_reducible exact HS.out.next below_drw)).mono ?_; rintro e W5 ⟨rfl, hn⟩; replace HS := hide hn; obtain ⟨y0, y1, y2, y3, -⟩ := HS.out.cells; have hcg := CT.out _ HS.out)
                  | (go_at_call 20; refine (CO.out _ (by first | with_reducible exact HS.out | with_reducible exact HS.out.next below_drw)).mono ?_; rintro e W5 ⟨rfl, hb⟩; replace HS : Hid (VxS w W1.heap.size q qd z s (.slice (some ⟨g, 0, none⟩) T d1) (.slice e2 M d2) a4 n4 c4 a5 n5 c5 a3 n3 c3 W5) := hide (by first | with_reducible exact HS.out.next hb | with_reducible exact (HS.out.next below_drw).next hb); obtain ⟨y0, y1, y2, y3, -⟩ := HS.out.cells; have hcg := CT.out _ HS.out)
                  | (go_at_call 21; refine (CP.out _ (by first | with_reducible exact HS.out | with_reducible exact HS.out.next below_drw)).mono ?_; rintro e W5 ⟨⟨o, N', k', rfl, rfl⟩, hb⟩; replace HS : Hid (VxS w W1.heap.size q qd z s (.slice (some ⟨g, 0, none⟩) T d1) (.slice e2 M d2) a4 n4 c4 a5 n5 c5 a3 n3 c3 W5) := hide (by first | with_reducible exact HS.out.next hb | with_reducible exact (HS.out.next below_drw).next hb); obtain ⟨y0, y1, y2, y3, -⟩ := HS.out.cells; have hcg := CT.out _ HS.out))
                all_goals
                  have HN := hNX.out _ HS.out
                  clear CA CO CP CT HS
                  go_wp2
                  exact HN
            · have hd : decide (N < 2) = false := decide_eq_false (by omega)
              have hN : decide ((N : Int) = 1) = false := decide_eq_false (by omega)
              rw [hd] at CA
              clear hd
              rcases hor with ho | ho
              · have m1 : ¬ (99 : Int) < (k : Int) := by omega
                go_wp2
                go_region_held3 (fun W => W.cell? ⟨qd, 0, none⟩ = some (.slice (some ⟨g, 0, none⟩) T d1) ∧ W.cell? ⟨qd, 1, none⟩ = some (.slice e2 M d2) ∧ W.cell? ⟨qd, 2, none⟩ = some (.slice a4 n4 c4) ∧ W.cell? ⟨qd, 3, none⟩ = some (.slice a5 n5 c5) ∧ W.cell? ⟨g, k, none⟩ = some (.string tk)) (first | exact ⟨y0, y1, y2, y3, hcg⟩ | go_keep) (first
                  | (go_at_call 19; refine (CA.out _ (by first | with_reducible exact HS.out | with_reducible exact HS.out.next below_drw)).mono ?_; rintro e W5 ⟨rfl, hn⟩; replace HS := hide hn; obtain ⟨y0, y1, y2, y3, -⟩ := HS.out.cells; have hcg := CT.out _ HS.out)
                  | (go_at_call 20; refine (CO.out _ (by first | with_reducible exact HS.out | with_reducible exact HS.out.next below_drw)).mono ?_; rintro e W5 ⟨rfl, hb⟩; replace HS : Hid (VxS w W1.heap.size q qd z s (.slice (some ⟨g, 0, none⟩) T d1) (.slice e2 M d2) a4 n4 c4 a5 n5 c5 a3 n3 c3 W5) := hide (by first | with_reducible exact HS.out.next hb | with_reducible exact (HS.out.next below_drw).next hb); obtain ⟨y0, y1, y2, y3, -⟩ := HS.out.cells; have hcg := CT.out _ HS.out)
                  | (go_at_call 21; refine (CP.out _ (by first | with_reducible exact HS.out | with_reducible exact HS.out.next below_drw)).mono ?_; rintro e W5 ⟨⟨o, N', k', rfl, rfl⟩, hb⟩; replace HS : Hid (VxS w W1.heap.size q qd z s (.slice (some ⟨g, 0, none⟩) T d1) (.slice e2 M d2) a4 n4 c4 a5 n5 c5 a3 n3 c3 W5) := hide (by first | with_reducible exact HS.out.next hb | with_reducible exact (HS.out.next below_drw).next hb); obtain ⟨y0, y1, y2, y3, -⟩ := HS.out.cells; have hcg := CT.out _ HS.out))
                all_goals
                  have HN := hNX.out _ HS.out
                  clear CA CO CP CT HS
                  go_wp2
                  exact HN
              · have m1 : (99 : Int) < (k : Int) := by omega
                have m2 : ¬ (k : Int) < 256 := by omega
                go_wp2
                go_region_held3 (fun W => W.cell? ⟨qd, 0, none⟩ = some (.slice (some ⟨g, 0, none⟩) T d1) ∧ W.cell? ⟨qd, 1, none⟩ = some (.slice e2 M d2) ∧ W.cell? ⟨qd, 2, none⟩ = some (.slice a4 n4 c4) ∧ W.cell? ⟨qd, 3, none⟩ = some (.slice a5 n5 c5) ∧ W.cell? ⟨g, k, none⟩ = some (.string tk)) (first | exact ⟨y0, y1, y2, y3, hcg⟩ | go_keep) (first
                  | (go_at_call 19; refine (CA.out _ (by first | with_reducible exact HS.out | with_reducible exact HS.out.next below_drw)).mono ?_; rintro e W5 ⟨rfl, hn⟩; replace HS := hide hn; obtain ⟨y0, y1, y2, y3, -⟩ := HS.out.cells; have hcg := CT.out _ HS.out)
                  | (go_at_call 20; refine (CO.out _ (by first | with_reducible exact HS.out | with_reducible exact HS.out.next below_drw)).mono ?_; rintro e W5 ⟨rfl, hb⟩; replace HS : Hid (VxS w W1.heap.size q qd z s (.slice (some ⟨g, 0, none⟩) T d1) (.slice e2 M d2) a4 n4 c4 a5 n5 c5 a3 n3 c3 W5) := hide (by first | with_reducible exact HS.out.next hb | with_reducible exact (HS.out.next below_drw).next hb); obtain ⟨y0, y1, y2, y3, -⟩ := HS.out.cells; have hcg := CT.out _ HS.out)
                  | (go_at_call 21; refine (CP.out _ (by first | with_reducible exact HS.out | with_reducible exact HS.out.next below_drw)).mono ?_; rintro e W5 ⟨⟨o, N', k', rfl, rfl⟩, hb⟩; replace HS : Hid (VxS w W1.heap.size q qd z s (.slice (some ⟨g, 0, none⟩) T d1) (.slice e2 M d2) a4 n4 c4 a5 n5 c5 a3 n3 c3 W5) := hide (by first | with_reducible exact HS.out.next hb | with_reducible exact (HS.out.next below_drw).next hb); obtain ⟨y0, y1, y2, y3, -⟩ := HS.out.cells; have hcg := CT.out _ HS.out))
                all_goals
                  have HN := hNX.out _ HS.out
                  clear CA CO CP CT HS
                  go_wp2
                  exact HN
      · obtain rfl : T = k := by omega
        go_wp2
        go_loopw [17] (fun i wr => ∃ (j : Nat), i = .int .i64 j ∧ j ≤ n3 ∧ Hid (VxS w W1.heap.size q qd z s (.slice (some ⟨g, 0, none⟩) T d1) (.slice e2 M d2) a4 n4 c4 a5 n5 c5 a3 n3 c3 wr)) (fun i _ => n3 - (intOf i).toNat)
        case atStart => exact ⟨0, rfl, Nat.zero_le _, HS⟩
        case round =>
          obtain ⟨j, rfl, hj, HS2⟩ := hrel
          clear HS y0 y1 y2 y3 y4
          obtain ⟨y0, y1, y2, y3, y4⟩ := HS2.out.cells
          by_cases hlj : j < n3
          · have hj0 : (0 : Int) ≤ (j : Int) := by omega
            have hj1 : (j : Int) < (n3 : Int) := by omega
            have hjs : j < s.specials.length := by rw [HLS.out]; exact hlj
            rcases HS2.out.rd.2 with h0 | ⟨b, off, rfl, _, hc⟩
            · omega
            have c1 := (hc j hlj).1
            have hok := HRT.out.asp _ (Mk.gS_mem hjs)
            unfold Wf.okS at hok
            replace hok := of_decide_eq_true hok
            have CA := hide (HS2.out.alone HKB.out HSL.out (Mk.gS s.specials j).1 ⟨by omega, by omega⟩)
            rw [alone_spec hjs] at CA
            clear hc hok
            generalize (Mk.gS s.specials j).1 = x at *
            go_wp2_with fail
            refine (unhide CA).mono ?_
            rintro e W6 ⟨rfl, hn⟩
            have HN := hide hn
            clear hn CA HS2 y0 y1 y2 y3 y4 c1
            go_wp2
            exact ⟨⟨j + 1, by go_num, by omega, HN⟩, by simp [intOf]; omega⟩
          · obtain rfl : n3 = j := by omega
            have HH := hide (rhas10_any (cap := c3) (.slice a4 n4 c4) (.slice a5 n5 c5) HS2.out.rt HS2.out.rd (by omega) id)
            have HAH : Hid (hasD s.specials T id = false → aloneV s id = false) := hide (fun h => alone_has (by rw [HTN.out]; exact h))
            rw [HTN.out] at HH
            generalize hasD s.specials T id = hh at *
            cases hh with
            | true =>
              go_wp2_with fail
              refine (unhide HH).mono ?_
              rintro e W6 ⟨rfl, hb⟩
              have HB := hide (HS2.out.next hb).bel
              clear hb HH HS2 y0 y1 y2 y3 y4
              go_wp2
              go_ret
              exact ⟨rfl, HB.out⟩
            | false =>
              go_wp2_with fail
              refine (unhide HH).mono ?_
              rintro e W6 ⟨rfl, hb⟩
              have CA := hide ((HS2.out.next hb).alone HKB.out HSL.out id HID.out)
              rw [HAH.out trivial] at CA
              clear hb HH HS2 y0 y1 y2 y3 y4
              go_wp2_with fail
              refine (unhide CA).mono ?_
              rintro e W7 ⟨rfl, hn⟩
              have HB := hide hn.bel
              clear hn CA
              go_wp2
              go_ret
              exact ⟨rfl, HB.out⟩
end Go.Proofs.YteonoccefpkcgaaGreatDoor
