/- VocabItems: the walk. -/
import Derived.Test.YteonoccefpkcgaaGreatDoorQi40
import Derived.Test.YteonoccefpkcgaaGreatDoorQi39
import Derived.Test.YteonoccefpkcgaaGreatDoorQi43
namespace Go.Proofs.YteonoccefpkcgaaGreatDoor
open Go.RowKit Go.Maps Go.Shelf Go.Sort
set_option linter.unusedVariables false
set_option linter.unusedSimpArgs false
attribute [local go_sem ↓] Go.wp_at_zero Go.wp_at_succ

theorem catV_few {tx : List ByteArray} {mg : List (Int × Int)} (h : Tok tx mg) (L : List (Int × ByteArray)) : ∀ I : List Int, (catV L tx I).length ≤ 64 * I.length
  | [] => by simp [catV]
  | x :: I => by
    have ih := catV_few h L I
    have hx : ((itV L tx x).getD []).length ≤ 64 := by
      cases ho : itV L tx x with
      | none => simp
      | some l => exact (itV_len h L x l ho).2
    have e : catV L tx (x :: I) = (itV L tx x).getD [] ++ catV L tx I := by simp [catV]
    rw [e, List.length_append, List.length_cons]
    omega
/-- Where the law stands: the vocabulary, and the document's. -/
structure VwS (w : World) (B q qd : Nat) (z : VV) (s : Wf.Sp) (vb vm v4 v5 : Value) (a3 : Option Addr) (n3 c3 : Nat) (ai : Option Addr) (ni : Nat) (I : List Int) (u : Int) (W : World) : Prop where
  vu : Vu B q z s u W
  dv : DvM w qd vb vm v4 v5 (txT s) (mgT s) a3 n3 c3 s.specials ai ni I W
section
variable {w : World} {B q qd : Nat} {z : VV} {s : Wf.Sp} {vb vm v4 v5 : Value} {a3 : Option Addr} {n3 c3 : Nat} {ai : Option Addr} {ni : Nat} {I : List Int} {u u' : Int} {W W' : World}
theorem VwS.next (h : VwS w B q qd z s vb vm v4 v5 a3 n3 c3 ai ni I u W) (hb : Below W.heap.size W W') : VwS w B q qd z s vb vm v4 v5 a3 n3 c3 ai ni I u W' := ⟨h.vu.low hb, h.dv.next hb⟩
theorem VwS.used (h : VwS w B q qd z s vb vm v4 v5 a3 n3 c3 ai ni I u W) (hI : Mk.RdI w ai ni I) (hq : w.heap.size ≤ q) (hv : Vu B q z s u' W') (hF : FrL [q] W W') : VwS w B q qd z s vb vm v4 v5 a3 n3 c3 ai ni I u' W' := by
  have hb : Below w.heap.size w W' := h.dv.bel.trans (hF.below h.dv.bel.size (fun k hk => by simp at hk; omega))
  have hV : IsV q W := IsV.of h.vu.box
  refine ⟨hv, hb, h.dv.rt.q h.vu.box (by decide) (by decide) hF, ?_, hI.kept hb, ?_⟩
  · refine ⟨h.dv.rd.1, ?_⟩
    rcases h.dv.rd.2 with h0 | ⟨b, off, ha, hlt, hc⟩
    · exact Or.inl h0
    · rcases Nat.eq_zero_or_pos n3 with h0 | h0
      · exact Or.inl h0
      · have hne := hV.ne_str (hc 0 h0).2
        exact Or.inr ⟨b, off, ha, Nat.lt_of_lt_of_le hlt hF.size, fun i hi => ⟨frq hF (hc i hi).1 hne, frq hF (hc i hi).2 hne⟩⟩
  · have hne : qd ≠ q := by
      rintro rfl
      have h1 := h.dv.box
      rw [h.vu.box] at h1
      simp only [Option.some.injEq, Obj.cells.injEq] at h1
      exact absurd h1.2.1 (by decide)
    rw [hF.block qd (Array.getElem?_eq_some_iff.1 h.dv.box).1 (by simpa using hne)]
    exact h.dv.box
end

set_option maxRecDepth 20000 in
set_option maxHeartbeats 16000000 in
theorem vitems_walk (au : Option Addr) (nu cu : Nat) (U : List Int) (ac : Option Addr) (nc cc : Nat) (C : List (Int × Int × Int)) (aj : Option Addr) (nj cj : Nat) (J : List (Int × Int)) (ax : Option Addr) (nx cx : Nat) (X : List (Int × ByteArray)) (ai : Option Addr) (ni ci : Nat) (I : List Int) (id : Int) (w : World)
    {ρ : Ren} (Ly : Lays.n189 Tryz.prog ρ) (hf : ρ.f 189 = 33) (hE : Wf.Env w)
    (hU : ReadsH w au nu U) (hC : Wf.Bq.RdC w ac nc C) (q2 : nc ≤ cc) (hJ : Wf.Bq.RdJ w aj nj J) (q3 : nj ≤ cj) (hX : Mk.RdS w ax nx X) (hn : nx ≤ 9223372036854775807) (hI : Mk.RdI w ai ni I) (hni : ni ≤ 9223372036854775807) (hwI : ∀ i, i < ni → Mk.wfI (Mk.gI I i)) (hid : Mk.wfI id) :
    Calls Tryz.prog 3 #[.slice au nu cu, .slice ac nc cc, .slice aj nj cj, .slice ax nx cx, .slice ai ni ci, .int .i64 id] w fun e w' => e = .returned (.bool true) ∧ Below w.heap.size w w' := by
  have HG := hide (rgreat10_any au nu cu ac nc cc aj nj cj ax nx cx X w hX hn)
  have HE := hide hE
  have HU := hide hU
  have HC := hide hC
  have HJ := hide hJ
  have HX := hide hX
  have HI := hide hI
  have HWI := hide hwI
  have HID := hide hid
  clear hE hU hC hJ hX hn hI hwI hid
  go_enter Tryz.func3, Tryz.ntmps3
  go_wp2_with fail
  refine (unhide HG).mono ?_
  rintro e w1 ⟨⟨b, rfl, hb⟩, hb1⟩
  have HB1 := hide hb1
  clear hb1 HG
  cases b with
  | true =>
    clear hb
    go_wp2_with fail
    refine (awake10_any _ (HE.out.kept HB1.out)).mono ?_
    rintro e w2 ⟨rfl, hb2⟩
    have HB2 := hide (HB1.out.trans (hb2.mono HB1.out.size))
    clear hb2
    go_wp2
    go_ret
    exact ⟨rfl, HB2.out⟩
  | false =>
    obtain ⟨m1, m2, m3, m4⟩ := hb rfl
    have hnx : nx ≤ 40 := by have := m4.1; have h := HX.out.1; omega
    clear hb m4
    by_cases h200 : 200 < ni
    · have g200 : (200 : Int) < (ni : Int) := by omega
      go_wp2_with fail
      refine (awake10_any _ (HE.out.kept HB1.out)).mono ?_
      rintro e w2 ⟨rfl, hb2⟩
      have HB2 := hide (HB1.out.trans (hb2.mono HB1.out.size))
      clear hb2
      go_wp2
      go_ret
      exact ⟨rfl, HB2.out⟩
    have g200 : ¬ (200 : Int) < (ni : Int) := by omega
    go_wp2_with fail
    refine (awake10_any _ (HE.out.kept HB1.out)).mono ?_
    rintro e w2 ⟨rfl, hb2⟩
    have HB2 := hide (HB1.out.trans (hb2.mono HB1.out.size))
    have HSM := hide (rsome_any au nu cu U ac nc cc C aj nj cj J ax nx cx X w2 (HU.out.kept HB2.out) (HC.out.kept HB2.out) (HJ.out.kept HB2.out) (HX.out.kept HB2.out) (by omega) (by omega) (by omega) (by omega) q2 q3)
    clear hb2 m1 m2 m3 hnx
    go_wp2_with fail
    refine (unhide HSM).mono ?_
    rintro e w3 ⟨⟨ys, s, tx, mg, rfl, hR, hG, hrw⟩, hb3⟩
    have hB3 := HB2.out.trans (hb3.mono HB2.out.size)
    have hlo := Wf.low_alloc w3 (.cells ys.cs 32)
    have HB4 := hide (below_tr hB3 hB3.size hlo)
    have HRT := hide (smg_right hG hR)
    have HOK := hide (smg_ok hG hR)
    have HRW : Hid (Wf.SpRw w.heap.size ys s (w3.alloc (.cells ys.cs 32))) := hide ((hrw.low hlo).mono HB2.out.size)
    have HNW := hide (vnew_any ys s _ HRW.out.spec)
    have HNS := hide (at_le HRW.out.spec HRT.out)
    have hbx0 := Wf.BxS.new w3 ys 32
    have HBX := hide hbx0
    obtain ⟨y0, y1, y2, y3, y4, y5⟩ := hbx0
    have hqs : w3.heap.size < (w3.alloc (.cells ys.cs 32)).heap.size := by simp
    have HQS := hide hqs
    have HLS := hide HRW.out.spec.ss.1
    clear hb3 hB3 hlo hR hG hrw HSM HU HC HJ HX HB1 q2 q3 hqs HB2
    have hys : ys = ys := rfl
    obtain ⟨r, a1, n1, c1, a2, n2, c2, a3, n3, c3, a4, n4, c4, a5, n5, c5⟩ := ys
    simp only at y0 y1 y2 y3 y4 y5 HLS
    clear hys
    go_wp2_with fail
    generalize w3.heap.size = qs at *
    generalize (w3.alloc (.cells (Wf.Sv.mk r a1 n1 c1 a2 n2 c2 a3 n3 c3 a4 n4 c4 a5 n5 c5).cs 32)) = W1 at *
    refine (unhide HNW).mono ?_
    rintro e W2 ⟨hP, hb⟩
    rcases hP with ⟨hr, _⟩ | ⟨_, ⟨q, z, _, rfl, hz⟩ | ⟨p, k, er, hbad, _⟩⟩
    · exact absurd ((Wf.rightB_iff s).2 HRT.out) (by rw [hr]; simp)
    rotate_left
    · exact (hbad.not HOK.out).elim
    have HVU := hide hz.vu
    have HQ : Hid (w.heap.size ≤ q) := hide (Nat.le_trans HB4.out.size hz.hq)
    have HB5 := hide (HB4.out.trans (hb.mono HB4.out.size))
    have hs2 := HRW.out.spec.kept hb
    have HBX2 := hide (HBX.out.kept HQS.out hb)
    have HOF := hide (rof_any _ s W2 hs2 HRT.out HOK.out)
    clear hz hb HNW y0 y1 y2 y3 y4 y5 HBX HRW HB4 HQS
    have HS2 := hide hs2
    clear hs2
    obtain ⟨y0, y1, y2, y3, y4, y5⟩ := HBX2.out
    simp only at y0 y1 y2 y3 y4 y5
    go_wp2_with fail
    refine (unhide HOF).mono ?_
    rintro e W3 ⟨⟨vb, vm, rfl, hT⟩, hb⟩
    obtain ⟨e1, d1, rfl⟩ := row_form hT.rb
    obtain ⟨e2, d2, rfl⟩ := row_form hT.rm
    have hla := Wf.low_alloc W3 (.cells #[.slice e1 (txT s).length d1, .slice e2 (mgT s).length d2, .slice a4 n4 c4, .slice a5 n5 c5, .slice a3 n3 c3] 43)
    have hB6 := below_tr (HB5.out.trans (hb.mono HB5.out.size)) (HB5.out.trans (hb.mono HB5.out.size)).size hla
    have hb23 : Below W2.heap.size W2 (W3.alloc (.cells #[.slice e1 (txT s).length d1, .slice e2 (mgT s).length d2, .slice a4 n4 c4, .slice a5 n5 c5, .slice a3 n3 c3] 43)) := below_tr hb hb.size hla
    have HVS : Hid (VwS w W1.heap.size q W3.heap.size z s (.slice e1 (txT s).length d1) (.slice e2 (mgT s).length d2) (.slice a4 n4 c4) (.slice a5 n5 c5) a3 n3 c3 ai ni I 0 (W3.alloc (.cells #[.slice e1 (txT s).length d1, .slice e2 (mgT s).length d2, .slice a4 n4 c4, .slice a5 n5 c5, .slice a3 n3 c3] 43))) := hide ⟨HVU.out.low hb23, hB6, hT.kept hla, mk_at (HS2.out.kept hb23).ss, HI.out.kept hB6, heap_alloc_new W3 _⟩
    have hsl : s.specials.length ≤ 1000 := by rw [HLS.out]; exact HNS.out.n3
    have hoff : ∀ b off, ai = some ⟨b, off, none⟩ → 0 < ni → b ≠ q := by
      intro b off e h0 hbq
      rcases HI.out.2 with h1 | ⟨b', off', e', hlt, _⟩
      · omega
      · rw [e] at e'
        simp only [Option.some.injEq, Addr.mk.injEq, and_true] at e'
        have := HQ.out
        omega
    have HIT := hide (vitems_any (ci := ci) HVS.out.vu ⟨by omega, by omega⟩ hsl HVS.out.dv.ri hoff (by omega) HWI.out)
    have HSL := hide hsl
    have hn3 : n3 ≤ 1000 := by have := HLS.out; omega
    clear hla hB6 hb23 hT hb hsl hoff HB5 HVU HS2 HOF HBX2 HNS y0 y1 y2 y3 y4 y5
    generalize hT1 : (txT s).length = T at *
    generalize hT2 : (mgT s).length = M at *
    have HTN := hide hT1
    clear hT1 hT2
    go_wp2_with fail
    refine (unhide HIT).mono ?_
    rintro e W5 ⟨hP, hv5, hF⟩
    generalize W3.heap.size = qd at *
    generalize W3.alloc (.cells #[.slice e1 T d1, .slice e2 M d2, .slice a4 n4 c4, .slice a5 n5 c5, .slice a3 n3 c3] 43) = W4 at *
    have hv5' : Vu W1.heap.size q z s 1 W5 := hv5
    have HV5 := hide (HVS.out.used HI.out HQ.out hv5' hF)
    have hres : ∃ ao n cap nn f, e = .returned (.tuple #[.slice ao n cap, .int .i64 nn, .int .i64 f]) ∧ ((( ∀ j, j < I.length → hasD s.specials (txT s).length (Mk.gI I j) = true) ∧ n = (catV s.specials (txT s) I).length ∧ nn = I.length ∧ f = 0 ∧ W5.ownsRow W4.heap.size 3 1 (.slice ao n cap) n (Mk.iv (catV s.specials (txT s) I))) ∨ ∃ k : Nat, k < I.length ∧ (∀ j, j < k → hasD s.specials (txT s).length (Mk.gI I j) = true) ∧ hasD s.specials (txT s).length (Mk.gI I k) = false ∧ n = 0 ∧ nn = k ∧ f = 4) := by
      rcases hP with ⟨h1, ao, cap, rfl, h2⟩ | ⟨k, h1, h2, h3, rfl⟩
      · exact ⟨ao, _, cap, _, _, rfl, Or.inl ⟨h1, rfl, rfl, rfl, h2⟩⟩
      · exact ⟨none, 0, 0, _, _, rfl, Or.inr ⟨k, h1, h2, h3, rfl, rfl, rfl⟩⟩
    obtain ⟨oi, N, ocp, nn, f, rfl, hres⟩ := hres
    have HRES := hide hres
    have HBD := hide (rbad_any (ci := ci) (.slice a4 n4 c4) (.slice a5 n5 c5) HV5.out.dv.rt HV5.out.dv.rd (cap := c3) (by omega) HV5.out.dv.ri (by omega))
    rw [HTN.out] at HBD
    have HIDS := hide (vids_any Ly hf HV5.out.vu HSL.out)
    have b5 := HV5.out.dv.box
    have g0 : W5.cell? ⟨qd, 0, none⟩ = some (.slice e1 T d1) := Lib.cell_of_heap b5 0
    have g1 : W5.cell? ⟨qd, 1, none⟩ = some (.slice e2 M d2) := Lib.cell_of_heap b5 1
    have g2 : W5.cell? ⟨qd, 2, none⟩ = some (.slice a4 n4 c4) := Lib.cell_of_heap b5 2
    have g3 : W5.cell? ⟨qd, 3, none⟩ = some (.slice a5 n5 c5) := Lib.cell_of_heap b5 3
    have g4 : W5.cell? ⟨qd, 4, none⟩ = some (.slice a3 n3 c3) := Lib.cell_of_heap b5 4
    clear hP hv5 hv5' hF HVS HIT hres b5 HIDS
    generalize hbd : badF s.specials T I = bd at *
    have HBF := hide hbd
    clear hbd
    go_wp2_with fail
    refine (unhide HBD).mono ?_
    rintro e W6 ⟨rfl, hb⟩
    have HV6 := hide (HV5.out.next hb)
    have HKR := hide hb
    have HIDS := hide (vids_any Ly hf HV6.out.vu HSL.out)
    clear hb HBD HV5 g0 g1 g2 g3 g4
    go_wp2_with fail
    refine (unhide HIDS).mono ?_
    rintro e W7 ⟨⟨ad, nd, cd, rfl, hnd, hrow⟩, hb⟩
    have HV7 := hide (HV6.out.next hb)
    have HK7 := hide (HKR.out.trans (hb.mono HKR.out.size))
    have HAL := hide hrow
    have HND := hide hnd
    clear hb hrow hnd HV6 HKR HIDS
    go_wp2_with fail
    obtain rfl : nd = T + n3 := by rw [HND.out, HLS.out, HTN.out]
    have hT1000 : T ≤ 1000 := by rw [← HTN.out]; exact (tokT s).cap
    have c7 : ∀ d : Wb W7, d.W.cell? ⟨q, 7, none⟩ = some (.int .i64 T) := fun d => by have := (HV7.out.next d.h).vu.cells.2.1; rw [HTN.out] at this; exact this
    have K1 : Hid (∀ d : Wb W7, Calls Tryz.prog 13 #[.pointer (some ⟨q, 0, none⟩), .int .i64 id] d.W fun e w' => e = .returned (.bool (hasV s id)) ∧ ∃ p : Wb W7, w' = p.W) := hide (fun d => (vhas_c (HV7.out.next d.h).vu.cells.2.1 (HV7.out.next d.h).vu.cells.2.2.1 (HV7.out.next d.h).vu.mr HSL.out id HID.out).mono fun e w' h => ⟨h.1, d, h.2⟩)
    have K2 : Hid (∀ d : Wb W7, Calls Tryz.prog 14 #[.agg #[.slice e1 T d1, .slice e2 M d2, .slice a4 n4 c4, .slice a5 n5 c5, .slice a3 n3 c3], .int .i64 id] d.W fun e w' => e = .returned (.bool (hasD s.specials (txT s).length id)) ∧ ∃ p : Wb W7, w' = p.W) := hide (fun d => Calls.toV (fun _ _ h hb => below_step h hb) d (rhas10_any _ _ (HV7.out.next d.h).dv.rt (HV7.out.next d.h).dv.rd (by omega) id))
    have K3 : Hid (∀ d : Wb W7, Calls Tryz.prog 15 #[.pointer (some ⟨q, 0, none⟩)] d.W fun e w' => e = .returned (.int .i64 T) ∧ ∃ p : Wb W7, w' = p.W) := hide (fun d => (vsize_c (c7 d)).mono fun e w' h => ⟨h.1, d, h.2⟩)
    have K4 : Hid (∀ d : Wb W7, Calls Tryz.prog 16 #[.pointer (some ⟨q, 0, none⟩)] d.W fun e w' => e = .returned (.int .i64 1) ∧ ∃ p : Wb W7, w' = p.W) := hide (fun d => (vuses_any (HV7.out.next d.h).vu.cells.2.2.2).mono fun e w' h => ⟨h.1, d, h.2⟩)
    rw [hasV_eq] at K1
    generalize hasD s.specials (txT s).length id = hr at *
    have g0 : ∀ d : Wb W7, d.W.cell? ⟨qd, 0, none⟩ = some (.slice e1 T d1) := fun d => Lib.cell_of_heap (HV7.out.next d.h).dv.box 0
    have g1 : ∀ d : Wb W7, d.W.cell? ⟨qd, 1, none⟩ = some (.slice e2 M d2) := fun d => Lib.cell_of_heap (HV7.out.next d.h).dv.box 1
    have g2 : ∀ d : Wb W7, d.W.cell? ⟨qd, 2, none⟩ = some (.slice a4 n4 c4) := fun d => Lib.cell_of_heap (HV7.out.next d.h).dv.box 2
    have g3 : ∀ d : Wb W7, d.W.cell? ⟨qd, 3, none⟩ = some (.slice a5 n5 c5) := fun d => Lib.cell_of_heap (HV7.out.next d.h).dv.box 3
    have g4 : ∀ d : Wb W7, d.W.cell? ⟨qd, 4, none⟩ = some (.slice a3 n3 c3) := fun d => Lib.cell_of_heap (HV7.out.next d.h).dv.box 4
    have hwr : IntKind.i64.wrap ((T : Int) + (n3 : Int)) = (T : Int) + (n3 : Int) := by rw [IntKind.wrap_i64]; omega
    have ne : Nonempty (Wb W7) := ⟨⟨_, Below.refl _ _⟩⟩
    clear c7
    cases hr <;>
    · refine region_v (α := Wb W7) Wc.W (by kernel_rfl) (by kernel_rfl) ⟨_, below_drw⟩ rfl ?_
      repeat (go_big_quiet_step (first
        | (go_at_call 13; with_reducible exact K1.out _)
        | (go_at_call 14; with_reducible exact K2.out _)
        | (go_at_call 15; with_reducible exact K3.out _)
        | (go_at_call 16; with_reducible exact K4.out _)))
      refine wpQuiet_nil ?_
      intro W8 hw'
      have hW : Below W7.heap.size W7 W8 := by obtain ⟨p, rfl⟩ := hw'; exact p.h
      have HV8 := hide (HV7.out.next hW)
      have HAL8 := hide (row_keptB HAL.out hW)
      have HK8 := hide (HK7.out.trans (hW.mono HK7.out.size))
      have HRA : Hid (Mk.RdI W8 ad (T + n3) (idsV s)) := hide (Mk.RdI.of_row HAL8.out)
      clear hW hw' K1 K2 K3 K4 g0 g1 g2 g3 g4 ne hwr HV7 HAL HK7 HAL8
      go_wp2
      go_loopw [23] (fun i wr => ∃ k : Nat, i = .int .i64 k ∧ k ≤ T + n3 ∧ Hid (Below W8.heap.size W8 wr)) (fun i _ => T + n3 - (intOf i).toNat)
      case atStart => exact ⟨0, rfl, Nat.zero_le _, hide (Below.refl _ _)⟩
      case round =>
        obtain ⟨k, rfl, hk, HB⟩ := hrel
        have HVR := hide (HV8.out.next HB.out)
        by_cases hlt : k < T + n3
        · have hk0 : (0 : Int) ≤ (k : Int) := by omega
          have hk1 : (k : Int) < (T : Int) + (n3 : Int) := by omega
          rcases (HRA.out.kept HB.out).2 with h0 | ⟨b, off, rfl, hbl, hc⟩
          · omega
          have hx := idsV_has (s := s) (i := k) (by rw [HTN.out, HLS.out]; exact hlt)
          have K2 : Hid (∀ d : Wb wr, Calls Tryz.prog 14 #[.agg #[.slice e1 T d1, .slice e2 M d2, .slice a4 n4 c4, .slice a5 n5 c5, .slice a3 n3 c3], .int .i64 (Mk.gI (idsV s) k)] d.W fun e w' => e = .returned (.bool true) ∧ ∃ p : Wb wr, w' = p.W) := hide (fun d => Calls.toV (fun _ _ h hb => below_step h hb) d (by have K := rhas10_any (cap := c3) (.slice a4 n4 c4) (.slice a5 n5 c5) (HVR.out.next d.h).dv.rt (HVR.out.next d.h).dv.rd (by omega) (Mk.gI (idsV s) k); rw [hx] at K; exact K))
          have g0 : ∀ d : Wb wr, d.W.cell? ⟨qd, 0, none⟩ = some (.slice e1 T d1) := fun d => Lib.cell_of_heap (HVR.out.next d.h).dv.box 0
          have g1 : ∀ d : Wb wr, d.W.cell? ⟨qd, 1, none⟩ = some (.slice e2 M d2) := fun d => Lib.cell_of_heap (HVR.out.next d.h).dv.box 1
          have g2 : ∀ d : Wb wr, d.W.cell? ⟨qd, 2, none⟩ = some (.slice a4 n4 c4) := fun d => Lib.cell_of_heap (HVR.out.next d.h).dv.box 2
          have g3 : ∀ d : Wb wr, d.W.cell? ⟨qd, 3, none⟩ = some (.slice a5 n5 c5) := fun d => Lib.cell_of_heap (HVR.out.next d.h).dv.box 3
          have g4 : ∀ d : Wb wr, d.W.cell? ⟨qd, 4, none⟩ = some (.slice a3 n3 c3) := fun d => Lib.cell_of_heap (HVR.out.next d.h).dv.box 4
          have ne : Nonempty (Wb wr) := ⟨⟨_, Below.refl _ _⟩⟩
          rcases Nat.eq_zero_or_pos k with hz | hz
          · subst hz
            have x0 : ∀ d : Wb wr, d.W.cell? ⟨b, off, none⟩ = some (.int .i64 (Mk.gI (idsV s) 0)) := fun d => (d.h.cell (p := ⟨b, off, none⟩) hbl).trans (hc 0 hlt)
            clear hx hc hbl
            generalize Mk.gI (idsV s) 0 = x at *
            go_wp2
            refine region_v (α := Wb wr) Wc.W (by kernel_rfl) (by kernel_rfl) ⟨_, below_drw⟩ rfl ?_
            repeat (go_big_quiet_step ((go_at_call 14; with_reducible exact K2.out _)))
            refine wpQuiet_nil ?_
            intro W9 hw'
            have hW : Below wr.heap.size wr W9 := by obtain ⟨p, rfl⟩ := hw'; exact p.h
            have HB9 := hide (below_step HB.out hW)
            clear hW hw' K2 g0 g1 g2 g3 g4 ne x0 HB HVR
            go_wp2
            exact ⟨⟨1, by go_num, by omega, HB9⟩, by simp [intOf]; omega⟩
          · obtain ⟨kp, rfl⟩ : ∃ kp, k = kp + 1 := ⟨k - 1, by omega⟩
            have hup := idsV_up HOK.out (i := kp) (by rw [HTN.out, HLS.out]; exact hlt)
            have x0 : ∀ d : Wb wr, d.W.cell? ⟨b, off + (kp + 1), none⟩ = some (.int .i64 (Mk.gI (idsV s) (kp + 1))) := fun d => (d.h.cell (p := ⟨b, off + (kp + 1), none⟩) hbl).trans (hc (kp + 1) hlt)
            have x1 : ∀ d : Wb wr, d.W.cell? ⟨b, off + kp, none⟩ = some (.int .i64 (Mk.gI (idsV s) kp)) := fun d => (d.h.cell (p := ⟨b, off + kp, none⟩) hbl).trans (hc kp (by omega))
            have hle : decide (Mk.gI (idsV s) (kp + 1) ≤ Mk.gI (idsV s) kp) = false := decide_eq_false (by omega)
            have hw1 : IntKind.i64.wrap (((kp + 1 : Nat) : Int) - 1) = (kp : Int) := by rw [IntKind.wrap_i64]; omega
            have hw2 : IntKind.i64.wrap ((kp : Int) + 1 - 1) = (kp : Int) := by rw [IntKind.wrap_i64]; omega
            have hw3 : IntKind.i64.wrap (kp : Int) = (kp : Int) := by rw [IntKind.wrap_i64]; omega
            have hp0 : (0 : Int) ≤ (kp : Int) := by omega
            have hp1 : (kp : Int) < (T : Int) + (n3 : Int) := by omega
            clear hx hc hbl hup
            generalize Mk.gI (idsV s) (kp + 1) = x at *
            generalize Mk.gI (idsV s) kp = y at *
            go_wp2
            refine region_v (α := Wb wr) Wc.W (by kernel_rfl) (by kernel_rfl) ⟨_, below_drw⟩ rfl ?_
            repeat (go_big_quiet_step ((go_at_call 14; with_reducible exact K2.out _)))
            refine wpQuiet_nil ?_
            intro W9 hw'
            have hW : Below wr.heap.size wr W9 := by obtain ⟨p, rfl⟩ := hw'; exact p.h
            have HB9 := hide (below_step HB.out hW)
            clear hW hw' K2 g0 g1 g2 g3 g4 ne x0 x1 HB HVR hle hw1 hw2 hw3
            go_wp2
            exact ⟨⟨kp + 1 + 1, by go_num, by omega, HB9⟩, by simp [intOf]; omega⟩
        · obtain rfl : T + n3 = k := by omega
          have hres := HRES.out
          have hbf := HBF.out
          have hil := HI.out.1
          have HB0 := hide HVR.out.dv.bel
          rcases hres with ⟨h1, rfl, hnn, rfl, hrow⟩ | ⟨kb, h1, h2, h3, rfl, rfl, rfl⟩
          · have hb1 : bd = -1 := by rw [← hbf, ← HTN.out]; exact badF_no h1
            subst hb1
            rw [hil] at hnn
            subst hnn
            have HKI := hide (ritems_any (ci := ci) (cap := c3) (.slice a4 n4 c4) (.slice a5 n5 c5) HVR.out.dv.rt HVR.out.dv.rd (by omega) HVR.out.dv.ri (by omega) (fun j hj => h1 j (by rw [hil]; exact hj)))
            have HR5 := hide (row_keptB hrow (HK8.out.trans (HB.out.mono HK8.out.size)))
            have HCL : Hid ((catV s.specials (txT s) I).length ≤ 1000000) := hide (by have := catV_few (tokT s) s.specials I; omega)
            have g0 := Lib.cell_of_heap HVR.out.dv.box 0
            have g1 := Lib.cell_of_heap HVR.out.dv.box 1
            have g2 := Lib.cell_of_heap HVR.out.dv.box 2
            have g3 := Lib.cell_of_heap HVR.out.dv.box 3
            have g4 := Lib.cell_of_heap HVR.out.dv.box 4
            clear HRES HBF hbf h1 hrow HB HV8 HRA HK8 HVR hil
            generalize catV s.specials (txT s) I = CV at *
            go_wp2_with fail
            refine (unhide HKI).mono ?_
            rintro e W10 ⟨⟨a2', c2', rfl, hr2⟩, hb⟩
            have HIS := hide (Mk.ints_same W10 _ _ (.slice oi CV.length ocp) (.slice a2' CV.length c2') CV (row_keptB HR5.out hb) hr2 HCL.out)
            have HBX := hide (HB0.out.trans (hb.mono HB0.out.size))
            clear hb hr2 HKI HR5 HB0 g0 g1 g2 g3 g4
            go_wp2_with fail
            refine (unhide HIS).mono ?_
            rintro e W11 ⟨rfl, hb⟩
            have HBY := hide (HBX.out.trans (hb.mono HBX.out.size))
            clear hb HIS
            go_wp2
            go_ret
            exact ⟨rfl, HBY.out⟩
          · have hb1 : bd = (kb : Int) := by rw [← hbf, ← HTN.out]; exact badF_at h1 h2 h3
            subst hb1
            have hkb : (0 : Int) ≤ (kb : Int) := by omega
            clear HRES HBF hbf h1 h2 h3 HVR HB HV8 HRA HK8
            go_wp2
            go_ret
            exact ⟨rfl, HB0.out⟩
end Go.Proofs.YteonoccefpkcgaaGreatDoor
