/- The example of the laws of layer 14. -/
import Derived.Test.YtdpmjaelbjjanaaGreatSnG
import Derived.Test.YtdpmjaelbjjanaaGreatQa39
namespace Go.Proofs.YtdpmjaelbjjanaaGreat
open Go.RowKit Go.Maps
set_option linter.unusedVariables false
set_option linter.unusedSimpArgs false

/-- A vocabulary that is used. -/
structure VaU (w : World) (B q : Nat) (z : VV) (s : Wf.Sp) (W : World) : Prop where
  va : ∃ u d ax an, Va B q z s u d ax an 0 W
  bel : Below w.heap.size w W
  hq : w.heap.size ≤ q
section
variable {w W W' : World} {B q : Nat} {z : VV} {s : Wf.Sp}
theorem VaU.next (h : VaU w B q z s W) (hb : Below W.heap.size W W') : VaU w B q z s W' := by
  obtain ⟨u, d, ax, an, hv⟩ := h.va
  exact ⟨⟨u, d, ax, an, hv.low hb⟩, below_step h.bel hb, h.hq⟩
theorem VaU.alone (h : VaU w B q z s W) (hR : okB s) (hl : s.specials.length ≤ 1000) (id : Int) (hw : Mk.wfI id) :
    Calls Tryz.prog 59 #[.pointer (some ⟨q, 0, none⟩), .int .i64 id] W fun e w' => e = .returned (.bool (aloneV s id)) ∧ VaU w B q z s w' := by
  obtain ⟨u, d, ax, an, hv⟩ := h.va
  have hw2 := h.hq
  exact (valone_any hv hR hl id hw).mono (fun e w' ⟨h1, h2, hF⟩ => ⟨h1, h2, h.bel.trans (hF.below h.bel.size (fun k hk => by simp at hk; omega)), h.hq⟩)
theorem VaU.beside (h : VaU w B q z s W) (hV : VOk s) (hR : okB s) {x y : Int} (hx : aloneV s x = true) (hy : aloneV s y = true) :
    Calls Tryz.prog 60 #[.pointer (some ⟨q, 0, none⟩), .pointer (some ⟨z.p, 0, none⟩), .int .i64 x, .int .i64 y] W fun e w' => e = .returned (.bool (besV s x y)) ∧ VaU w B q z s w' := by
  obtain ⟨u, d, ax, an, hv⟩ := h.va
  exact (beside_any hv hV hR hx hy).mono (fun e w' ⟨h1, h2⟩ => ⟨h1, h.next h2⟩)
theorem VaU.table (h : VaU w B q z s W) :
    Calls Tryz.prog 61 #[.pointer (some ⟨q, 0, none⟩)] W fun e w' => e = .returned (.pointer (some ⟨z.p, 0, none⟩)) ∧ VaU w B q z s w' := by
  obtain ⟨u, d, ax, an, hv⟩ := h.va
  exact (vtable_any hv).mono (fun e w' ⟨h1, h2⟩ => ⟨h1, h.next h2⟩)
theorem VaU.valid (h : VaU w B q z s W) (hV : VOk s) (hR : okB s) (hl : s.specials.length ≤ 1000) (x y : Int) (hx : Mk.wfI x) (hy : Mk.wfI y) :
    Calls Tryz.prog 29 #[.pointer (some ⟨q, 0, none⟩), .int .i64 x, .int .i64 y] W fun e w' => e = .returned (.bool (validV s x y)) ∧ VaU w B q z s w' :=
  valid_gen (hide (h.alone hR hl x hx)) (hide (fun W' h' => h'.alone hR hl y hy)) (hide (fun W' h' => h'.table)) (hide (fun e1 e2 W' h' => h'.beside hV hR e1 e2))
end

def e14 : Wf.Sp := ⟨false, [(97, 98), (98, 99)], [], [], [], []⟩
theorem e14_len : (txT e14).length = 258 := by decide +kernel
theorem e14_right : e14.Right := (Wf.rightB_iff e14).1 (by decide)
theorem e14_ok : VOk e14 := by
  refine ⟨fun j hj => ?_, ?_, fun j hj => ?_⟩
  · have h2 : nT e14 = 2 := rfl
    rcases (show j = 0 ∨ j = 1 by omega) with rfl | rfl <;> decide +kernel
  · refine ⟨fun i hi => ?_, Or.inl ⟨rfl, rfl⟩⟩
    have : e14.specials.length = 0 := rfl
    omega
  · have : e14.specials.length = 0 := rfl
    omega
theorem e14_b : okB e14 := ⟨fun c h => (by simp [e14] at h), fun j h => (by simp [e14] at h)⟩
theorem e14_1 : validV e14 97 257 = false := by decide +kernel
theorem e14_2 : validV e14 256 99 = true := by decide +kernel
theorem e14_3 : validV e14 256 257 = true := by decide +kernel
theorem e14_at (w : World) : Wf.SpAt (w.alloc (.cells #[.int .i64 97, .int .i64 98, .int .i64 98, .int .i64 99] 77)) ⟨false, some ⟨w.heap.size, 0, none⟩, 2, 2, none, 0, 0, none, 0, 0, none, 0, 0, none, 0, 0⟩ e14 := by
  have h1 : Wf.RdM (w.alloc (.cells #[.int .i64 97, .int .i64 98, .int .i64 98, .int .i64 99] 77)) (some ⟨w.heap.size, 0, none⟩) 2 [(97, 98), (98, 99)] := by
    refine ⟨rfl, Or.inr ⟨_, _, rfl, by simp, fun i hi => ?_⟩⟩
    rcases (show i = 0 ∨ i = 1 by omega) with rfl | rfl <;> constructor <;> simp [Wf.gM]
  exact ⟨rfl, h1, ⟨rfl, Or.inl rfl⟩, ⟨rfl, Or.inl rfl⟩, ⟨rfl, Or.inl rfl⟩, ⟨rfl, Or.inl rfl⟩⟩

set_option maxRecDepth 20000 in
set_option maxHeartbeats 4000000 in
theorem awake14_any (w : World) : Calls Tryz.prog 17 #[] w fun e w' => e = .returned (.bool true) ∧ Below w.heap.size w w' := by
  have HB0 := hide (Wf.low_alloc w (.cells #[.int .i64 97, .int .i64 98, .int .i64 98, .int .i64 99] 77))
  have HN := hide (vnew_any _ _ _ (e14_at w))
  go_enter Tryz.func17, Tryz.ntmps17
  go_wp2_with fail
  refine (unhide HN).mono ?_
  clear HN
  generalize w.alloc (.cells #[.int .i64 97, .int .i64 98, .int .i64 98, .int .i64 99] 77) = w1 at *
  rintro e w2 ⟨hP, hb⟩
  rcases hP with ⟨hr, _⟩ | ⟨_, ⟨q, z, _, rfl, hz⟩ | ⟨p, k, er, hbad, _⟩⟩
  · exact absurd ((Wf.rightB_iff e14).2 e14_right) (by rw [hr]; simp)
  rotate_left
  · exact (hbad.not e14_ok).elim
  have HU : Hid (VaU w w1.heap.size q z e14 w2) := hide ⟨⟨_, _, _, _, hz.va⟩, below_step HB0.out hb, Nat.le_trans HB0.out.size hz.hq⟩
  have K1 := hide (HU.out.valid e14_ok e14_b (by decide) 97 257 (by unfold Mk.wfI; omega) (by unfold Mk.wfI; omega))
  rw [e14_1] at K1
  clear hb hz HB0
  go_wp2_with fail
  refine (unhide K1).mono ?_
  rintro e w3 ⟨rfl, h3⟩
  have K2 := hide (h3.valid e14_ok e14_b (by decide) 256 99 (by unfold Mk.wfI; omega) (by unfold Mk.wfI; omega))
  rw [e14_2] at K2
  clear h3 K1 HU
  go_wp2_with fail
  refine (unhide K2).mono ?_
  rintro e w4 ⟨rfl, h4⟩
  have K3 := hide (h4.valid e14_ok e14_b (by decide) 256 257 (by unfold Mk.wfI; omega) (by unfold Mk.wfI; omega))
  rw [e14_3] at K3
  clear h4 K2
  go_wp2_with fail
  refine (unhide K3).mono ?_
  rintro e w5 ⟨rfl, h5⟩
  have HB5 := hide h5.bel
  clear h5 K3
  go_wp2
  go_ret
  exact ⟨rfl, HB5.out⟩
end Go.Proofs.YtdpmjaelbjjanaaGreat
