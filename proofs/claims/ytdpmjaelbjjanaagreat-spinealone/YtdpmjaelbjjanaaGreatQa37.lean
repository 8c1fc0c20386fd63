/- The iterator of pieces: its contract. -/
import Derived.RangeFuncNested
import Derived.RangeFuncBound
import Derived.RangeFuncCalls
import Derived.RangeFuncLeaves
import Derived.RangeFuncBox
import Derived.Shelf.Abstract
import Derived.Shelf.RegionOpen
import Derived.OwnWalkIn
import Derived.TacticsInMore
import Derived.LoopNIn
import Derived.LoopIn
import Derived.Test.YtdpmjaelbjjanaaGreatQa36
namespace Go.Proofs.YtdpmjaelbjjanaaGreat
open Go.RowKit Go.Maps
set_option linter.unusedVariables false
set_option linter.unusedSimpArgs false
attribute [local go_sem] Oper.semAt_some

/-- How long a slice is. -/
def slLen : Value → Nat
  | .slice _ n _ => n
  | _ => 0
@[simp] theorem slLen_slice (a : Option Addr) (n c : Nat) : slLen (.slice a n c) = n := rfl
/-- A piece: where it begins, and how many items it has. -/
abbrev PcT (s : Wf.Sp) (I : List Int) := { x : Nat × Nat // 0 < x.2 ∧ x.1 + x.2 ≤ I.length ∧ (I.drop x.1).take x.2 ∈ rns (icE (cuE s)) I }
/-- Its items. -/
def pcL {s : Wf.Sp} {I : List Int} (x : PcT s I) : List Int := (I.drop x.1.1).take x.1.2
/-- It as a slice. -/
abbrev pcV {s : Wf.Sp} {I : List Int} (b off ci : Nat) (x : PcT s I) : Array Value := #[.slice (some ⟨b, off + x.1.1, none⟩) x.1.2 (ci - x.1.1)]
/-- What a round keeps. -/
def KpE (n0 Bv : Nat) (W W' : World) : Prop := Below n0 W W' ∧ W'.heap[Bv]? = W.heap[Bv]?
theorem KpE.trans {n0 Bv : Nat} {A B C : World} (h : KpE n0 Bv A B) (k : KpE n0 Bv B C) : KpE n0 Bv A C := ⟨h.1.trans k.1, k.2.trans h.2⟩
theorem grown_below {W W' : World} (h : Below W.heap.size W W') : W.grownBy W' none := ⟨h.os, h.tape, h.output, h.size, fun k hk _ => h.block k hk⟩
/-- All pieces so far. -/
def SoF {s : Wf.Sp} {I : List Int} (k : Nat) (pre : List (PcT s I)) : Prop := rns (icE (cuE s)) I = pre.map pcL ++ rns (icE (cuE s)) (I.drop k) ∧ pre.length ≤ k
theorem SoF.nil {s : Wf.Sp} {I : List Int} : SoF (s := s) (I := I) 0 [] := ⟨by simp, Nat.le_refl _⟩
theorem SoF.all {s : Wf.Sp} {I : List Int} {pre : List (PcT s I)} (h : SoF I.length pre) : pre.map pcL = rns (icE (cuE s)) I := by
  have := h.1
  rw [List.drop_length] at this
  simpa [rns] using this.symm
/-- The next piece. -/
theorem SoF.next {s : Wf.Sp} {I : List Int} {k m : Nat} {pre : List (PcT s I)} (h : SoF k pre) (hk : k < I.length) (h0 : 0 < m) (h1 : m ≤ (I.drop k).length) (h2 : ∀ j, 0 < j → j < m → icE (cuE s) ((I.drop k).getD (j - 1) 0) ((I.drop k).getD j 0) = false)
    (h3 : m = (I.drop k).length ∨ icE (cuE s) ((I.drop k).getD (m - 1) 0) ((I.drop k).getD m 0) = true) : ∃ hx : 0 < m ∧ k + m ≤ I.length ∧ (I.drop k).take m ∈ rns (icE (cuE s)) I, SoF (k + m) (pre ++ [(⟨(k, m), hx⟩ : PcT s I)]) := by
  have e := rns_first (c := icE (cuE s)) 0 (I.drop k) m h0 h1 h2 h3
  have hl : (I.drop k).length = I.length - k := List.length_drop
  have e1 := h.1
  rw [e, List.drop_drop] at e1
  refine ⟨⟨h0, by omega, by rw [e1]; simp⟩, ?_, ?_⟩
  · refine e1.trans ?_
    rw [List.map_append, List.append_assoc]
    rfl
  · have := h.2
    simp
    omega

set_option maxRecDepth 100000 in
set_option maxHeartbeats 4000000 in
theorem pieces1_in {B q : Nat} {z : VV} {s : Wf.Sp} {u : Int} {w0 : World} (hV : Ve B q z s u w0) (hR : okB s) {ai : Option Addr} {ni ci b off : Nat} {I : List Int} (hI : Mk.RdI w0 ai ni I) (hA : 0 < ni → ai = some ⟨b, off, none⟩) (hci : ni ≤ ci) (hni : ni ≤ 1000000000) (hok : ∀ j, j < ni → Mk.gI I j < 256)
    (n l Bi Bv : Nat) (hn : 1 ≤ n) (J Jx : List (PcT s I) → World → Prop)
    (hY : ∀ pre x W, J pre W → pre.length < I.length → YieldAt Fence.wide (n - 1) Tryz.prog l (pcV b off ci x) W fun e W' =>
      (e = .returned (.bool true) ∧ J (pre ++ [x]) W' ∧ KpE w0.heap.size Bv W W') ∨ (e = .returned (.bool false) ∧ Jx (pre ++ [x]) W'))
    (W : World) (hb : Below w0.heap.size w0 W) (hBi : W.cell? ⟨Bi, 0, none⟩ = some (.slice ai ni ci)) (hBv : Boxed W Bv 30 (.pointer (some ⟨q, 0, none⟩))) (hJ : AbidesFrom W.heap.size J) (h0 : J [] W) :
    CallsIn Fence.wide n Tryz.prog 73 #[.func (.yield l) #[] #[], .pointer (some ⟨Bi, 0, none⟩), .pointer (some ⟨Bv, 0, none⟩)] W fun e W' => (∃ v, e = .returned v) ∧
      ((∃ ys : List (PcT s I), ys.map pcL = rns (icE (cuE s)) I ∧ J ys W') ∨ (∃ pre, Jx pre W')) := by
  have HV := hide hV
  have HR := hide hR
  have HI := hide hI
  have HA := hide hA
  have HOK := hide hok
  have HIL := hide hI.1
  have HJA := hide hJ
  have HY := hide hY
  clear hV hR hI hA hok hJ hY
  refine callsIn_of_wp Tryz.func73 rfl trivial ?_ rfl
  simp only [Tryz.ntmps73, List.size_toArray, List.length_cons, List.length_nil, Nat.reduceAdd, Nat.reduceSub, Array.replicate_succ, Array.replicate_zero, List.push_toArray, List.append_toArray, List.nil_append, List.cons_append]
  gi_wp2
  gi_loopw [4] (fun p wr => ∃ (pre : List (PcT s I)) (k r c : Nat) (ar : Option Addr), p = .slice ar r c ∧ k + r = ni ∧ k + c = ci ∧ Hid (0 < r → ar = some ⟨b, off + k, none⟩) ∧ Hid (SoF k pre) ∧ Hid (J pre wr) ∧ Hid (Below w0.heap.size w0 wr) ∧ Hid (Boxed wr Bv 30 (.pointer (some ⟨q, 0, none⟩)))) (fun p _ => slLen p)
  case atStart => exact ⟨[], 0, ni, ci, ai, rfl, by omega, by omega, hide (fun h => by rw [HA.out h]; simp), hide SoF.nil, hide h0, hide hb, hide hBv⟩
  case round =>
    obtain ⟨pre, k, r, c, ar, rfl, hkr, hkc, HAR, HS, HJ, HB, HBX⟩ := hrel
    by_cases hr0 : 0 < r
    · obtain rfl := HAR.out hr0
      have HVW := hide (HV.out.low HB.out)
      have HIW : Hid (Mk.RdI wr (some ⟨b, off + k, none⟩) r (I.drop k)) := hide (by
        have h1 := HI.out.kept HB.out
        refine ⟨by rw [List.length_drop, h1.1]; omega, ?_⟩
        rcases h1.2 with h2 | ⟨b', off', e, hbl, hc⟩
        · omega
        · rw [HA.out (by omega)] at e
          simp only [Option.some.injEq, Addr.mk.injEq, and_true] at e
          obtain ⟨rfl, rfl⟩ := e
          refine Or.inr ⟨b, off + k, rfl, hbl, fun i hi => ?_⟩
          have h3 := hc (k + i) (by omega)
          rw [Nat.add_assoc, h3]
          simp [Mk.gI, List.getD_eq_getElem?_getD, List.getElem?_drop])
      have K := hide (end_any (c := c) HVW.out HR.out HIW.out hr0 (by omega) (fun j hj => by
        have := HOK.out (k + j) (by omega)
        simpa [Mk.gI, List.getD_eq_getElem?_getD, List.getElem?_drop] using this))
      have hbv := HBX.out.cell
      have hr1 : (0 : Int) < (r : Int) := by omega
      gi_wp2_with fail
      refine ⟨trivial, (callsIn_wide.2 (unhide K)).mono ?_⟩
      rintro e w1 ⟨⟨m, rfl, hm0, hm1, hm2, hm3⟩, hb1⟩
      have hml : m ≤ r := by rw [HIW.out.1] at hm1; exact hm1
      obtain ⟨hx, hS2⟩ := HS.out.next (by rw [HIL.out]; omega) hm0 hm1 hm2 hm3
      have HS2 := hide hS2
      have HJ1 := hide (HJA.out pre wr w1 none HJ.out (grown_below hb1) (fun r e => by cases e))
      have hB1 := HB.out.trans (hb1.mono HB.out.size)
      have HB1 := hide hB1
      have HBX1 : Hid (Boxed w1 Bv 30 (.pointer (some ⟨q, 0, none⟩))) := hide (by unfold Boxed; rw [hb1.block Bv HBX.out.lt]; exact HBX.out)
      obtain ⟨fn, tmps, assign, body, hy, hR⟩ := HY.out pre ⟨(k, m), hx⟩ w1 HJ1.out (by have := HS.out.2; rw [HIL.out]; omega)
      have hck : ci - k = c := by omega
      dsimp only [pcV] at hy
      rw [hck] at hy
      have HR1 := hide hR
      have hm4 : (0 : Int) ≤ (m : Int) := by omega
      have hm5 : (m : Int) ≤ (r : Int) := by omega
      have hm6 : (m : Int) ≤ (c : Int) := by omega
      have hr2 : (r : Int) ≤ (c : Int) := by omega
      clear hm2 hm3 hS2 hR hB1 K HJ HB HBX hbv HVW HIW HS
      gi_wp2
      refine (unhide HR1).mono ?_
      clear HR1 hy HY HJ1
      rintro e W3 (⟨rfl, hJ3, hk3⟩ | ⟨rfl, hJx3⟩)
      · have HJ3 := hide hJ3
        have HB3 := hide (HB1.out.trans hk3.1)
        have HBX3 : Hid (Boxed W3 Bv 30 (.pointer (some ⟨q, 0, none⟩))) := hide (by unfold Boxed; rw [hk3.2]; exact HBX1.out)
        clear hJ3 hk3 HB1 HBX1
        by_cases hmc : m = c
        · have hrc : m = r := by omega
          subst hmc
          subst hrc
          gi_wp2
          exact ⟨⟨pre ++ [⟨(k, m), hx⟩], k + m, 0, 0, _, rfl, by omega, by omega, hide (fun h => absurd h (by omega)), HS2, HJ3, HB3, HBX3⟩, by simp only [slLen_slice]; omega⟩
        · have hmc1 : (m : Int) < (c : Int) := by omega
          gi_wp2
          exact ⟨⟨pre ++ [⟨(k, m), hx⟩], k + m, r - m, c - m, _, rfl, by omega, by omega, hide (fun _ => by rw [Nat.add_assoc]), HS2, HJ3, HB3, HBX3⟩, by simp only [slLen_slice]; omega⟩
      · have HJX := hide hJx3
        clear hJx3
        gi_wp2
        refine bodyPost_ret (results_none rfl _ _ _) rfl ?_
        exact ⟨⟨_, rfl⟩, .inr ⟨_, HJX.out⟩⟩
    · obtain rfl : r = 0 := by omega
      have hz : ¬ (0 : Int) < ((0 : Nat) : Int) := by omega
      have HSA := hide HS.out
      gi_wp2
      go_end0
      refine ⟨⟨_, rfl⟩, .inl ⟨pre, SoF.all (by have := HS.out; rw [show k = I.length by rw [HIL.out]; omega] at this; exact this), HJ.out⟩⟩
/-- The iterator's contract, as a loop asks for it. -/
theorem pieces_stops {B q : Nat} {z : VV} {s : Wf.Sp} {u : Int} {w0 : World} (hV : Ve B q z s u w0) (hR : okB s) {ai : Option Addr} {ni ci b off : Nat} {I : List Int} (hI : Mk.RdI w0 ai ni I) (hA : 0 < ni → ai = some ⟨b, off, none⟩) (hci : ni ≤ ci) (hni : ni ≤ 1000000000) (hok : ∀ j, j < ni → Mk.gI I j < 256)
    (n Bi Bv : Nat) (hn : 1 ≤ n) (w : World) (hb : Below w0.heap.size w0 w) (hBi : Boxed w Bi 41 (.slice ai ni ci)) (hBv : Boxed w Bv 30 (.pointer (some ⟨q, 0, none⟩))) :
    SeqStopsK Fence.wide n Tryz.prog 73 #[.pointer (some ⟨Bi, 0, none⟩), .pointer (some ⟨Bv, 0, none⟩)] (pcV (s := s) (I := I) b off ci) (KpE w0.heap.size Bv) (fun ys => ys.map pcL = rns (icE (cuE s)) I) (fun _ => True) I.length w := fun l J Jx W hW hJ hJx hY h0 => by
  refine (pieces1_in hV hR hI hA hci hni hok n l Bi Bv hn J Jx hY W (hb.trans (hW.mono hb.size)) ((hW.cell (p := ⟨Bi, 0, none⟩) hBi.lt).trans hBi.cell) (by unfold Boxed; rw [hW.block Bv hBv.lt]; exact hBv) hJ h0).mono ?_
  rintro e W' ⟨hv, ⟨ys, h1, h2⟩ | ⟨pre, h⟩⟩
  · exact ⟨hv, .inl ⟨ys, h1, h2⟩⟩
  · exact ⟨hv, .inr ⟨pre, trivial, h⟩⟩
end Go.Proofs.YtdpmjaelbjjanaaGreat
