/- Lists of merges that are held against others. -/
import Derived.Test.YtlfffalfnnmliaaTkGr
import Derived.BigQuiet
namespace Go.Proofs.Ytlfffalfnnmliaa
open Go.RowKit Go.Maps
set_option linter.unusedVariables false
set_option linter.unusedSimpArgs false

set_option maxRecDepth 20000 in
set_option maxHeartbeats 4000000 in
theorem lmerges_any (w : World) (a1 a2 : Option Addr) (n1 n2 c1 c2 : Nat) (A B : List (Int × Int)) (ha : ReadsM w a1 n1 A) (hb : ReadsM w a2 n2 B) (hn : n1 ≤ 1000000) :
    Calls Try.prog 13 #[.slice a1 n1 c1, .slice a2 n2 c2] w fun e w' => e = .returned (.bool (decide (A = B))) ∧ Below w.heap.size w w' := by
  have HA := hide ha
  have HB := hide hb
  clear ha hb
  by_cases hne : ¬ n1 = n2
  · have HD : Hid (decide (A = B) = false) := hide (decide_eq_false (fun e => hne (by rw [← HA.out.1, ← HB.out.1, e])))
    have hnd : ((n1 : Int) != (n2 : Int)) = true := by simp; omega
    go_enter Try.func13, Try.ntmps13
    go_wp2
    go_ret
    exact ⟨by rw [HD.out]; rfl, Below.refl _ _⟩
  replace hne : n1 = n2 := by omega
  subst hne
  go_enter Try.func13, Try.ntmps13
  go_wp2
  go_loopw [5] (fun i wr => ∃ (k : Nat), i = .int .i64 k ∧ k ≤ n1 ∧ Hid (∀ j, j < k → gm A j = gm B j) ∧ Hid (Below w.heap.size w wr)) (fun i _ => n1 - (intOf i).toNat)
  case atStart => exact ⟨0, rfl, Nat.zero_le _, hide (fun j hj => by omega), hide (Below.refl _ _)⟩
  case round =>
    obtain ⟨k, rfl, hk, HK, HBl⟩ := hrel
    by_cases hlt : k < n1
    · have hk0 : (0 : Int) ≤ (k : Int) := by omega
      have hk1 : (k : Int) < (n1 : Int) := by omega
      obtain ⟨b, off, rfl, hbw, c0, c1⟩ := (HA.out.kept HBl.out).at hlt
      obtain ⟨b', off', rfl, hbw', d0, d1⟩ := (HB.out.kept HBl.out).at hlt
      have HK2 : Hid (gm A k = gm B k → ∀ j, j < k + 1 → gm A j = gm B j) := hide (fun h j hj => by by_cases e : j = k; · { rw [e]; exact h }; · { exact HK.out j (by omega) })
      have HNE : Hid (gm A k ≠ gm B k → A ≠ B) := hide (fun h e => h (by rw [e]))
      generalize gm A k = x at *
      generalize gm B k = y at *
      obtain ⟨x1, x2⟩ := x
      obtain ⟨y1, y2⟩ := y
      simp only at c0 c1 d0 d1
      by_cases e1 : x1 = y1
      · by_cases e2 : x2 = y2
        · subst e1 e2
          have HF := hide (HK2.out rfl)
          go_wp2
          go_quiet (fail)
          have HD : Hid (Below w.heap.size w (wr.drewN nq)) := hide (HBl.out.trans ⟨rfl, rfl, rfl, Nat.le_refl _, fun _ _ => rfl⟩)
          clear c0 c1 d0 d1
          generalize wr.drewN nq = wd at *
          go_wp2
          exact ⟨⟨k + 1, by go_num, by omega, HF, HD⟩, by simp [intOf]; omega⟩
        · have HF := hide (HNE.out (fun e => e2 (by injection e)))
          have hd1 : (x1 == y1) = true := by simpa using e1
          have hd2 : (x2 == y2) = false := by simpa using e2
          clear e1 e2
          go_wp2
          go_quiet (fail)
          have HD : Hid (Below w.heap.size w (wr.drewN nq)) := hide (HBl.out.trans ⟨rfl, rfl, rfl, Nat.le_refl _, fun _ _ => rfl⟩)
          clear c0 c1 d0 d1
          generalize wr.drewN nq = wd at *
          go_wp2
          go_ret
          exact ⟨by rw [decide_eq_false HF.out]; rfl, HD.out⟩
      · have HF := hide (HNE.out (fun e => e1 (by injection e)))
        have hd1 : (x1 == y1) = false := by simpa using e1
        clear e1
        go_wp2
        go_quiet (fail)
        have HD : Hid (Below w.heap.size w (wr.drewN nq)) := hide (HBl.out.trans ⟨rfl, rfl, rfl, Nat.le_refl _, fun _ _ => rfl⟩)
        clear c0 c1 d0 d1
        generalize wr.drewN nq = wd at *
        go_wp2
        go_ret
        exact ⟨by rw [decide_eq_false HF.out]; rfl, HD.out⟩
    · obtain rfl : k = n1 := by omega
      have HEQ : Hid (A = B) := hide (by
        refine List.ext_getElem (by rw [HA.out.1, HB.out.1]) (fun i h1 h2 => ?_)
        have := HK.out i (by rw [← HA.out.1]; exact h1)
        unfold gm at this
        rw [List.getD_eq_getElem?_getD, List.getD_eq_getElem?_getD, List.getElem?_eq_getElem h1, List.getElem?_eq_getElem h2] at this
        exact this)
      go_wp2
      go_ret
      exact ⟨by rw [decide_eq_true HEQ.out]; rfl, HBl.out⟩

set_option maxRecDepth 20000 in
set_option maxHeartbeats 4000000 in
theorem sequal_any (w : World) (a1 a2 : Option Addr) (n1 n2 c1 c2 : Nat) (A B : List (Int × Int)) (ha : ReadsM w a1 n1 A) (hb : ReadsM w a2 n2 B) (hn : n1 ≤ 1000000) :
    Calls Try.prog 46 #[.slice a1 n1 c1, .slice a2 n2 c2] w fun e w' => e = .returned (.bool (decide (A = B))) ∧ Below w.heap.size w w' := by
  have HA := hide ha
  have HB := hide hb
  clear ha hb
  by_cases hne : ¬ n1 = n2
  · have HD : Hid (decide (A = B) = false) := hide (decide_eq_false (fun e => hne (by rw [← HA.out.1, ← HB.out.1, e])))
    have hnd : ((n1 : Int) != (n2 : Int)) = true := by simp; omega
    go_enter Try.func46, Try.ntmps46
    go_wp2
    go_ret
    exact ⟨by rw [HD.out]; rfl, Below.refl _ _⟩
  replace hne : n1 = n2 := by omega
  subst hne
  go_enter Try.func46, Try.ntmps46
  go_wp2
  go_loopw [13] (fun i wr => ∃ (k : Nat), i = .int .i64 k ∧ k ≤ n1 ∧ Hid (∀ j, j < k → gm A j = gm B j) ∧ Hid (Below w.heap.size w wr)) (fun i _ => n1 - (intOf i).toNat)
  case atStart => exact ⟨0, rfl, Nat.zero_le _, hide (fun j hj => by omega), hide (Below.refl _ _)⟩
  case round =>
    obtain ⟨k, rfl, hk, HK, HBl⟩ := hrel
    by_cases hlt : k < n1
    · have hk0 : (0 : Int) ≤ (k : Int) := by omega
      have hk1 : (k : Int) < (n1 : Int) := by omega
      obtain ⟨b, off, rfl, hbw, c0, c1⟩ := (HA.out.kept HBl.out).at hlt
      obtain ⟨b', off', rfl, hbw', d0, d1⟩ := (HB.out.kept HBl.out).at hlt
      have HK2 : Hid (gm A k = gm B k → ∀ j, j < k + 1 → gm A j = gm B j) := hide (fun h j hj => by by_cases e : j = k; · { rw [e]; exact h }; · { exact HK.out j (by omega) })
      have HNE : Hid (gm A k ≠ gm B k → A ≠ B) := hide (fun h e => h (by rw [e]))
      generalize gm A k = x at *
      generalize gm B k = y at *
      obtain ⟨x1, x2⟩ := x
      obtain ⟨y1, y2⟩ := y
      simp only at c0 c1 d0 d1
      by_cases e1 : x1 = y1
      · by_cases e2 : x2 = y2
        · subst e1 e2
          have HF := hide (HK2.out rfl)
          go_wp2
          go_quiet (fail)
          have HD : Hid (Below w.heap.size w (wr.drewN nq)) := hide (HBl.out.trans ⟨rfl, rfl, rfl, Nat.le_refl _, fun _ _ => rfl⟩)
          clear c0 c1 d0 d1
          generalize wr.drewN nq = wd at *
          go_wp2
          exact ⟨⟨k + 1, by go_num, by omega, HF, HD⟩, by simp [intOf]; omega⟩
        · have HF := hide (HNE.out (fun e => e2 (by injection e)))
          have hd1 : (x1 == y1) = true := by simpa using e1
          have hd2 : (x2 == y2) = false := by simpa using e2
          clear e1 e2
          go_wp2
          go_quiet (fail)
          have HD : Hid (Below w.heap.size w (wr.drewN nq)) := hide (HBl.out.trans ⟨rfl, rfl, rfl, Nat.le_refl _, fun _ _ => rfl⟩)
          clear c0 c1 d0 d1
          generalize wr.drewN nq = wd at *
          go_wp2
          go_ret
          exact ⟨by rw [decide_eq_false HF.out]; rfl, HD.out⟩
      · have HF := hide (HNE.out (fun e => e1 (by injection e)))
        have hd1 : (x1 == y1) = false := by simpa using e1
        clear e1
        go_wp2
        go_quiet (fail)
        have HD : Hid (Below w.heap.size w (wr.drewN nq)) := hide (HBl.out.trans ⟨rfl, rfl, rfl, Nat.le_refl _, fun _ _ => rfl⟩)
        clear c0 c1 d0 d1
        generalize wr.drewN nq = wd at *
        go_wp2
        go_ret
        exact ⟨by rw [decide_eq_false HF.out]; rfl, HD.out⟩
    · obtain rfl : k = n1 := by omega
      have HEQ : Hid (A = B) := hide (by
        refine List.ext_getElem (by rw [HA.out.1, HB.out.1]) (fun i h1 h2 => ?_)
        have := HK.out i (by rw [← HA.out.1]; exact h1)
        unfold gm at this
        rw [List.getD_eq_getElem?_getD, List.getD_eq_getElem?_getD, List.getElem?_eq_getElem h1, List.getElem?_eq_getElem h2] at this
        exact this)
      go_wp2
      go_ret
      exact ⟨by rw [decide_eq_true HEQ.out]; rfl, HBl.out⟩

end Go.Proofs.Ytlfffalfnnmliaa
