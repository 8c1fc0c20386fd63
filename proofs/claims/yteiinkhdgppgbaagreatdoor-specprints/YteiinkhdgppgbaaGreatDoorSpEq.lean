/- Rows that are held against others. -/
import Derived.Test.YteiinkhdgppgbaaGreatDoorSpT
import Derived.BigQuiet
namespace Go.Proofs.YteiinkhdgppgbaaGreatDoor
open Go.RowKit
set_option linter.unusedVariables false
set_option linter.unusedSimpArgs false

theorem low_drewQ (w : World) (n : Nat) : Below w.heap.size w (w.drewN n) := ⟨rfl, rfl, rfl, Nat.le_refl _, fun _ _ => rfl⟩
theorem beqQ (a b : ByteArray) : (a.toList == b.toList) = decide (a = b) := by
  rw [Bool.eq_iff_iff]
  simp only [beq_iff_eq, decide_eq_true_eq]
  constructor
  · intro h
    rw [ByteArray.toList_eq, ByteArray.toList_eq] at h
    exact ByteArray.ext (Array.ext' h)
  · intro h; rw [h]
theorem getD_ext {α : Type} (d : α) {A B : List α} {n : Nat} (ha : A.length = n) (hb : B.length = n) (h : ∀ j, j < n → A.getD j d = B.getD j d) : A = B := by
  refine List.ext_getElem (by omega) (fun i h1 h2 => ?_)
  have := h i (by omega)
  rw [List.getD_eq_getElem?_getD, List.getD_eq_getElem?_getD, List.getElem?_eq_getElem h1, List.getElem?_eq_getElem h2] at this
  exact this

set_option maxRecDepth 20000 in
set_option maxHeartbeats 8000000 in
theorem eqM_any (w : World) (a1 a2 : Option Addr) (n1 n2 c1 c2 : Nat) (A B : List (Int × Int)) (ha : RdM w a1 n1 A) (hb : RdM w a2 n2 B) (hn : n1 ≤ 9223372036854775807) :
    Calls Tryz.prog 31 #[.slice a1 n1 c1, .slice a2 n2 c2] w fun e w' => e = .returned (.bool (decide (A = B))) ∧ Below w.heap.size w w' := by
  have HA := hide ha
  have HB := hide hb
  clear ha hb
  by_cases hne : ¬ n1 = n2
  · have HD : Hid (decide (A = B) = false) := hide (decide_eq_false (fun e => hne (by rw [← HA.out.1, ← HB.out.1, e])))
    have hnd : ((n1 : Int) != (n2 : Int)) = true := by simp; omega
    go_enter Tryz.func31, Tryz.ntmps31
    go_wp2
    go_ret
    exact ⟨by rw [HD.out]; rfl, Below.refl _ _⟩
  replace hne : n1 = n2 := by omega
  subst hne
  go_enter Tryz.func31, Tryz.ntmps31
  go_wp2
  go_loopw [13] (fun i wr => ∃ (k : Nat), i = .int .i64 k ∧ k ≤ n1 ∧ Hid (∀ j, j < k → gM A j = gM B j) ∧ Hid (Below w.heap.size w wr)) (fun i _ => n1 - (intOf i).toNat)
  case atStart => exact ⟨0, rfl, Nat.zero_le _, hide (fun j hj => by omega), hide (Below.refl _ _)⟩
  case round =>
    obtain ⟨k, rfl, hk, HK, HBl⟩ := hrel
    by_cases hlt : k < n1
    · have hk0 : (0 : Int) ≤ (k : Int) := by omega
      have hk1 : (k : Int) < (n1 : Int) := by omega
      rcases (HA.out.kept HBl.out).2 with h0 | ⟨b, off, rfl, hbw, hc⟩
      · omega
      rcases (HB.out.kept HBl.out).2 with h0 | ⟨b', off', rfl, hbw', hc'⟩
      · omega
      obtain ⟨c0, c1⟩ := hc k hlt
      obtain ⟨d0, d1⟩ := hc' k hlt
      clear hc hc'
      have HK2 : Hid ((gM A k).1 = (gM B k).1 ∧ (gM A k).2 = (gM B k).2 → ∀ j, j < k + 1 → gM A j = gM B j) := hide (fun h j hj => by
        by_cases e : j = k
        · subst e; exact Prod.ext h.1 h.2
        · exact HK.out j (by omega))
      have HNE : Hid (¬ ((gM A k).1 = (gM B k).1 ∧ (gM A k).2 = (gM B k).2) → A ≠ B) := hide (fun h e => h ⟨by rw [e], by rw [e]⟩)
      generalize (gM A k).1 = x0 at *
      generalize (gM B k).1 = y0 at *
      generalize (gM A k).2 = x1 at *
      generalize (gM B k).2 = y1 at *
      by_cases e0 : x0 = y0
      · by_cases e1 : x1 = y1
        · have HF := hide (HK2.out ⟨e0, e1⟩)
          have s0 : (y0 == y0) = true := by simp
          have s1 : (y1 == y1) = true := by simp
          subst e0 e1
          go_wp2
          go_quiet (fail)
          have HD := hide (HBl.out.trans ((low_drewQ wr nq).mono HBl.out.size))
          clear c0 c1 d0 d1
          generalize wr.drewN nq = wd at *
          go_wp2
          exact ⟨⟨k + 1, by go_num, by omega, HF, HD⟩, by simp [intOf]; omega⟩
        · have HF := hide (HNE.out (fun h => e1 h.2))
          have hd0 : (x0 == y0) = true := by simpa using e0
          have hd1 : (x1 == y1) = false := by simpa using e1
          clear e0 e1
          go_wp2
          go_quiet (fail)
          have HD := hide (HBl.out.trans ((low_drewQ wr nq).mono HBl.out.size))
          clear c0 c1 d0 d1
          generalize wr.drewN nq = wd at *
          go_wp2
          go_ret
          exact ⟨by rw [decide_eq_false HF.out]; rfl, HD.out⟩
      · have HF := hide (HNE.out (fun h => e0 h.1))
        have hd0 : (x0 == y0) = false := by simpa using e0
        clear e0
        go_wp2
        go_quiet (fail)
        have HD := hide (HBl.out.trans ((low_drewQ wr nq).mono HBl.out.size))
        clear c0 c1 d0 d1
        generalize wr.drewN nq = wd at *
        go_wp2
        go_ret
        exact ⟨by rw [decide_eq_false HF.out]; rfl, HD.out⟩
    · obtain rfl : k = n1 := by omega
      have HEQ : Hid (A = B) := hide (getD_ext (0, 0) HA.out.1 HB.out.1 HK.out)
      go_wp2
      go_ret
      exact ⟨by rw [decide_eq_true HEQ.out]; rfl, HBl.out⟩

set_option maxRecDepth 20000 in
set_option maxHeartbeats 8000000 in
theorem eqT_any (w : World) (a1 a2 : Option Addr) (n1 n2 c1 c2 : Nat) (A B : List ByteArray) (ha : RdT w a1 n1 A) (hb : RdT w a2 n2 B) (hn : n1 ≤ 9223372036854775807) :
    Calls Tryz.prog 32 #[.slice a1 n1 c1, .slice a2 n2 c2] w fun e w' => e = .returned (.bool (decide (A = B))) ∧ Below w.heap.size w w' := by
  have HA := hide ha
  have HB := hide hb
  clear ha hb
  by_cases hne : ¬ n1 = n2
  · have HD : Hid (decide (A = B) = false) := hide (decide_eq_false (fun e => hne (by rw [← HA.out.1, ← HB.out.1, e])))
    have hnd : ((n1 : Int) != (n2 : Int)) = true := by simp; omega
    go_enter Tryz.func32, Tryz.ntmps32
    go_wp2
    go_ret
    exact ⟨by rw [HD.out]; rfl, Below.refl _ _⟩
  replace hne : n1 = n2 := by omega
  subst hne
  go_enter Tryz.func32, Tryz.ntmps32
  go_wp2
  go_loopw [13] (fun i wr => ∃ (k : Nat), i = .int .i64 k ∧ k ≤ n1 ∧ Hid (∀ j, j < k → gT A j = gT B j) ∧ Hid (Below w.heap.size w wr)) (fun i _ => n1 - (intOf i).toNat)
  case atStart => exact ⟨0, rfl, Nat.zero_le _, hide (fun j hj => by omega), hide (Below.refl _ _)⟩
  case round =>
    obtain ⟨k, rfl, hk, HK, HBl⟩ := hrel
    by_cases hlt : k < n1
    · have hk0 : (0 : Int) ≤ (k : Int) := by omega
      have hk1 : (k : Int) < (n1 : Int) := by omega
      rcases (HA.out.kept HBl.out).2 with h0 | ⟨b, off, rfl, hbw, hc⟩
      · omega
      rcases (HB.out.kept HBl.out).2 with h0 | ⟨b', off', rfl, hbw', hc'⟩
      · omega
      have c0 := hc k hlt
      have d0 := hc' k hlt
      clear hc hc'
      have HK2 : Hid (gT A k = gT B k → ∀ j, j < k + 1 → gT A j = gT B j) := hide (fun h j hj => by
        by_cases e : j = k
        · subst e; exact h
        · exact HK.out j (by omega))
      have HNE : Hid (¬ (gT A k = gT B k) → A ≠ B) := hide (fun h e => h (by rw [e]))
      generalize gT A k = x0 at *
      generalize gT B k = y0 at *
      by_cases e0 : x0 = y0
      · have HF := hide (HK2.out e0)
        have s0 : (y0.toList == y0.toList) = true := by simp
        subst e0
        go_wp2
        go_quiet (fail)
        have HD := hide (HBl.out.trans ((low_drewQ wr nq).mono HBl.out.size))
        clear c0 d0
        generalize wr.drewN nq = wd at *
        go_wp2
        exact ⟨⟨k + 1, by go_num, by omega, HF, HD⟩, by simp [intOf]; omega⟩
      · have HF := hide (HNE.out (fun h => e0 h))
        have hd0 : (x0.toList == y0.toList) = false := by rw [beqQ]; simpa using e0
        clear e0
        go_wp2
        go_quiet (fail)
        have HD := hide (HBl.out.trans ((low_drewQ wr nq).mono HBl.out.size))
        clear c0 d0
        generalize wr.drewN nq = wd at *
        go_wp2
        go_ret
        exact ⟨by rw [decide_eq_false HF.out]; rfl, HD.out⟩
    · obtain rfl : k = n1 := by omega
      have HEQ : Hid (A = B) := hide (getD_ext (⟨#[]⟩ : ByteArray) HA.out.1 HB.out.1 HK.out)
      go_wp2
      go_ret
      exact ⟨by rw [decide_eq_true HEQ.out]; rfl, HBl.out⟩

set_option maxRecDepth 20000 in
set_option maxHeartbeats 8000000 in
theorem eqS_any (w : World) (a1 a2 : Option Addr) (n1 n2 c1 c2 : Nat) (A B : List (Int × ByteArray)) (ha : RdS w a1 n1 A) (hb : RdS w a2 n2 B) (hn : n1 ≤ 9223372036854775807) :
    Calls Tryz.prog 33 #[.slice a1 n1 c1, .slice a2 n2 c2] w fun e w' => e = .returned (.bool (decide (A = B))) ∧ Below w.heap.size w w' := by
  have HA := hide ha
  have HB := hide hb
  clear ha hb
  by_cases hne : ¬ n1 = n2
  · have HD : Hid (decide (A = B) = false) := hide (decide_eq_false (fun e => hne (by rw [← HA.out.1, ← HB.out.1, e])))
    have hnd : ((n1 : Int) != (n2 : Int)) = true := by simp; omega
    go_enter Tryz.func33, Tryz.ntmps33
    go_wp2
    go_ret
    exact ⟨by rw [HD.out]; rfl, Below.refl _ _⟩
  replace hne : n1 = n2 := by omega
  subst hne
  go_enter Tryz.func33, Tryz.ntmps33
  go_wp2
  go_loopw [13] (fun i wr => ∃ (k : Nat), i = .int .i64 k ∧ k ≤ n1 ∧ Hid (∀ j, j < k → gS A j = gS B j) ∧ Hid (Below w.heap.size w wr)) (fun i _ => n1 - (intOf i).toNat)
  case atStart => exact ⟨0, rfl, Nat.zero_le _, hide (fun j hj => by omega), hide (Below.refl _ _)⟩
  case round =>
    obtain ⟨k, rfl, hk, HK, HBl⟩ := hrel
    by_cases hlt : k < n1
    · have hk0 : (0 : Int) ≤ (k : Int) := by omega
      have hk1 : (k : Int) < (n1 : Int) := by omega
      rcases (HA.out.kept HBl.out).2 with h0 | ⟨b, off, rfl, hbw, hc⟩
      · omega
      rcases (HB.out.kept HBl.out).2 with h0 | ⟨b', off', rfl, hbw', hc'⟩
      · omega
      obtain ⟨c0, c1⟩ := hc k hlt
      obtain ⟨d0, d1⟩ := hc' k hlt
      clear hc hc'
      have HK2 : Hid ((gS A k).1 = (gS B k).1 ∧ (gS A k).2 = (gS B k).2 → ∀ j, j < k + 1 → gS A j = gS B j) := hide (fun h j hj => by
        by_cases e : j = k
        · subst e; exact Prod.ext h.1 h.2
        · exact HK.out j (by omega))
      have HNE : Hid (¬ ((gS A k).1 = (gS B k).1 ∧ (gS A k).2 = (gS B k).2) → A ≠ B) := hide (fun h e => h ⟨by rw [e], by rw [e]⟩)
      generalize (gS A k).1 = x0 at *
      generalize (gS B k).1 = y0 at *
      generalize (gS A k).2 = x1 at *
      generalize (gS B k).2 = y1 at *
      by_cases e0 : x0 = y0
      · by_cases e1 : x1 = y1
        · have HF := hide (HK2.out ⟨e0, e1⟩)
          have s0 : (y0 == y0) = true := by simp
          have s1 : (y1.toList == y1.toList) = true := by simp
          subst e0 e1
          go_wp2
          go_quiet (fail)
          have HD := hide (HBl.out.trans ((low_drewQ wr nq).mono HBl.out.size))
          clear c0 c1 d0 d1
          generalize wr.drewN nq = wd at *
          go_wp2
          exact ⟨⟨k + 1, by go_num, by omega, HF, HD⟩, by simp [intOf]; omega⟩
        · have HF := hide (HNE.out (fun h => e1 h.2))
          have hd0 : (x0 == y0) = true := by simpa using e0
          have hd1 : (x1.toList == y1.toList) = false := by rw [beqQ]; simpa using e1
          clear e0 e1
          go_wp2
          go_quiet (fail)
          have HD := hide (HBl.out.trans ((low_drewQ wr nq).mono HBl.out.size))
          clear c0 c1 d0 d1
          generalize wr.drewN nq = wd at *
          go_wp2
          go_ret
          exact ⟨by rw [decide_eq_false HF.out]; rfl, HD.out⟩
      · have HF := hide (HNE.out (fun h => e0 h.1))
        have hd0 : (x0 == y0) = false := by simpa using e0
        clear e0
        go_wp2
        go_quiet (fail)
        have HD := hide (HBl.out.trans ((low_drewQ wr nq).mono HBl.out.size))
        clear c0 c1 d0 d1
        generalize wr.drewN nq = wd at *
        go_wp2
        go_ret
        exact ⟨by rw [decide_eq_false HF.out]; rfl, HD.out⟩
    · obtain rfl : k = n1 := by omega
      have HEQ : Hid (A = B) := hide (getD_ext ((0 : Int), (⟨#[]⟩ : ByteArray)) HA.out.1 HB.out.1 HK.out)
      go_wp2
      go_ret
      exact ⟨by rw [decide_eq_true HEQ.out]; rfl, HBl.out⟩

set_option maxRecDepth 20000 in
set_option maxHeartbeats 8000000 in
theorem eqC_any (w : World) (a1 a2 : Option Addr) (n1 n2 c1 c2 : Nat) (A B : List (Int × Int × Int)) (ha : RdC w a1 n1 A) (hb : RdC w a2 n2 B) (hn : n1 ≤ 9223372036854775807) :
    Calls Tryz.prog 34 #[.slice a1 n1 c1, .slice a2 n2 c2] w fun e w' => e = .returned (.bool (decide (A = B))) ∧ Below w.heap.size w w' := by
  have HA := hide ha
  have HB := hide hb
  clear ha hb
  by_cases hne : ¬ n1 = n2
  · have HD : Hid (decide (A = B) = false) := hide (decide_eq_false (fun e => hne (by rw [← HA.out.1, ← HB.out.1, e])))
    have hnd : ((n1 : Int) != (n2 : Int)) = true := by simp; omega
    go_enter Tryz.func34, Tryz.ntmps34
    go_wp2
    go_ret
    exact ⟨by rw [HD.out]; rfl, Below.refl _ _⟩
  replace hne : n1 = n2 := by omega
  subst hne
  go_enter Tryz.func34, Tryz.ntmps34
  go_wp2
  go_loopw [13] (fun i wr => ∃ (k : Nat), i = .int .i64 k ∧ k ≤ n1 ∧ Hid (∀ j, j < k → gC A j = gC B j) ∧ Hid (Below w.heap.size w wr)) (fun i _ => n1 - (intOf i).toNat)
  case atStart => exact ⟨0, rfl, Nat.zero_le _, hide (fun j hj => by omega), hide (Below.refl _ _)⟩
  case round =>
    obtain ⟨k, rfl, hk, HK, HBl⟩ := hrel
    by_cases hlt : k < n1
    · have hk0 : (0 : Int) ≤ (k : Int) := by omega
      have hk1 : (k : Int) < (n1 : Int) := by omega
      rcases (HA.out.kept HBl.out).2 with h0 | ⟨b, off, rfl, hbw, hc⟩
      · omega
      rcases (HB.out.kept HBl.out).2 with h0 | ⟨b', off', rfl, hbw', hc'⟩
      · omega
      obtain ⟨c0, c1, c2⟩ := hc k hlt
      obtain ⟨d0, d1, d2⟩ := hc' k hlt
      clear hc hc'
      have HK2 : Hid ((gC A k).1 = (gC B k).1 ∧ (gC A k).2.1 = (gC B k).2.1 ∧ (gC A k).2.2 = (gC B k).2.2 → ∀ j, j < k + 1 → gC A j = gC B j) := hide (fun h j hj => by
        by_cases e : j = k
        · subst e; exact Prod.ext h.1 (Prod.ext h.2.1 h.2.2)
        · exact HK.out j (by omega))
      have HNE : Hid (¬ ((gC A k).1 = (gC B k).1 ∧ (gC A k).2.1 = (gC B k).2.1 ∧ (gC A k).2.2 = (gC B k).2.2) → A ≠ B) := hide (fun h e => h ⟨by rw [e], by rw [e], by rw [e]⟩)
      generalize (gC A k).1 = x0 at *
      generalize (gC B k).1 = y0 at *
      generalize (gC A k).2.1 = x1 at *
      generalize (gC B k).2.1 = y1 at *
      generalize (gC A k).2.2 = x2 at *
      generalize (gC B k).2.2 = y2 at *
      by_cases e0 : x0 = y0
      · by_cases e1 : x1 = y1
        · by_cases e2 : x2 = y2
          · have HF := hide (HK2.out ⟨e0, e1, e2⟩)
            have s0 : (y0 == y0) = true := by simp
            have s1 : (y1 == y1) = true := by simp
            have s2 : (y2 == y2) = true := by simp
            subst e0 e1 e2
            go_wp2
            go_quiet (fail)
            have HD := hide (HBl.out.trans ((low_drewQ wr nq).mono HBl.out.size))
            clear c0 c1 c2 d0 d1 d2
            generalize wr.drewN nq = wd at *
            go_wp2
            exact ⟨⟨k + 1, by go_num, by omega, HF, HD⟩, by simp [intOf]; omega⟩
          · have HF := hide (HNE.out (fun h => e2 h.2.2))
            have hd0 : (x0 == y0) = true := by simpa using e0
            have hd1 : (x1 == y1) = true := by simpa using e1
            have hd2 : (x2 == y2) = false := by simpa using e2
            clear e0 e1 e2
            go_wp2
            go_quiet (fail)
            have HD := hide (HBl.out.trans ((low_drewQ wr nq).mono HBl.out.size))
            clear c0 c1 c2 d0 d1 d2
            generalize wr.drewN nq = wd at *
            go_wp2
            go_ret
            exact ⟨by rw [decide_eq_false HF.out]; rfl, HD.out⟩
        · have HF := hide (HNE.out (fun h => e1 h.2.1))
          have hd0 : (x0 == y0) = true := by simpa using e0
          have hd1 : (x1 == y1) = false := by simpa using e1
          clear e0 e1
          go_wp2
          go_quiet (fail)
          have HD := hide (HBl.out.trans ((low_drewQ wr nq).mono HBl.out.size))
          clear c0 c1 c2 d0 d1 d2
          generalize wr.drewN nq = wd at *
          go_wp2
          go_ret
          exact ⟨by rw [decide_eq_false HF.out]; rfl, HD.out⟩
      · have HF := hide (HNE.out (fun h => e0 h.1))
        have hd0 : (x0 == y0) = false := by simpa using e0
        clear e0
        go_wp2
        go_quiet (fail)
        have HD := hide (HBl.out.trans ((low_drewQ wr nq).mono HBl.out.size))
        clear c0 c1 c2 d0 d1 d2
        generalize wr.drewN nq = wd at *
        go_wp2
        go_ret
        exact ⟨by rw [decide_eq_false HF.out]; rfl, HD.out⟩
    · obtain rfl : k = n1 := by omega
      have HEQ : Hid (A = B) := hide (getD_ext (0, 0, 0) HA.out.1 HB.out.1 HK.out)
      go_wp2
      go_ret
      exact ⟨by rw [decide_eq_true HEQ.out]; rfl, HBl.out⟩

set_option maxRecDepth 20000 in
set_option maxHeartbeats 8000000 in
theorem eqJ_any (w : World) (a1 a2 : Option Addr) (n1 n2 c1 c2 : Nat) (A B : List (Int × Int)) (ha : RdM w a1 n1 A) (hb : RdM w a2 n2 B) (hn : n1 ≤ 9223372036854775807) :
    Calls Tryz.prog 35 #[.slice a1 n1 c1, .slice a2 n2 c2] w fun e w' => e = .returned (.bool (decide (A = B))) ∧ Below w.heap.size w w' := by
  have HA := hide ha
  have HB := hide hb
  clear ha hb
  by_cases hne : ¬ n1 = n2
  · have HD : Hid (decide (A = B) = false) := hide (decide_eq_false (fun e => hne (by rw [← HA.out.1, ← HB.out.1, e])))
    have hnd : ((n1 : Int) != (n2 : Int)) = true := by simp; omega
    go_enter Tryz.func35, Tryz.ntmps35
    go_wp2
    go_ret
    exact ⟨by rw [HD.out]; rfl, Below.refl _ _⟩
  replace hne : n1 = n2 := by omega
  subst hne
  go_enter Tryz.func35, Tryz.ntmps35
  go_wp2
  go_loopw [13] (fun i wr => ∃ (k : Nat), i = .int .i64 k ∧ k ≤ n1 ∧ Hid (∀ j, j < k → gM A j = gM B j) ∧ Hid (Below w.heap.size w wr)) (fun i _ => n1 - (intOf i).toNat)
  case atStart => exact ⟨0, rfl, Nat.zero_le _, hide (fun j hj => by omega), hide (Below.refl _ _)⟩
  case round =>
    obtain ⟨k, rfl, hk, HK, HBl⟩ := hrel
    by_cases hlt : k < n1
    · have hk0 : (0 : Int) ≤ (k : Int) := by omega
      have hk1 : (k : Int) < (n1 : Int) := by omega
      rcases (HA.out.kept HBl.out).2 with h0 | ⟨b, off, rfl, hbw, hc⟩
      · omega
      rcases (HB.out.kept HBl.out).2 with h0 | ⟨b', off', rfl, hbw', hc'⟩
      · omega
      obtain ⟨c0, c1⟩ := hc k hlt
      obtain ⟨d0, d1⟩ := hc' k hlt
      clear hc hc'
      have HK2 : Hid ((gM A k).1 = (gM B k).1 ∧ (gM A k).2 = (gM B k).2 → ∀ j, j < k + 1 → gM A j = gM B j) := hide (fun h j hj => by
        by_cases e : j = k
        · subst e; exact Prod.ext h.1 h.2
        · exact HK.out j (by omega))
      have HNE : Hid (¬ ((gM A k).1 = (gM B k).1 ∧ (gM A k).2 = (gM B k).2) → A ≠ B) := hide (fun h e => h ⟨by rw [e], by rw [e]⟩)
      generalize (gM A k).1 = x0 at *
      generalize (gM B k).1 = y0 at *
      generalize (gM A k).2 = x1 at *
      generalize (gM B k).2 = y1 at *
      by_cases e0 : x0 = y0
      · by_cases e1 : x1 = y1
        · have HF := hide (HK2.out ⟨e0, e1⟩)
          have s0 : (y0 == y0) = true := by simp
          have s1 : (y1 == y1) = true := by simp
          subst e0 e1
          go_wp2
          go_quiet (fail)
          have HD := hide (HBl.out.trans ((low_drewQ wr nq).mono HBl.out.size))
          clear c0 c1 d0 d1
          generalize wr.drewN nq = wd at *
          go_wp2
          exact ⟨⟨k + 1, by go_num, by omega, HF, HD⟩, by simp [intOf]; omega⟩
        · have HF := hide (HNE.out (fun h => e1 h.2))
          have hd0 : (x0 == y0) = true := by simpa using e0
          have hd1 : (x1 == y1) = false := by simpa using e1
          clear e0 e1
          go_wp2
          go_quiet (fail)
          have HD := hide (HBl.out.trans ((low_drewQ wr nq).mono HBl.out.size))
          clear c0 c1 d0 d1
          generalize wr.drewN nq = wd at *
          go_wp2
          go_ret
          exact ⟨by rw [decide_eq_false HF.out]; rfl, HD.out⟩
      · have HF := hide (HNE.out (fun h => e0 h.1))
        have hd0 : (x0 == y0) = false := by simpa using e0
        clear e0
        go_wp2
        go_quiet (fail)
        have HD := hide (HBl.out.trans ((low_drewQ wr nq).mono HBl.out.size))
        clear c0 c1 d0 d1
        generalize wr.drewN nq = wd at *
        go_wp2
        go_ret
        exact ⟨by rw [decide_eq_false HF.out]; rfl, HD.out⟩
    · obtain rfl : k = n1 := by omega
      have HEQ : Hid (A = B) := hide (getD_ext (0, 0) HA.out.1 HB.out.1 HK.out)
      go_wp2
      go_ret
      exact ⟨by rw [decide_eq_true HEQ.out]; rfl, HBl.out⟩

set_option maxRecDepth 20000 in
set_option maxHeartbeats 8000000 in
theorem eqX_any (w : World) (a1 a2 : Option Addr) (n1 n2 c1 c2 : Nat) (A B : List ByteArray) (ha : RdT w a1 n1 A) (hb : RdT w a2 n2 B) (hn : n1 ≤ 9223372036854775807) :
    Calls Tryz.prog 36 #[.slice a1 n1 c1, .slice a2 n2 c2] w fun e w' => e = .returned (.bool (decide (A = B))) ∧ Below w.heap.size w w' := by
  have HA := hide ha
  have HB := hide hb
  clear ha hb
  by_cases hne : ¬ n1 = n2
  · have HD : Hid (decide (A = B) = false) := hide (decide_eq_false (fun e => hne (by rw [← HA.out.1, ← HB.out.1, e])))
    have hnd : ((n1 : Int) != (n2 : Int)) = true := by simp; omega
    go_enter Tryz.func36, Tryz.ntmps36
    go_wp2
    go_ret
    exact ⟨by rw [HD.out]; rfl, Below.refl _ _⟩
  replace hne : n1 = n2 := by omega
  subst hne
  go_enter Tryz.func36, Tryz.ntmps36
  go_wp2
  go_loopw [5] (fun i wr => ∃ (k : Nat), i = .int .i64 k ∧ k ≤ n1 ∧ Hid (∀ j, j < k → gT A j = gT B j) ∧ Hid (Below w.heap.size w wr)) (fun i _ => n1 - (intOf i).toNat)
  case atStart => exact ⟨0, rfl, Nat.zero_le _, hide (fun j hj => by omega), hide (Below.refl _ _)⟩
  case round =>
    obtain ⟨k, rfl, hk, HK, HBl⟩ := hrel
    by_cases hlt : k < n1
    · have hk0 : (0 : Int) ≤ (k : Int) := by omega
      have hk1 : (k : Int) < (n1 : Int) := by omega
      rcases (HA.out.kept HBl.out).2 with h0 | ⟨b, off, rfl, hbw, hc⟩
      · omega
      rcases (HB.out.kept HBl.out).2 with h0 | ⟨b', off', rfl, hbw', hc'⟩
      · omega
      have c0 := hc k hlt
      have d0 := hc' k hlt
      clear hc hc'
      have HK2 : Hid (gT A k = gT B k → ∀ j, j < k + 1 → gT A j = gT B j) := hide (fun h j hj => by
        by_cases e : j = k
        · subst e; exact h
        · exact HK.out j (by omega))
      have HNE : Hid (¬ (gT A k = gT B k) → A ≠ B) := hide (fun h e => h (by rw [e]))
      generalize gT A k = x0 at *
      generalize gT B k = y0 at *
      by_cases e0 : x0 = y0
      · have HF := hide (HK2.out e0)
        have s0 : (y0.toList == y0.toList) = true := by simp
        subst e0
        go_wp2
        go_quiet (fail)
        have HD := hide (HBl.out.trans ((low_drewQ wr nq).mono HBl.out.size))
        clear c0 d0
        generalize wr.drewN nq = wd at *
        go_wp2
        exact ⟨⟨k + 1, by go_num, by omega, HF, HD⟩, by simp [intOf]; omega⟩
      · have HF := hide (HNE.out (fun h => e0 h))
        have hd0 : (x0.toList == y0.toList) = false := by rw [beqQ]; simpa using e0
        clear e0
        go_wp2
        go_quiet (fail)
        have HD := hide (HBl.out.trans ((low_drewQ wr nq).mono HBl.out.size))
        clear c0 d0
        generalize wr.drewN nq = wd at *
        go_wp2
        go_ret
        exact ⟨by rw [decide_eq_false HF.out]; rfl, HD.out⟩
    · obtain rfl : k = n1 := by omega
      have HEQ : Hid (A = B) := hide (getD_ext (⟨#[]⟩ : ByteArray) HA.out.1 HB.out.1 HK.out)
      go_wp2
      go_ret
      exact ⟨by rw [decide_eq_true HEQ.out]; rfl, HBl.out⟩

end Go.Proofs.YteiinkhdgppgbaaGreatDoor
