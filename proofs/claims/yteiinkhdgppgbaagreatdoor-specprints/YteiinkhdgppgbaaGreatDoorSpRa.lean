/- Contracts: kindOf, follows, the reader's head. -/
import Derived.Test.YteiinkhdgppgbaaGreatDoorSpQ
import Derived.Test.YteiinkhdgppgbaaGreatDoorSpX
namespace Go.Proofs.YteiinkhdgppgbaaGreatDoor
open Go.RowKit
set_option linter.unusedVariables false
set_option linter.unusedSimpArgs false

theorem kind_hit (f : List UInt8) (k : Nat) (hk : k < 6) (h0 : ∀ j, j < k → (nameB j).data.toList ≠ f) (h1 : (nameB k).data.toList = f) : kindL f = k := by
  subst h1
  have hs : k = 0 ∨ k = 1 ∨ k = 2 ∨ k = 3 ∨ k = 4 ∨ k = 5 := by omega
  rcases hs with rfl | rfl | rfl | rfl | rfl | rfl <;> decide
theorem kind_none (f : List UInt8) (h0 : ∀ j, j < 6 → (nameB j).data.toList ≠ f) : kindL f = 6 := by
  unfold kindL
  rw [if_neg (fun e => h0 0 (by omega) e.symm), if_neg (fun e => h0 1 (by omega) e.symm), if_neg (fun e => h0 2 (by omega) e.symm), if_neg (fun e => h0 3 (by omega) e.symm), if_neg (fun e => h0 4 (by omega) e.symm), if_neg (fun e => h0 5 (by omega) e.symm)]
theorem toList_beq {a b : ByteArray} : (a.toList == b.toList) = true ↔ a.data.toList = b.data.toList := by
  rw [beq_iff_eq, ByteArray.toList_eq, ByteArray.toList_eq]

set_option maxHeartbeats 4000000 in
set_option maxRecDepth 20000 in
theorem kindOf_any (f : ByteArray) (w : World) (hE : Env w) :
    Calls Tryz.prog 54 #[.string f] w fun e w' => e = .returned (.int .i64 (kindL f.data.toList)) ∧ w' = w := by
  have c0 := hE.names 0 (by omega)
  have c1 := hE.names 1 (by omega)
  have c2 := hE.names 2 (by omega)
  have c3 := hE.names 3 (by omega)
  have c4 := hE.names 4 (by omega)
  have c5 := hE.names 5 (by omega)
  obtain ⟨z, hz⟩ : ∃ z, kindL f.data.toList = z := ⟨_, rfl⟩
  rw [hz]
  have HZ := hide hz
  clear hE hz
  obtain ⟨N0, hN0⟩ : ∃ N, nameB 0 = N := ⟨_, rfl⟩
  rw [hN0] at c0
  have HN0 := hide hN0
  clear hN0
  obtain ⟨N1, hN1⟩ : ∃ N, nameB 1 = N := ⟨_, rfl⟩
  rw [hN1] at c1
  have HN1 := hide hN1
  clear hN1
  obtain ⟨N2, hN2⟩ : ∃ N, nameB 2 = N := ⟨_, rfl⟩
  rw [hN2] at c2
  have HN2 := hide hN2
  clear hN2
  obtain ⟨N3, hN3⟩ : ∃ N, nameB 3 = N := ⟨_, rfl⟩
  rw [hN3] at c3
  have HN3 := hide hN3
  clear hN3
  obtain ⟨N4, hN4⟩ : ∃ N, nameB 4 = N := ⟨_, rfl⟩
  rw [hN4] at c4
  have HN4 := hide hN4
  clear hN4
  obtain ⟨N5, hN5⟩ : ∃ N, nameB 5 = N := ⟨_, rfl⟩
  rw [hN5] at c5
  have HN5 := hide hN5
  clear hN5
  have i0 : ∀ w : World, (Instr.index 106 (.agg #[.string N0, .string N1, .string N2, .string N3, .string N4, .string N5]) (.int .i64 0)).run Tryz.prog w = .ok (.string N0) w := fun _ => by kernel_rfl
  have i1 : ∀ w : World, (Instr.index 106 (.agg #[.string N0, .string N1, .string N2, .string N3, .string N4, .string N5]) (.int .i64 1)).run Tryz.prog w = .ok (.string N1) w := fun _ => by kernel_rfl
  have i2 : ∀ w : World, (Instr.index 106 (.agg #[.string N0, .string N1, .string N2, .string N3, .string N4, .string N5]) (.int .i64 2)).run Tryz.prog w = .ok (.string N2) w := fun _ => by kernel_rfl
  have i3 : ∀ w : World, (Instr.index 106 (.agg #[.string N0, .string N1, .string N2, .string N3, .string N4, .string N5]) (.int .i64 3)).run Tryz.prog w = .ok (.string N3) w := fun _ => by kernel_rfl
  have i4 : ∀ w : World, (Instr.index 106 (.agg #[.string N0, .string N1, .string N2, .string N3, .string N4, .string N5]) (.int .i64 4)).run Tryz.prog w = .ok (.string N4) w := fun _ => by kernel_rfl
  have i5 : ∀ w : World, (Instr.index 106 (.agg #[.string N0, .string N1, .string N2, .string N3, .string N4, .string N5]) (.int .i64 5)).run Tryz.prog w = .ok (.string N5) w := fun _ => by kernel_rfl
  go_enter Tryz.func54, Tryz.ntmps54
  go_wp2
  go_loopw [6] (fun i wr => ∃ (k : Nat), i = .int .i64 k ∧ k ≤ 6 ∧ Hid (∀ j, j < k → (nameB j).data.toList ≠ f.data.toList) ∧ wr = w) (fun i _ => 6 - (intOf i).toNat)
  case atStart => exact ⟨0, rfl, Nat.zero_le _, hide (fun j hj => by omega), rfl⟩
  case round =>
    obtain ⟨k, rfl, hk, HN, rfl⟩ := hrel
    have hks : k = 0 ∨ k = 1 ∨ k = 2 ∨ k = 3 ∨ k = 4 ∨ k = 5 ∨ k = 6 := by omega
    rcases hks with rfl | rfl | rfl | rfl | rfl | rfl | rfl
    · cases hq : (N0.toList == f.toList) with
      | true =>
        have HQ := hide (show z = 0 by rw [← HZ.out]; exact kind_hit _ 0 (by omega) HN.out (by rw [HN0.out]; exact toList_beq.1 hq))
        go_wp2
        go_ret
        rw [HQ.out]
        exact ⟨rfl, rfl⟩
      | false =>
        have HQ := hide (show (nameB 0).data.toList ≠ f.data.toList by rw [HN0.out]; intro e; rw [toList_beq.2 e] at hq; cases hq)
        go_wp2
        exact ⟨⟨1, by go_num, by omega, hide (fun j hj => by rcases Nat.lt_succ_iff_lt_or_eq.1 hj with h | h; exact HN.out j h; rw [h]; exact HQ.out), (by first | trivial | rfl)⟩, by simp [intOf]⟩
    · cases hq : (N1.toList == f.toList) with
      | true =>
        have HQ := hide (show z = 1 by rw [← HZ.out]; exact kind_hit _ 1 (by omega) HN.out (by rw [HN1.out]; exact toList_beq.1 hq))
        go_wp2
        go_ret
        rw [HQ.out]
        exact ⟨rfl, rfl⟩
      | false =>
        have HQ := hide (show (nameB 1).data.toList ≠ f.data.toList by rw [HN1.out]; intro e; rw [toList_beq.2 e] at hq; cases hq)
        go_wp2
        exact ⟨⟨2, by go_num, by omega, hide (fun j hj => by rcases Nat.lt_succ_iff_lt_or_eq.1 hj with h | h; exact HN.out j h; rw [h]; exact HQ.out), (by first | trivial | rfl)⟩, by simp [intOf]⟩
    · cases hq : (N2.toList == f.toList) with
      | true =>
        have HQ := hide (show z = 2 by rw [← HZ.out]; exact kind_hit _ 2 (by omega) HN.out (by rw [HN2.out]; exact toList_beq.1 hq))
        go_wp2
        go_ret
        rw [HQ.out]
        exact ⟨rfl, rfl⟩
      | false =>
        have HQ := hide (show (nameB 2).data.toList ≠ f.data.toList by rw [HN2.out]; intro e; rw [toList_beq.2 e] at hq; cases hq)
        go_wp2
        exact ⟨⟨3, by go_num, by omega, hide (fun j hj => by rcases Nat.lt_succ_iff_lt_or_eq.1 hj with h | h; exact HN.out j h; rw [h]; exact HQ.out), (by first | trivial | rfl)⟩, by simp [intOf]⟩
    · cases hq : (N3.toList == f.toList) with
      | true =>
        have HQ := hide (show z = 3 by rw [← HZ.out]; exact kind_hit _ 3 (by omega) HN.out (by rw [HN3.out]; exact toList_beq.1 hq))
        go_wp2
        go_ret
        rw [HQ.out]
        exact ⟨rfl, rfl⟩
      | false =>
        have HQ := hide (show (nameB 3).data.toList ≠ f.data.toList by rw [HN3.out]; intro e; rw [toList_beq.2 e] at hq; cases hq)
        go_wp2
        exact ⟨⟨4, by go_num, by omega, hide (fun j hj => by rcases Nat.lt_succ_iff_lt_or_eq.1 hj with h | h; exact HN.out j h; rw [h]; exact HQ.out), (by first | trivial | rfl)⟩, by simp [intOf]⟩
    · cases hq : (N4.toList == f.toList) with
      | true =>
        have HQ := hide (show z = 4 by rw [← HZ.out]; exact kind_hit _ 4 (by omega) HN.out (by rw [HN4.out]; exact toList_beq.1 hq))
        go_wp2
        go_ret
        rw [HQ.out]
        exact ⟨rfl, rfl⟩
      | false =>
        have HQ := hide (show (nameB 4).data.toList ≠ f.data.toList by rw [HN4.out]; intro e; rw [toList_beq.2 e] at hq; cases hq)
        go_wp2
        exact ⟨⟨5, by go_num, by omega, hide (fun j hj => by rcases Nat.lt_succ_iff_lt_or_eq.1 hj with h | h; exact HN.out j h; rw [h]; exact HQ.out), (by first | trivial | rfl)⟩, by simp [intOf]⟩
    · cases hq : (N5.toList == f.toList) with
      | true =>
        have HQ := hide (show z = 5 by rw [← HZ.out]; exact kind_hit _ 5 (by omega) HN.out (by rw [HN5.out]; exact toList_beq.1 hq))
        go_wp2
        go_ret
        rw [HQ.out]
        exact ⟨rfl, rfl⟩
      | false =>
        have HQ := hide (show (nameB 5).data.toList ≠ f.data.toList by rw [HN5.out]; intro e; rw [toList_beq.2 e] at hq; cases hq)
        go_wp2
        exact ⟨⟨6, by go_num, by omega, hide (fun j hj => by rcases Nat.lt_succ_iff_lt_or_eq.1 hj with h | h; exact HN.out j h; rw [h]; exact HQ.out), (by first | trivial | rfl)⟩, by simp [intOf]⟩
    · have HQ := hide (show z = 6 by rw [← HZ.out]; exact kind_none _ HN.out)
      go_wp2
      go_ret
      rw [HQ.out]
      exact ⟨rfl, rfl⟩

theorem follows_any (w0 : World) (p : Nat) (x : Sv) (s : Sp) (n k0 : Nat) (W : World) (h : RAt w0 p x s n k0 W) (hn : n ≤ 1000000) (k : Nat) (hk0 : k0 ≤ 10) (hk : k ≤ 10) :
    Calls Tryz.prog 55 #[.pointer (some ⟨p, 0, none⟩), .int .i64 k] W fun e w' => e = .returned (.bool (folL n k0 k)) ∧ w' = W := by
  have c6 : W.cell? ⟨p, 6, none⟩ = some (.int .i64 n) := h.cell 6
  have c7 : W.cell? ⟨p, 7, none⟩ = some (.int .i64 k0) := h.cell 7
  clear h
  unfold folL
  by_cases h0 : n = 0
  · subst h0
    rw [if_pos rfl]
    by_cases h1 : k = 0
    · subst h1
      go_enter Tryz.func55, Tryz.ntmps55
      go_wp2
      go_ret
      exact ⟨rfl, rfl⟩
    · have h2 : ¬ (k : Int) = 0 := by omega
      have h2b : ((k : Int) == 0) = false := by simpa using h1
      rw [decide_eq_false h1]
      go_enter Tryz.func55, Tryz.ntmps55
      go_wp2
      go_ret
      exact ⟨rfl, rfl⟩
  · rw [if_neg h0]
    have h3 : ¬ (n : Int) = 0 := by omega
    by_cases h1 : k = 0
    · subst h1
      go_enter Tryz.func55, Tryz.ntmps55
      go_wp2
      go_ret
      exact ⟨rfl, rfl⟩
    · have h2 : ¬ (k : Int) = 0 := by omega
      have h2b : ((k : Int) != 0) = true := by simpa using h1
      rw [decide_eq_true h1, Bool.true_and]
      by_cases h4 : k0 ≤ k
      · have h5 : (k0 : Int) ≤ (k : Int) := by omega
        rw [decide_eq_true h4]
        go_enter Tryz.func55, Tryz.ntmps55
        go_wp2
        go_ret
        exact ⟨rfl, rfl⟩
      · have h5 : ¬ (k0 : Int) ≤ (k : Int) := by omega
        rw [decide_eq_false h4]
        go_enter Tryz.func55, Tryz.ntmps55
        go_wp2
        go_ret
        exact ⟨rfl, rfl⟩
theorem rroom_any (w0 : World) (p : Nat) (x : Sv) (s : Sp) (n k0 : Nat) (W : World) (h : RAt w0 p x s n k0 W) (k : Int) :
    Calls Tryz.prog 69 #[.pointer (some ⟨p, 0, none⟩), .int .i64 k] W fun e w' => e = .returned (.int .i64 (roomI k s.ranked)) ∧ w' = W := by
  have c0 : W.cell? ⟨p, 0, none⟩ = some (.bool x.r) := h.cell 0
  have hr := h.r
  rw [hr] at c0
  have K := room_any k s.ranked W
  clear h hr
  generalize s.ranked = r at c0 K ⊢
  generalize roomI k r = z at K ⊢
  go_enter Tryz.func69, Tryz.ntmps69
  go_wp2_with fail
  refine K.mono ?_
  rintro e w1 ⟨rfl, rfl⟩
  go_wp2
  go_ret
  exact ⟨rfl, rfl⟩
end Go.Proofs.YteiinkhdgppgbaaGreatDoor
