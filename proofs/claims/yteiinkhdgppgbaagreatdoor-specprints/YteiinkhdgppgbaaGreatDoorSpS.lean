/- Contracts: spec.all at each kind of element. -/
import Derived.Test.YteiinkhdgppgbaaGreatDoorSpR
namespace Go.Proofs.YteiinkhdgppgbaaGreatDoor
open Go.RowKit
set_option linter.unusedVariables false
set_option linter.unusedSimpArgs false

set_option maxHeartbeats 1600000 in
set_option maxRecDepth 20000 in
theorem allMerge_any (ao : Option Addr) (n cap : Nat) (l : List (Int × Int)) (room : Int) (w : World) (hR : RdM w ao n l) (hrm : room ≤ 1000) :
    Calls Tryz.prog 20 #[.slice ao n cap, .int .i64 room, .func (.func 22) #[] #[]] w fun e w' => e = .returned (.bool (decide ((n : Int) ≤ room) && l.all okM)) ∧ Below w.heap.size w w' := by
  have HR := hide hR
  clear hR
  by_cases hroom : (n : Int) ≤ room
  case neg =>
    have h1 : room < (n : Int) := by omega
    rw [decide_eq_false hroom]
    go_enter Tryz.func20, Tryz.ntmps20
    go_wp2
    go_ret
    exact ⟨rfl, Below.refl _ _⟩
  rw [decide_eq_true hroom, Bool.true_and]
  have h1 : ¬ room < (n : Int) := by omega
  have hn : n ≤ 1000 := by omega
  clear hrm
  go_enter Tryz.func20, Tryz.ntmps20
  go_wp2
  go_loopw [8, 15, 16, 17, 18, 19, 20, 21, 22, 23] (fun _ i _ _ _ _ _ _ _ _ wr => ∃ (k : Nat), i = .int .i64 k ∧ k ≤ n ∧ Hid ((l.take k).all okM = true) ∧ Below w.heap.size w wr) (fun _ i _ _ _ _ _ _ _ _ _ => n - (intOf i).toNat)
  case atStart => exact ⟨0, rfl, Nat.zero_le _, hide (by simp), Below.refl _ _⟩
  case round =>
    obtain ⟨k, rfl, hk, HL, hbw⟩ := hrel
    by_cases hlt : k < n
    · have hk0 : (0 : Int) ≤ (k : Int) := by omega
      have hk1 : (k : Int) < (n : Int) := by omega
      rcases (HR.out.kept hbw).2 with h0 | ⟨b, off, rfl, hbl, hc⟩
      · omega
      have hck := hc k hlt
      clear hc
      have HA := hide (all_take okM l (0, 0) k (by rw [HR.out.1]; exact hlt) HL.out)
      have HN := hide (all_not okM l (0, 0) k (by rw [HR.out.1]; exact hlt))
      change wr.cell? ⟨b, off + k * 2, none⟩ = some (.int .i64 (l.getD k (0, 0)).1) ∧ wr.cell? ⟨b, off + k * 2 + 1, none⟩ = some (.int .i64 (l.getD k (0, 0)).2) at hck
      generalize l.getD k (0, 0) = m at hck HA HN
      obtain ⟨k0, k1⟩ := hck
      have KC : ∀ W : World, Calls Tryz.prog 22 #[.agg #[.int .i64 m.1, .int .i64 m.2]] W fun e w' => e = .returned (.bool (okM m)) ∧ Below W.heap.size W w' := fun W => rightMerge_any m W
      have HKC := hide KC
      clear KC
      go_wp2_with fail
      refine (HKC.out _).mono ?_
      rintro e w1 ⟨rfl, hb1⟩
      have HB : Hid (Below w.heap.size w w1) := hide (hbw.trans (((low_alloc wr _).trans (hb1.mono (low_alloc wr _).size)).mono hbw.size))
      clear hb1
      generalize hz : okM m = z
      cases z with
      | true =>
        have HZ := hide hz
        clear hz
        go_wp2
        case roundEnd => exact ⟨⟨k + 1, by go_num, by omega, hide (HA.out HZ.out), HB.out⟩, by simp [intOf]; omega⟩
      | false =>
        have HZ := hide hz
        clear hz
        go_wp2
        go_ret
        rw [HN.out HZ.out]
        exact ⟨rfl, HB.out⟩
    · have hkn : k = n := by omega
      subst hkn
      have HT : Hid (l.all okM = true) := hide (by have := HL.out; rwa [List.take_of_length_le (by rw [HR.out.1]; exact Nat.le_refl _)] at this)
      clear hlt hk
      go_wp2
      go_ret
      rw [HT.out]
      exact ⟨rfl, hbw⟩

set_option maxHeartbeats 1600000 in
set_option maxRecDepth 20000 in
theorem allToken_any (ao : Option Addr) (n cap : Nat) (l : List (ByteArray)) (room : Int) (w : World) (hR : RdT w ao n l) (hrm : room ≤ 1000) :
    Calls Tryz.prog 23 #[.slice ao n cap, .int .i64 room, .func (.func 24) #[] #[]] w fun e w' => e = .returned (.bool (decide ((n : Int) ≤ room) && l.all okT)) ∧ Below w.heap.size w w' := by
  have HR := hide hR
  clear hR
  by_cases hroom : (n : Int) ≤ room
  case neg =>
    have h1 : room < (n : Int) := by omega
    rw [decide_eq_false hroom]
    go_enter Tryz.func23, Tryz.ntmps23
    go_wp2
    go_ret
    exact ⟨rfl, Below.refl _ _⟩
  rw [decide_eq_true hroom, Bool.true_and]
  have h1 : ¬ room < (n : Int) := by omega
  have hn : n ≤ 1000 := by omega
  clear hrm
  go_enter Tryz.func23, Tryz.ntmps23
  go_wp2
  go_loopw [8, 15, 16, 17, 18, 19, 20, 21, 22, 23] (fun _ i _ _ _ _ _ _ _ _ wr => ∃ (k : Nat), i = .int .i64 k ∧ k ≤ n ∧ Hid ((l.take k).all okT = true) ∧ Below w.heap.size w wr) (fun _ i _ _ _ _ _ _ _ _ _ => n - (intOf i).toNat)
  case atStart => exact ⟨0, rfl, Nat.zero_le _, hide (by simp), Below.refl _ _⟩
  case round =>
    obtain ⟨k, rfl, hk, HL, hbw⟩ := hrel
    by_cases hlt : k < n
    · have hk0 : (0 : Int) ≤ (k : Int) := by omega
      have hk1 : (k : Int) < (n : Int) := by omega
      rcases (HR.out.kept hbw).2 with h0 | ⟨b, off, rfl, hbl, hc⟩
      · omega
      have hck := hc k hlt
      clear hc
      have HA := hide (all_take okT l ⟨#[]⟩ k (by rw [HR.out.1]; exact hlt) HL.out)
      have HN := hide (all_not okT l ⟨#[]⟩ k (by rw [HR.out.1]; exact hlt))
      change wr.cell? ⟨b, off + k, none⟩ = some (.string (l.getD k ⟨#[]⟩)) at hck
      generalize l.getD k ⟨#[]⟩ = m at hck HA HN
      skip
      have KC : ∀ W : World, Calls Tryz.prog 24 #[.string m] W fun e w' => e = .returned (.bool (okT m)) ∧ w' = W := fun W => rightToken_any m W
      have HKC := hide KC
      clear KC
      go_wp2_with fail
      refine (HKC.out _).mono ?_
      rintro e w1 ⟨rfl, hb1⟩
      have HB : Hid (Below w.heap.size w w1) := hide (hb1 ▸ hbw)
      clear hb1
      generalize hz : okT m = z
      cases z with
      | true =>
        have HZ := hide hz
        clear hz
        go_wp2
        case roundEnd => exact ⟨⟨k + 1, by go_num, by omega, hide (HA.out HZ.out), HB.out⟩, by simp [intOf]; omega⟩
      | false =>
        have HZ := hide hz
        clear hz
        go_wp2
        go_ret
        rw [HN.out HZ.out]
        exact ⟨rfl, HB.out⟩
    · have hkn : k = n := by omega
      subst hkn
      have HT : Hid (l.all okT = true) := hide (by have := HL.out; rwa [List.take_of_length_le (by rw [HR.out.1]; exact Nat.le_refl _)] at this)
      clear hlt hk
      go_wp2
      go_ret
      rw [HT.out]
      exact ⟨rfl, hbw⟩

set_option maxHeartbeats 1600000 in
set_option maxRecDepth 20000 in
theorem allSpecial_any (ao : Option Addr) (n cap : Nat) (l : List (Int × ByteArray)) (room : Int) (w : World) (hR : RdS w ao n l) (hrm : room ≤ 1000) :
    Calls Tryz.prog 25 #[.slice ao n cap, .int .i64 room, .func (.func 26) #[] #[]] w fun e w' => e = .returned (.bool (decide ((n : Int) ≤ room) && l.all okS)) ∧ Below w.heap.size w w' := by
  have HR := hide hR
  clear hR
  by_cases hroom : (n : Int) ≤ room
  case neg =>
    have h1 : room < (n : Int) := by omega
    rw [decide_eq_false hroom]
    go_enter Tryz.func25, Tryz.ntmps25
    go_wp2
    go_ret
    exact ⟨rfl, Below.refl _ _⟩
  rw [decide_eq_true hroom, Bool.true_and]
  have h1 : ¬ room < (n : Int) := by omega
  have hn : n ≤ 1000 := by omega
  clear hrm
  go_enter Tryz.func25, Tryz.ntmps25
  go_wp2
  go_loopw [8, 15, 16, 17, 18, 19, 20, 21, 22, 23] (fun _ i _ _ _ _ _ _ _ _ wr => ∃ (k : Nat), i = .int .i64 k ∧ k ≤ n ∧ Hid ((l.take k).all okS = true) ∧ Below w.heap.size w wr) (fun _ i _ _ _ _ _ _ _ _ _ => n - (intOf i).toNat)
  case atStart => exact ⟨0, rfl, Nat.zero_le _, hide (by simp), Below.refl _ _⟩
  case round =>
    obtain ⟨k, rfl, hk, HL, hbw⟩ := hrel
    by_cases hlt : k < n
    · have hk0 : (0 : Int) ≤ (k : Int) := by omega
      have hk1 : (k : Int) < (n : Int) := by omega
      rcases (HR.out.kept hbw).2 with h0 | ⟨b, off, rfl, hbl, hc⟩
      · omega
      have hck := hc k hlt
      clear hc
      have HA := hide (all_take okS l (0, ⟨#[]⟩) k (by rw [HR.out.1]; exact hlt) HL.out)
      have HN := hide (all_not okS l (0, ⟨#[]⟩) k (by rw [HR.out.1]; exact hlt))
      change wr.cell? ⟨b, off + k * 2, none⟩ = some (.int .i64 (l.getD k (0, ⟨#[]⟩)).1) ∧ wr.cell? ⟨b, off + k * 2 + 1, none⟩ = some (.string (l.getD k (0, ⟨#[]⟩)).2) at hck
      generalize l.getD k (0, ⟨#[]⟩) = m at hck HA HN
      obtain ⟨k0, k1⟩ := hck
      have KC : ∀ W : World, Calls Tryz.prog 26 #[.agg #[.int .i64 m.1, .string m.2]] W fun e w' => e = .returned (.bool (okS m)) ∧ Below W.heap.size W w' := fun W => rightSpecial_any m W
      have HKC := hide KC
      clear KC
      go_wp2_with fail
      refine (HKC.out _).mono ?_
      rintro e w1 ⟨rfl, hb1⟩
      have HB : Hid (Below w.heap.size w w1) := hide (hbw.trans (((low_alloc wr _).trans (hb1.mono (low_alloc wr _).size)).mono hbw.size))
      clear hb1
      generalize hz : okS m = z
      cases z with
      | true =>
        have HZ := hide hz
        clear hz
        go_wp2
        case roundEnd => exact ⟨⟨k + 1, by go_num, by omega, hide (HA.out HZ.out), HB.out⟩, by simp [intOf]; omega⟩
      | false =>
        have HZ := hide hz
        clear hz
        go_wp2
        go_ret
        rw [HN.out HZ.out]
        exact ⟨rfl, HB.out⟩
    · have hkn : k = n := by omega
      subst hkn
      have HT : Hid (l.all okS = true) := hide (by have := HL.out; rwa [List.take_of_length_le (by rw [HR.out.1]; exact Nat.le_refl _)] at this)
      clear hlt hk
      go_wp2
      go_ret
      rw [HT.out]
      exact ⟨rfl, hbw⟩

set_option maxHeartbeats 1600000 in
set_option maxRecDepth 20000 in
theorem allClass_any (ao : Option Addr) (n cap : Nat) (l : List (Int × Int × Int)) (room : Int) (w : World) (hR : RdC w ao n l) (hrm : room ≤ 1000) :
    Calls Tryz.prog 27 #[.slice ao n cap, .int .i64 room, .func (.func 28) #[] #[]] w fun e w' => e = .returned (.bool (decide ((n : Int) ≤ room) && l.all okC)) ∧ Below w.heap.size w w' := by
  have HR := hide hR
  clear hR
  by_cases hroom : (n : Int) ≤ room
  case neg =>
    have h1 : room < (n : Int) := by omega
    rw [decide_eq_false hroom]
    go_enter Tryz.func27, Tryz.ntmps27
    go_wp2
    go_ret
    exact ⟨rfl, Below.refl _ _⟩
  rw [decide_eq_true hroom, Bool.true_and]
  have h1 : ¬ room < (n : Int) := by omega
  have hn : n ≤ 1000 := by omega
  clear hrm
  go_enter Tryz.func27, Tryz.ntmps27
  go_wp2
  go_loopw [8, 15, 16, 17, 18, 19, 20, 21, 22, 23] (fun _ i _ _ _ _ _ _ _ _ wr => ∃ (k : Nat), i = .int .i64 k ∧ k ≤ n ∧ Hid ((l.take k).all okC = true) ∧ Below w.heap.size w wr) (fun _ i _ _ _ _ _ _ _ _ _ => n - (intOf i).toNat)
  case atStart => exact ⟨0, rfl, Nat.zero_le _, hide (by simp), Below.refl _ _⟩
  case round =>
    obtain ⟨k, rfl, hk, HL, hbw⟩ := hrel
    by_cases hlt : k < n
    · have hk0 : (0 : Int) ≤ (k : Int) := by omega
      have hk1 : (k : Int) < (n : Int) := by omega
      rcases (HR.out.kept hbw).2 with h0 | ⟨b, off, rfl, hbl, hc⟩
      · omega
      have hck := hc k hlt
      clear hc
      have HA := hide (all_take okC l (0, 0, 0) k (by rw [HR.out.1]; exact hlt) HL.out)
      have HN := hide (all_not okC l (0, 0, 0) k (by rw [HR.out.1]; exact hlt))
      change wr.cell? ⟨b, off + k * 3, none⟩ = some (.int .i64 (l.getD k (0, 0, 0)).1) ∧ wr.cell? ⟨b, off + k * 3 + 1, none⟩ = some (.int .i64 (l.getD k (0, 0, 0)).2.1) ∧ wr.cell? ⟨b, off + k * 3 + 2, none⟩ = some (.int .i64 (l.getD k (0, 0, 0)).2.2) at hck
      generalize l.getD k (0, 0, 0) = m at hck HA HN
      obtain ⟨k0, k1, k2⟩ := hck
      have KC : ∀ W : World, Calls Tryz.prog 28 #[.agg #[.int .i64 m.1, .int .i64 m.2.1, .int .i64 m.2.2]] W fun e w' => e = .returned (.bool (okC m)) ∧ Below W.heap.size W w' := fun W => rightClass_any m W
      have HKC := hide KC
      clear KC
      go_wp2_with fail
      refine (HKC.out _).mono ?_
      rintro e w1 ⟨rfl, hb1⟩
      have HB : Hid (Below w.heap.size w w1) := hide (hbw.trans (((low_alloc wr _).trans (hb1.mono (low_alloc wr _).size)).mono hbw.size))
      clear hb1
      generalize hz : okC m = z
      cases z with
      | true =>
        have HZ := hide hz
        clear hz
        go_wp2
        case roundEnd => exact ⟨⟨k + 1, by go_num, by omega, hide (HA.out HZ.out), HB.out⟩, by simp [intOf]; omega⟩
      | false =>
        have HZ := hide hz
        clear hz
        go_wp2
        go_ret
        rw [HN.out HZ.out]
        exact ⟨rfl, HB.out⟩
    · have hkn : k = n := by omega
      subst hkn
      have HT : Hid (l.all okC = true) := hide (by have := HL.out; rwa [List.take_of_length_le (by rw [HR.out.1]; exact Nat.le_refl _)] at this)
      clear hlt hk
      go_wp2
      go_ret
      rw [HT.out]
      exact ⟨rfl, hbw⟩

set_option maxHeartbeats 1600000 in
set_option maxRecDepth 20000 in
theorem allJoin_any (ao : Option Addr) (n cap : Nat) (l : List (Int × Int)) (room : Int) (w : World) (hR : RdM w ao n l) (hrm : room ≤ 1000) :
    Calls Tryz.prog 29 #[.slice ao n cap, .int .i64 room, .func (.func 30) #[] #[]] w fun e w' => e = .returned (.bool (decide ((n : Int) ≤ room) && l.all okJ)) ∧ Below w.heap.size w w' := by
  have HR := hide hR
  clear hR
  by_cases hroom : (n : Int) ≤ room
  case neg =>
    have h1 : room < (n : Int) := by omega
    rw [decide_eq_false hroom]
    go_enter Tryz.func29, Tryz.ntmps29
    go_wp2
    go_ret
    exact ⟨rfl, Below.refl _ _⟩
  rw [decide_eq_true hroom, Bool.true_and]
  have h1 : ¬ room < (n : Int) := by omega
  have hn : n ≤ 1000 := by omega
  clear hrm
  go_enter Tryz.func29, Tryz.ntmps29
  go_wp2
  go_loopw [8, 15, 16, 17, 18, 19, 20, 21, 22, 23] (fun _ i _ _ _ _ _ _ _ _ wr => ∃ (k : Nat), i = .int .i64 k ∧ k ≤ n ∧ Hid ((l.take k).all okJ = true) ∧ Below w.heap.size w wr) (fun _ i _ _ _ _ _ _ _ _ _ => n - (intOf i).toNat)
  case atStart => exact ⟨0, rfl, Nat.zero_le _, hide (by simp), Below.refl _ _⟩
  case round =>
    obtain ⟨k, rfl, hk, HL, hbw⟩ := hrel
    by_cases hlt : k < n
    · have hk0 : (0 : Int) ≤ (k : Int) := by omega
      have hk1 : (k : Int) < (n : Int) := by omega
      rcases (HR.out.kept hbw).2 with h0 | ⟨b, off, rfl, hbl, hc⟩
      · omega
      have hck := hc k hlt
      clear hc
      have HA := hide (all_take okJ l (0, 0) k (by rw [HR.out.1]; exact hlt) HL.out)
      have HN := hide (all_not okJ l (0, 0) k (by rw [HR.out.1]; exact hlt))
      change wr.cell? ⟨b, off + k * 2, none⟩ = some (.int .i64 (l.getD k (0, 0)).1) ∧ wr.cell? ⟨b, off + k * 2 + 1, none⟩ = some (.int .i64 (l.getD k (0, 0)).2) at hck
      generalize l.getD k (0, 0) = m at hck HA HN
      obtain ⟨k0, k1⟩ := hck
      have KC : ∀ W : World, Calls Tryz.prog 30 #[.agg #[.int .i64 m.1, .int .i64 m.2]] W fun e w' => e = .returned (.bool (okJ m)) ∧ Below W.heap.size W w' := fun W => rightJoin_any m W
      have HKC := hide KC
      clear KC
      go_wp2_with fail
      refine (HKC.out _).mono ?_
      rintro e w1 ⟨rfl, hb1⟩
      have HB : Hid (Below w.heap.size w w1) := hide (hbw.trans (((low_alloc wr _).trans (hb1.mono (low_alloc wr _).size)).mono hbw.size))
      clear hb1
      generalize hz : okJ m = z
      cases z with
      | true =>
        have HZ := hide hz
        clear hz
        go_wp2
        case roundEnd => exact ⟨⟨k + 1, by go_num, by omega, hide (HA.out HZ.out), HB.out⟩, by simp [intOf]; omega⟩
      | false =>
        have HZ := hide hz
        clear hz
        go_wp2
        go_ret
        rw [HN.out HZ.out]
        exact ⟨rfl, HB.out⟩
    · have hkn : k = n := by omega
      subst hkn
      have HT : Hid (l.all okJ = true) := hide (by have := HL.out; rwa [List.take_of_length_le (by rw [HR.out.1]; exact Nat.le_refl _)] at this)
      clear hlt hk
      go_wp2
      go_ret
      rw [HT.out]
      exact ⟨rfl, hbw⟩
end Go.Proofs.YteiinkhdgppgbaaGreatDoor
