/- Of no table and no vocabulary nothing comes; SpineNone's walk. -/
import Derived.Test.YtdpmjaelbjjanaaGreatSnH
namespace Go.Proofs.YtdpmjaelbjjanaaGreat
open Go.RowKit Go.Maps
set_option linter.unusedVariables false
set_option linter.unusedSimpArgs false

theorem vtable_nil (w : World) : Calls Tryz.prog 61 #[.pointer none] w fun e w' => e = .returned (.pointer none) ∧ w' = w := by
  go_enter Tryz.func61, Tryz.ntmps61
  go_wp2
  go_ret
  exact ⟨rfl, rfl⟩
theorem valone_nil (x : Int) (w : World) : Calls Tryz.prog 59 #[.pointer none, .int .i64 x] w fun e w' => e = .returned (.bool false) ∧ w' = w := by
  go_enter Tryz.func59, Tryz.ntmps59
  go_wp2
  go_ret
  exact ⟨rfl, rfl⟩
theorem tbytes_nilS (x : Int) (w : World) : Calls Tryz.prog 54 #[.pointer none, .int .i64 x] w fun e w' => e = .returned (.tuple #[.string ⟨#[]⟩, .bool false]) ∧ w' = w :=
  tbytes_none x _ 0 w (hide (tlen_nil w)) (by omega)
theorem walk_nil (x y L : Int) (w : World) : Calls Tryz.prog 22 #[.pointer none, .int .i64 x, .int .i64 y, .int .i64 L] w fun e w' => e = .returned (.bool false) ∧ Below w.heap.size w w' := by
  have KW := hide (walkof_any none x y L w w (Below.refl _ _))
  go_enter Tryz.func22, Tryz.ntmps22
  go_wp2_with fail
  refine (unhide KW).mono ?_
  rintro e W1 ⟨rfl, hM⟩
  have HM := hide hM
  clear hM KW
  have K1 := hide (there_any HM.out (hide (fun W _ => tbytes_nilS x W)) (hide (fun W _ => tbytes_nilS y W)))
  go_wp2_with fail
  refine (unhide K1).mono ?_
  rintro e W2 ⟨rfl, hb⟩
  have HM2 := hide (HM.out.next hb).bel
  clear hb K1 HM
  go_wp2
  go_ret
  exact ⟨rfl, HM2.out⟩
theorem steps_nil (x y : Int) (w : World) : Calls Tryz.prog 23 #[.pointer none, .int .i64 x, .int .i64 y] w fun e w' => e = .returned (.int .i64 0) ∧ Below w.heap.size w w' := by
  have KW := hide (walkof_any none x y 9223372036854775807 w w (Below.refl _ _))
  go_enter Tryz.func23, Tryz.ntmps23
  go_wp2_with fail
  refine (unhide KW).mono ?_
  rintro e W1 ⟨rfl, hM⟩
  have HM := hide hM
  clear hM KW
  have K1 := hide (there_any HM.out (hide (fun W _ => tbytes_nilS x W)) (hide (fun W _ => tbytes_nilS y W)))
  go_wp2_with fail
  refine (unhide K1).mono ?_
  rintro e W2 ⟨rfl, hb⟩
  have HM2 := hide (HM.out.next hb)
  clear hb K1 HM
  obtain ⟨c0, c1, c2, c3, c4⟩ := HM2.out.cells
  go_wp2
  go_ret
  exact ⟨rfl, HM2.out.bel⟩
theorem salone_nil (x : Int) (w : World) : Calls Tryz.prog 25 #[.pointer none, .int .i64 x] w fun e w' => e = .returned (.bool false) ∧ Below w.heap.size w w' := by
  have KP := hide (parents_none x (.pointer none) 0 w (hide (tlen_nil _)) (by omega))
  go_enter Tryz.func25, Tryz.ntmps25
  go_wp2_with fail
  refine (unhide KP).mono ?_
  rintro e W1 ⟨rfl, hb⟩
  unfold merR
  have KB := hide (tbytes_nilS x (W1.alloc (.cells #[.int .i64 0, .int .i64 0] 77)))
  have HB1 := hide (below_step hb (low1 W1 (.cells #[.int .i64 0, .int .i64 0] 77)))
  clear hb KP
  go_wp2_with fail
  refine (unhide KB).mono ?_
  rintro e W2 ⟨rfl, hw⟩
  subst hw
  clear KB
  go_wp2
  (try simp only [Exit.inBlock, Exit.then])
  refine bodyPost_ret (v := .bool false) (by simp [results, Tryz.results25, go_sem]) rfl ?_
  exact ⟨rfl, HB1.out⟩
theorem valid_nil (x y : Int) (w : World) : Calls Tryz.prog 29 #[.pointer none, .int .i64 x, .int .i64 y] w fun e w' => e = .returned (.bool false) ∧ w' = w := by
  have KA := hide (valone_nil x w)
  go_enter Tryz.func29, Tryz.ntmps29
  go_wp2_with fail
  refine (unhide KA).mono ?_
  rintro e w' ⟨rfl, hw⟩
  subst hw
  go_wp2
  go_ret
  exact ⟨rfl, rfl⟩
theorem first_nil0 (w : World) : Calls Tryz.prog 30 #[.pointer none, .slice none 0 0] w fun e w' => e = .returned (.tuple #[.int .i64 0, .bool false]) ∧ w' = w := by
  have KT := hide (vtable_nil w)
  go_enter Tryz.func30, Tryz.ntmps30
  go_wp2_with fail
  refine (unhide KT).mono ?_
  rintro e w' ⟨rfl, hw⟩
  subst hw
  clear KT
  go_wp2
  go_loopw [13] (fun ix wr => ix = .int .i64 0 ∧ wr = w') (fun _ _ => 0)
  case atStart => exact ⟨rfl, rfl⟩
  case round =>
    obtain ⟨rfl, hw⟩ := hrel
    subst hw
    go_wp2
    (try simp only [Exit.inBlock, Exit.then])
    first
      | (go_ret
         exact ⟨rfl, rfl⟩)
      | (refine bodyPost_ret (v := .tuple #[.int .i64 0, .bool false]) (by simp [results, Tryz.results30, go_sem]) rfl ?_
         exact ⟨rfl, rfl⟩)
theorem first_nil1 (g : Nat) (x : Int) (w : World) (hc : w.cell? ⟨g, 0, none⟩ = some (.int .i64 x)) : Calls Tryz.prog 30 #[.pointer none, .slice (some ⟨g, 0, none⟩) 1 1] w fun e w' => e = .returned (.tuple #[.int .i64 0, .bool true]) ∧ w' = w := by
  have KT := hide (vtable_nil w)
  have KA := hide (valone_nil x w)
  have HC := hide hc
  clear hc
  go_enter Tryz.func30, Tryz.ntmps30
  go_wp2_with fail
  refine (unhide KT).mono ?_
  rintro e w' ⟨rfl, hw⟩
  have HW := hide hw
  clear hw KT
  rw [← HW.out] at KA HC
  go_wp2
  go_loopw [13] (fun ix wr => ix = .int .i64 0 ∧ wr = w') (fun _ _ => 0)
  case atStart => exact ⟨rfl, rfl⟩
  case round =>
    obtain ⟨rfl, hw⟩ := hrel
    rw [← hw] at KA HC
    have HWR := hide hw
    clear hw
    have c0 := HC.out
    go_wp2_with fail
    refine (unhide KA).mono ?_
    rintro e w2 ⟨rfl, hw⟩
    have HW2 := hide hw
    clear hw c0 KA
    go_wp2
    (try simp only [Exit.inBlock, Exit.then])
    refine bodyPost_ret (v := .tuple #[.int .i64 0, .bool true]) (by simp [results, Tryz.results30, go_sem]) rfl ?_
    exact ⟨rfl, HW2.out.trans (HWR.out.trans HW.out)⟩

set_option maxRecDepth 20000 in
set_option maxHeartbeats 4000000 in
theorem snone_walk (x y L : Int) (w : World) (_ : -9223372036854775808 ≤ x ∧ x ≤ 9223372036854775807) (_ : -9223372036854775808 ≤ y ∧ y ≤ 9223372036854775807) (_ : -9223372036854775808 ≤ L ∧ L ≤ 9223372036854775807) : Calls Tryz.prog 8 #[.int .i64 x, .int .i64 y, .int .i64 L] w fun e w' => e = .returned (.bool true) ∧ Below w.heap.size w w' := by
  have hl1 := low1 w (.cells #[.int .i64 x] 3)
  have HB1 := hide hl1
  have K1 := hide (first_nil1 w.heap.size x (w.alloc (.cells #[.int .i64 x] 3)) (Lib.cell_of_heap (heap_alloc_new w _) 0))
  clear hl1
  go_enter Tryz.func8, Tryz.ntmps8
  go_wp2_with fail
  refine (unhide K1).mono ?_
  rintro e w1 ⟨rfl, hw⟩
  rw [← hw] at HB1
  clear hw K1
  have K2 := hide (first_nil0 w1)
  go_wp2_with fail
  refine (unhide K2).mono ?_
  rintro e w2 ⟨rfl, hw⟩
  rw [← hw] at HB1
  clear hw K2
  have K3 := hide (walk_nil x y L w2)
  go_wp2_with fail
  refine (unhide K3).mono ?_
  rintro e w3 ⟨rfl, hb⟩
  have HB3 := hide (below_step HB1.out hb)
  clear hb K3 HB1
  have K4 := hide (steps_nil x y w3)
  go_wp2_with fail
  refine (unhide K4).mono ?_
  rintro e w4 ⟨rfl, hb⟩
  have HB4 := hide (below_step HB3.out hb)
  clear hb K4 HB3
  have K5 := hide (salone_nil x w4)
  go_wp2_with fail
  refine (unhide K5).mono ?_
  rintro e w5 ⟨rfl, hb⟩
  have HB5 := hide (below_step HB4.out hb)
  clear hb K5 HB4
  have K6 := hide (valid_nil x y w5)
  go_wp2_with fail
  refine (unhide K6).mono ?_
  rintro e w6 ⟨rfl, hw⟩
  rw [← hw] at HB5
  clear hw K6
  have K7 := hide (awake14_any w6)
  go_wp2_with fail
  refine (unhide K7).mono ?_
  rintro e w7 ⟨rfl, hb⟩
  have HB7 := hide (below_step HB5.out hb)
  clear hb K7 HB5
  go_wp2
  go_ret
  exact ⟨rfl, HB7.out⟩
end Go.Proofs.YtdpmjaelbjjanaaGreat
