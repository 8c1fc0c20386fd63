/- sync.Once, of a run of one: not yet done, and the lock free; done already. -/
import Derived.Test.YtdpmjaelbjjanaaGreatProg
import Derived.Test.YtdpmjaelbjjanaaGreatZQa12
import Derived.Tactics2
import Derived.Defers
import Derived.Laws.Pointers
import Derived.Laws.LoneSync
import Derived.RegionTactic
import Derived.RegionCalls
import Derived.ChangeAlike
namespace Go.Proofs.YtdpmjaelbjjanaaGreat
open Go.RowKit Go.Maps
set_option linter.unusedVariables false
set_option linter.unusedSimpArgs false

theorem race_disable (w : World) : (callFunc 175 #[]).run Tryz.prog w = .ok (.value (.tuple #[])) w := run_call_mark0 Tryz.func175 (by kernel_rfl) (by kernel_rfl) (by kernel_rfl) .disable (by kernel_rfl) w
theorem race_enable (w : World) : (callFunc 177 #[]).run Tryz.prog w = .ok (.value (.tuple #[])) w := run_call_mark0 Tryz.func177 (by kernel_rfl) (by kernel_rfl) (by kernel_rfl) .enable (by kernel_rfl) w
theorem race_acquire (a : Addr) (w : World) : (callFunc 178 #[.pointer (some a)]).run Tryz.prog w = .ok (.value (.tuple #[])) w := run_call_marked Tryz.func178 (by kernel_rfl) (by kernel_rfl) (by kernel_rfl) .acquire (by kernel_rfl) a w
theorem race_release (a : Addr) (w : World) : (callFunc 180 #[.pointer (some a)]).run Tryz.prog w = .ok (.value (.tuple #[])) w := run_call_marked Tryz.func180 (by kernel_rfl) (by kernel_rfl) (by kernel_rfl) .releaseMerge (by kernel_rfl) a w

set_option maxRecDepth 100000 in
/-- '(*sync/atomic.Bool).Store(true)', entered as a deferred call. -/
theorem store_deferred (a : Addr) (x : Value) (u : FrameMode) (w : World) (hc : w.cell? a = some x) (hz : w.frozen? a = false) :
    CallsD Tryz.prog 151 #[.pointer (some a), .bool true] u w fun e u' w' => u' = u ∧ (e = .returned (.tuple #[]) ∧ w' = w.drew.setCell a (.int .u32 1)) := by
  have hc' : w.drew.cell? a = some x := by go_simp
  have hz' : w.drew.frozen? a = false := by go_simp
  have hst := run_call_store (P := Tryz.prog) Tryz.func169 (by kernel_rfl) (by kernel_rfl) (by kernel_rfl) (by kernel_rfl) (k := .u32) (y := 1) hc' hz'
  go_enter_d Tryz.func151, Tryz.ntmps151
  go_wp2
  go_region_calls
  all_goals (go_end0; exact ⟨rfl, rfl⟩)

set_option maxRecDepth 100000 in
/-- '(*sync.Mutex).Unlock', entered as a deferred call: the lock held, nobody waiting. -/
theorem unlock_deferred (a : Addr) (u : FrameMode) (w : World) (hc : w.cell? a = some (.int .i32 1)) (hz : w.frozen? a = false) :
    CallsD Tryz.prog 150 #[.pointer (some a)] u w fun e u' w' => u' = u ∧ (e = .returned (.tuple #[]) ∧ w' = w.setCell a (.int .i32 0)) := by
  have hd := race_disable
  have he := race_enable
  have hr := race_release
  have hadd := run_call_add (P := Tryz.prog) Tryz.func181 (by kernel_rfl) (by kernel_rfl) (by kernel_rfl) .i32 (by kernel_rfl) (y := -1) (s := 0) hc hz (by simp [go_sem]; rfl)
  have hcv := run_convert_to_unsafe (P := Tryz.prog) (src := 270) (dst := 245) Tryz.underlying270 Tryz.underlying245 (by kernel_rfl) hc
  go_enter_d Tryz.func150, Tryz.ntmps150
  go_wp2
  go_end0
  go_wp2
  go_end0
  exact ⟨rfl, rfl⟩

set_option maxRecDepth 100000 in
/-- '(*sync.Mutex).Lock', the lock free. -/
theorem lock_free (a : Addr) (w : World) (hc : w.cell? a = some (.int .i32 0)) (hz : w.frozen? a = false) :
    Calls Tryz.prog 149 #[.pointer (some a)] w fun e w' => e = .returned (.tuple #[]) ∧ w' = w.setCell a (.int .i32 1) := by
  have hd := race_disable
  have he := race_enable
  have ha := race_acquire
  have hcas := run_call_cas_hit (P := Tryz.prog) Tryz.func176 (by kernel_rfl) (by kernel_rfl) (by kernel_rfl) .i32 (by kernel_rfl) (y := 1) hc hz
  have hc' : (w.setCell a (.int .i32 1)).cell? a = some (.int .i32 1) := World.cell?_setCell_same w a _ hc
  have hcv := run_convert_to_unsafe (P := Tryz.prog) (src := 270) (dst := 245) Tryz.underlying270 Tryz.underlying245 (by kernel_rfl) hc'
  go_enter Tryz.func149, Tryz.ntmps149
  go_wp2
  first | go_end0 | (simp only [Exit.inBlock, Exit.then]; refine bodyPost_ret (results_none rfl _ _ _) rfl ?_) | refine bodyPost_ret (results_none rfl _ _ _) rfl ?_
  go_wp2
  go_end0
  exact ⟨rfl, rfl⟩

set_option maxRecDepth 100000 in
/-- '(*sync/atomic.Bool).Load'. -/
theorem bload_any (a : Addr) (d : Int) (b : Bool) (hb : (d != 0) = b) (w : World) (hc : w.cell? a = some (.int .u32 d)) :
    Calls Tryz.prog 122 #[.pointer (some a)] w fun e w' => e = .returned (.bool b) ∧ w' = w := by
  have hl := run_call_load (P := Tryz.prog) Tryz.func148 (by kernel_rfl) (by kernel_rfl) (by kernel_rfl) .u32 (by kernel_rfl) hc
  go_enter Tryz.func122, Tryz.ntmps122
  go_wp2
  go_ret
  exact ⟨rfl, rfl⟩

set_option maxRecDepth 100000 in
set_option maxHeartbeats 1600000 in
/-- '(*sync.Once).doSlow', not yet done and the lock free: the method is called. -/
theorem slow_any (q : Nat) (w : World) (Post : World → Prop) (h0 : w.cell? ⟨q, 10, none⟩ = some (.int .u32 0)) (h1 : w.cell? ⟨q, 11, none⟩ = some (.int .i32 0)) (f0 : w.frozen? ⟨q, 10, none⟩ = false) (f1 : w.frozen? ⟨q, 11, none⟩ = false)
    (hP : ∀ w2, Post w2 → w2.cell? ⟨q, 10, none⟩ = some (.int .u32 0) ∧ w2.cell? ⟨q, 11, none⟩ = some (.int .i32 1) ∧ w2.frozen? ⟨q, 10, none⟩ = false ∧ w2.frozen? ⟨q, 11, none⟩ = false)
    (HF : Hid (Calls Tryz.prog 91 #[.pointer (some ⟨q, 0, none⟩)] (w.setCell ⟨q, 11, none⟩ (.int .i32 1)) fun e w' => e = .returned (.tuple #[]) ∧ Post w')) :
    Calls Tryz.prog 123 #[.pointer (some ⟨q, 10, none⟩), .func (.func 91) #[.pointer (some ⟨q, 0, none⟩)] #[]] w fun e w' => e = .returned (.tuple #[]) ∧
      ∃ w2, Post w2 ∧ w' = (w2.drew.setCell ⟨q, 10, none⟩ (.int .u32 1)).setCell ⟨q, 11, none⟩ (.int .i32 0) := by
  have hnot : ∀ (x : Bool) (w : World), (Op.unary .not (.bool x)).run Tryz.prog w = .ok (.bool (!x)) w := fun _ _ => rfl
  go_enter_defers Tryz.func123, Tryz.ntmps123
  go_wp2_with fail
  refine (lock_free ⟨q, 11, none⟩ w h1 f1).mono ?_
  rintro e w' ⟨rfl, rfl⟩
  go_wp2_with fail
  refine (bload_any ⟨q, 10, none⟩ 0 false (by rfl) _ ((World.cell?_setCell_other _ ⟨q, 11, none⟩ ⟨q, 10, none⟩ _ (by simp)).trans h0)).mono ?_
  rintro e w' ⟨rfl, rfl⟩
  go_wp2_with fail
  refine (unhide HF).mono ?_
  rintro e w' ⟨rfl, hp⟩
  obtain ⟨c0, c1, z0, z1⟩ := hP _ hp
  go_wp2
  refine leaves_cons (f := 151) (args := #[.pointer (some ⟨q, 10, none⟩), .bool true]) (by simp) (by simp [go_sem]) ?_
  refine (store_deferred ⟨q, 10, none⟩ (.int .u32 0) .returning _ c0 z0).mono ?_
  rintro e u' w'' ⟨rfl, rfl, rfl⟩
  refine leaves_cons (f := 150) (args := #[.pointer (some ⟨q, 11, none⟩)]) (by simp [settle]) (by simp [go_sem]) ?_
  refine (unlock_deferred ⟨q, 11, none⟩ _ _ ?_ (by simp [z1])).mono ?_
  · refine (World.cell?_setCell_other _ ⟨q, 10, none⟩ ⟨q, 11, none⟩ _ (by simp)).trans ?_
    rw [World.cell?_drew]
    exact c1
  rintro e u' w'' ⟨rfl, rfl, rfl⟩
  simp [Leaves, settle, results, Tryz.results123]
  exact ⟨_, hp, rfl⟩

set_option maxRecDepth 100000 in
/-- '(*sync.Once).Do', not yet done, the lock free. -/
theorem do_first (q : Nat) (w : World) (Post : World → Prop) (h0 : w.cell? ⟨q, 10, none⟩ = some (.int .u32 0)) (h1 : w.cell? ⟨q, 11, none⟩ = some (.int .i32 0)) (f0 : w.frozen? ⟨q, 10, none⟩ = false) (f1 : w.frozen? ⟨q, 11, none⟩ = false)
    (hP : ∀ w2, Post w2 → w2.cell? ⟨q, 10, none⟩ = some (.int .u32 0) ∧ w2.cell? ⟨q, 11, none⟩ = some (.int .i32 1) ∧ w2.frozen? ⟨q, 10, none⟩ = false ∧ w2.frozen? ⟨q, 11, none⟩ = false)
    (HF : Hid (Calls Tryz.prog 91 #[.pointer (some ⟨q, 0, none⟩)] (w.setCell ⟨q, 11, none⟩ (.int .i32 1)) fun e w' => e = .returned (.tuple #[]) ∧ Post w')) :
    Calls Tryz.prog 90 #[.pointer (some ⟨q, 10, none⟩), .func (.func 91) #[.pointer (some ⟨q, 0, none⟩)] #[]] w fun e w' => e = .returned (.tuple #[]) ∧
      ∃ w2, Post w2 ∧ w' = (w2.drew.setCell ⟨q, 10, none⟩ (.int .u32 1)).setCell ⟨q, 11, none⟩ (.int .i32 0) := by
  have hnot : ∀ (x : Bool) (w : World), (Op.unary .not (.bool x)).run Tryz.prog w = .ok (.bool (!x)) w := fun _ _ => rfl
  have HL := hide (bload_any ⟨q, 10, none⟩ 0 false (by rfl) w h0)
  have HS := hide (slow_any q w Post h0 h1 f0 f1 hP HF)
  clear h0 h1 f0 f1 hP HF
  go_enter Tryz.func90, Tryz.ntmps90
  go_wp2_with fail
  refine (unhide HL).mono ?_
  rintro e w' ⟨rfl, rfl⟩
  go_wp2_with fail
  refine (unhide HS).mono ?_
  rintro e w' ⟨rfl, hp⟩
  go_wp2
  go_end0
  exact ⟨rfl, hp⟩

set_option maxRecDepth 100000 in
/-- '(*sync.Once).Do', done already. -/
theorem do_done (q : Nat) (fv : Value) (w : World) (h0 : w.cell? ⟨q, 10, none⟩ = some (.int .u32 1)) :
    Calls Tryz.prog 90 #[.pointer (some ⟨q, 10, none⟩), fv] w fun e w' => e = .returned (.tuple #[]) ∧ w' = w := by
  have hnot : ∀ (x : Bool) (w : World), (Op.unary .not (.bool x)).run Tryz.prog w = .ok (.bool (!x)) w := fun _ _ => rfl
  have HL := hide (bload_any ⟨q, 10, none⟩ 1 true (by rfl) w h0)
  clear h0
  go_enter Tryz.func90, Tryz.ntmps90
  go_wp2_with fail
  refine (unhide HL).mono ?_
  rintro e w' ⟨rfl, rfl⟩
  go_wp2
  go_end0
  exact ⟨rfl, rfl⟩
end Go.Proofs.YtdpmjaelbjjanaaGreat
