/- Contracts: spec.room and spec.Right. -/
import Derived.Test.YteiinkhdgppgbaaGreatDoorSpS
namespace Go.Proofs.YteiinkhdgppgbaaGreatDoor
open Go.RowKit
set_option linter.unusedVariables false
set_option linter.unusedSimpArgs false

def roomI (k : Int) (r : Bool) : Int := if k = 1 then (if r then 0 else 744) else if k = 2 then (if r then 744 else 0) else if k = 3 then 32 else 64
theorem roomI_le (k : Int) (r : Bool) : roomI k r ≤ 1000 := by
  unfold roomI
  cases r <;> (repeat' split) <;> omega
theorem room_any (k : Int) (r : Bool) (w : World) :
    Calls Tryz.prog 21 #[.int .i64 k, .bool r] w fun e w' => e = .returned (.int .i64 (roomI k r)) ∧ w' = w := by
  unfold roomI
  by_cases h1 : k = 1
  · subst h1
    cases r <;> (go_enter Tryz.func21, Tryz.ntmps21; go_wp2; go_ret; exact ⟨rfl, rfl⟩)
  rw [if_neg h1]
  by_cases h2 : k = 2
  · subst h2
    cases r <;> (go_enter Tryz.func21, Tryz.ntmps21; go_wp2; go_ret; exact ⟨rfl, rfl⟩)
  rw [if_neg h2]
  by_cases h3 : k = 3
  · subst h3
    go_enter Tryz.func21, Tryz.ntmps21
    go_wp2
    go_ret
    exact ⟨rfl, rfl⟩
  rw [if_neg h3]
  go_enter Tryz.func21, Tryz.ntmps21
  go_wp2
  go_ret
  exact ⟨rfl, rfl⟩

/-- A spec's values. -/
structure Sv where
  r : Bool
  a1 : Option Addr
  n1 : Nat
  c1 : Nat
  a2 : Option Addr
  n2 : Nat
  c2 : Nat
  a3 : Option Addr
  n3 : Nat
  c3 : Nat
  a4 : Option Addr
  n4 : Nat
  c4 : Nat
  a5 : Option Addr
  n5 : Nat
  c5 : Nat
abbrev Sv.cs (x : Sv) : Array Value := #[.bool x.r, .slice x.a1 x.n1 x.c1, .slice x.a2 x.n2 x.c2, .slice x.a3 x.n3 x.c3, .slice x.a4 x.n4 x.c4, .slice x.a5 x.n5 x.c5]
/-- A spec lies in memory. -/
structure SpAt (w : World) (x : Sv) (s : Sp) : Prop where
  r : x.r = s.ranked
  ms : RdM w x.a1 x.n1 s.merges
  ts : RdT w x.a2 x.n2 s.tokens
  ss : RdS w x.a3 x.n3 s.specials
  cs : RdC w x.a4 x.n4 s.classes
  js : RdM w x.a5 x.n5 s.joins
theorem SpAt.kept {w w' : World} {x : Sv} {s : Sp} (h : SpAt w x s) (hb : Below w.heap.size w w') : SpAt w' x s :=
  ⟨h.r, h.ms.kept hb, h.ts.kept hb, h.ss.kept hb, h.cs.kept hb, h.js.kept hb⟩
def rightB (s : Sp) : Bool := ((((decide ((s.merges.length : Int) ≤ roomI 1 s.ranked) && s.merges.all okM) && (decide ((s.tokens.length : Int) ≤ roomI 2 s.ranked) && s.tokens.all okT)) && (decide ((s.specials.length : Int) ≤ roomI 3 s.ranked) && s.specials.all okS)) && (decide ((s.classes.length : Int) ≤ roomI 4 s.ranked) && s.classes.all okC)) && (decide ((s.joins.length : Int) ≤ roomI 5 s.ranked) && s.joins.all okJ)
theorem rightB_iff (s : Sp) : rightB s = true ↔ s.Right := by
  unfold rightB
  simp only [Bool.and_eq_true, decide_eq_true_eq, List.all_eq_true]
  have h1 : ((s.merges.length : Int) ≤ roomI 1 s.ranked) ↔ s.merges.length ≤ roomM s.ranked := by
    unfold roomI roomM
    cases s.ranked <;> simp <;> omega
  have h2 : ((s.tokens.length : Int) ≤ roomI 2 s.ranked) ↔ s.tokens.length ≤ roomT s.ranked := by
    unfold roomI roomT
    cases s.ranked <;> simp <;> omega
  have h3 : ((s.specials.length : Int) ≤ roomI 3 s.ranked) ↔ s.specials.length ≤ 32 := by
    unfold roomI
    simp
    omega
  have h4 : ((s.classes.length : Int) ≤ roomI 4 s.ranked) ↔ s.classes.length ≤ 64 := by
    unfold roomI
    simp
    omega
  have h5 : ((s.joins.length : Int) ≤ roomI 5 s.ranked) ↔ s.joins.length ≤ 64 := by
    unfold roomI
    simp
    omega
  rw [h1, h2, h3, h4, h5]
  constructor
  · rintro ⟨⟨⟨⟨⟨a, b⟩, c, d⟩, e, f⟩, g, h⟩, i, j⟩
    exact ⟨a, b, c, d, e, f, g, h, i, j⟩
  · rintro ⟨a, b, c, d, e, f, g, h, i, j⟩
    exact ⟨⟨⟨⟨⟨a, b⟩, c, d⟩, e, f⟩, g, h⟩, i, j⟩

/-- A spec in a box. -/
def BxS (q : Nat) (x : Sv) (W : World) : Prop := W.cell? ⟨q, 0, none⟩ = some (.bool x.r) ∧ W.cell? ⟨q, 1, none⟩ = some (.slice x.a1 x.n1 x.c1) ∧ W.cell? ⟨q, 2, none⟩ = some (.slice x.a2 x.n2 x.c2) ∧ W.cell? ⟨q, 3, none⟩ = some (.slice x.a3 x.n3 x.c3) ∧ W.cell? ⟨q, 4, none⟩ = some (.slice x.a4 x.n4 x.c4) ∧ W.cell? ⟨q, 5, none⟩ = some (.slice x.a5 x.n5 x.c5)
theorem BxS.kept {q : Nat} {x : Sv} {W W' : World} (h : BxS q x W) (hq : q < W.heap.size) (hb : Below W.heap.size W W') : BxS q x W' :=
  ⟨(bcell hb hq).trans h.1, (bcell hb hq).trans h.2.1, (bcell hb hq).trans h.2.2.1, (bcell hb hq).trans h.2.2.2.1, (bcell hb hq).trans h.2.2.2.2.1, (bcell hb hq).trans h.2.2.2.2.2⟩
theorem BxS.new (w : World) (x : Sv) (T : TypeId) : BxS w.heap.size x (w.alloc (.cells x.cs T)) := by
  refine ⟨?_, ?_, ?_, ?_, ?_, ?_⟩ <;> simp
structure SpI (w : World) (q : Nat) (x : Sv) (s : Sp) (W : World) : Prop where
  sp : SpAt W x s
  box : BxS q x W
  lt : q < W.heap.size
  bel : Below w.heap.size w W
theorem SpI.next {w : World} {q : Nat} {x : Sv} {s : Sp} {W W' : World} (h : SpI w q x s W) (hb : Below W.heap.size W W') : SpI w q x s W' :=
  ⟨h.sp.kept hb, h.box.kept h.lt hb, Nat.lt_of_lt_of_le h.lt hb.size, h.bel.trans (hb.mono h.bel.size)⟩
theorem SpI.new {w : World} {x : Sv} {s : Sp} (h : SpAt w x s) (T : TypeId) : SpI w w.heap.size x s (w.alloc (.cells x.cs T)) :=
  ⟨h.kept (low_alloc _ _), BxS.new w x T, by simp, low_alloc _ _⟩

/-- A region that draws its order, in whatever class of worlds. -/
theorem region_class {P : Program} {α : Type} (f : α → World) {id : Nat} {Q : Exit → Act → World → Prop} {a : Act} {w : World} {l : List Oper} (hm : P.follows .mixedOrders = true) (hB : Region.lexB .any l.toArray = true) (p0 : α) (h0 : w.drew = f p0)
    (h : wpQuiet P l.toArray (fun w' => ∃ p : α, w' = f p) (fun a' => ∀ w', (∃ p : α, w' = f p) → Q .normal a' w') l a) : (Code.region id l.toArray true).wp P Q a w :=
  wp_region_quiet (C := fun w' => ∃ p : α, w' = f p) hm hB ⟨p0, h0⟩ (by simpa using h)
theorem below_drew {B : Nat} {w W : World} (h : Below B w W) : Below B w W.drew := ⟨h.os, h.tape, h.output, h.size, h.block⟩
theorem SpI.drew {w : World} {q : Nat} {x : Sv} {s : Sp} {W : World} (h : SpI w q x s W) : SpI w q x s W.drew :=
  h.next (below_drew (Below.refl _ _))
/-- A world in which a spec lies in a box. -/
structure SpC (w : World) (q : Nat) (x : Sv) (s : Sp) where
  W : World
  h : SpI w q x s W
theorem Calls.toC {P : Program} {f : FuncId} {args : Array Value} {w : World} {q : Nat} {x : Sv} {s : Sp} (p : SpC w q x s) {v : Value} (h : Calls P f args p.W fun e w' => e = .returned v ∧ Below p.W.heap.size p.W w') : Calls P f args p.W fun e w' => e = .returned v ∧ ∃ p' : SpC w q x s, w' = p'.W :=
  h.mono fun _ _ ⟨he, hb⟩ => ⟨he, ⟨_, p.h.next hb⟩, rfl⟩

set_option maxHeartbeats 4000000 in
set_option maxRecDepth 20000 in
theorem right_any (x : Sv) (s : Sp) (w : World) (h : SpAt w x s) :
    Calls Tryz.prog 10 #[.agg x.cs] w fun e w' => e = .returned (.bool (rightB s)) ∧ Below w.heap.size w w' := by
  have HS := hide (SpI.new h 28)
  have HK1 := hide (fun (p : SpC w w.heap.size x s) => Calls.toC p (allMerge_any x.a1 x.n1 x.c1 s.merges (roomI 1 x.r) p.W p.h.sp.ms (roomI_le _ _)))
  have HK2 := hide (fun (p : SpC w w.heap.size x s) => Calls.toC p (allToken_any x.a2 x.n2 x.c2 s.tokens (roomI 2 x.r) p.W p.h.sp.ts (roomI_le _ _)))
  have HK3 := hide (fun (p : SpC w w.heap.size x s) => Calls.toC p (allSpecial_any x.a3 x.n3 x.c3 s.specials (roomI 3 x.r) p.W p.h.sp.ss (roomI_le _ _)))
  have HK4 := hide (fun (p : SpC w w.heap.size x s) => Calls.toC p (allClass_any x.a4 x.n4 x.c4 s.classes (roomI 4 x.r) p.W p.h.sp.cs (roomI_le _ _)))
  have HK5 := hide (fun (p : SpC w w.heap.size x s) => Calls.toC p (allJoin_any x.a5 x.n5 x.c5 s.joins (roomI 5 x.r) p.W p.h.sp.js (roomI_le _ _)))
  have HR := hide (fun (k : Int) (p : SpC w w.heap.size x s) => Calls.toC p ((room_any k x.r p.W).mono fun e w' ⟨he, hw⟩ => ⟨he, hw ▸ Below.refl _ _⟩))
  have hr : rightB s = (((((decide ((x.n1 : Int) ≤ roomI 1 x.r) && s.merges.all okM) && (decide ((x.n2 : Int) ≤ roomI 2 x.r) && s.tokens.all okT)) && (decide ((x.n3 : Int) ≤ roomI 3 x.r) && s.specials.all okS)) && (decide ((x.n4 : Int) ≤ roomI 4 x.r) && s.classes.all okC)) && (decide ((x.n5 : Int) ≤ roomI 5 x.r) && s.joins.all okJ)) := by
    unfold rightB
    rw [h.r, ← h.ms.1, ← h.ts.1, ← h.ss.1, ← h.cs.1, ← h.js.1]
  rw [hr]
  clear hr h
  generalize (decide ((x.n1 : Int) ≤ roomI 1 x.r) && s.merges.all okM) = r1 at HK1 ⊢
  generalize (decide ((x.n2 : Int) ≤ roomI 2 x.r) && s.tokens.all okT) = r2 at HK2 ⊢
  generalize (decide ((x.n3 : Int) ≤ roomI 3 x.r) && s.specials.all okS) = r3 at HK3 ⊢
  generalize (decide ((x.n4 : Int) ≤ roomI 4 x.r) && s.classes.all okC) = r4 at HK4 ⊢
  generalize (decide ((x.n5 : Int) ≤ roomI 5 x.r) && s.joins.all okJ) = r5 at HK5 ⊢
  have arm : r1 = false ∨ (r1 = true ∧ r2 = false) ∨ (r1 = true ∧ r2 = true ∧ r3 = false) ∨ (r1 = true ∧ r2 = true ∧ r3 = true ∧ r4 = false) ∨ (r1 = true ∧ r2 = true ∧ r3 = true ∧ r4 = true) := by
    cases r1 <;> cases r2 <;> cases r3 <;> cases r4 <;> simp
  have e0 : ∀ p : SpC w w.heap.size x s, p.W.cell? ⟨w.heap.size, 0, none⟩ = some (.bool x.r) := fun p => p.h.box.1
  have e1 : ∀ p : SpC w w.heap.size x s, p.W.cell? ⟨w.heap.size, 1, none⟩ = some (.slice x.a1 x.n1 x.c1) := fun p => p.h.box.2.1
  have e2 : ∀ p : SpC w w.heap.size x s, p.W.cell? ⟨w.heap.size, 2, none⟩ = some (.slice x.a2 x.n2 x.c2) := fun p => p.h.box.2.2.1
  have e3 : ∀ p : SpC w w.heap.size x s, p.W.cell? ⟨w.heap.size, 3, none⟩ = some (.slice x.a3 x.n3 x.c3) := fun p => p.h.box.2.2.2.1
  have e4 : ∀ p : SpC w w.heap.size x s, p.W.cell? ⟨w.heap.size, 4, none⟩ = some (.slice x.a4 x.n4 x.c4) := fun p => p.h.box.2.2.2.2.1
  have e5 : ∀ p : SpC w w.heap.size x s, p.W.cell? ⟨w.heap.size, 5, none⟩ = some (.slice x.a5 x.n5 x.c5) := fun p => p.h.box.2.2.2.2.2
  have ne : Nonempty (SpC w w.heap.size x s) := ⟨⟨_, HS.out.drew⟩⟩
  rcases arm with rfl | ⟨rfl, rfl⟩ | ⟨rfl, rfl, rfl⟩ | ⟨rfl, rfl, rfl, rfl⟩ | ⟨rfl, rfl, rfl, rfl⟩
  all_goals
    go_enter Tryz.func10, Tryz.ntmps10
    go_wp2
    refine region_class (α := SpC w w.heap.size x s) SpC.W (by kernel_rfl) (by kernel_rfl) ⟨_, HS.out.drew⟩ rfl ?_
    repeat (go_big_quiet_step (first
      | (go_at_call 21; exact HR.out _ _)
      | (go_at_call 20; exact HK1.out _)
      | (go_at_call 23; exact HK2.out _)
      | (go_at_call 25; exact HK3.out _)
      | (go_at_call 27; exact HK4.out _)
      | (go_at_call 29; exact HK5.out _)))
    refine wpQuiet_nil ?_
    intro _ hw'
    obtain ⟨⟨W, hW⟩, rfl⟩ := hw'
    go_wp2
    go_ret
    exact ⟨rfl, hW.bel⟩
end Go.Proofs.YteiinkhdgppgbaaGreatDoor
