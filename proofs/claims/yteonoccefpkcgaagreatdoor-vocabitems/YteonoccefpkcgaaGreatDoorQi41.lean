/- Contracts of package bound: end, Whole, Between, Pieces. Contracts of package bound: Pieces. The law's own example; BoundNone. Contracts of the document's layer 8: Right, Class, Cuts. -/
import Derived.Test.YteonoccefpkcgaaGreatDoorQi14
import Derived.Test.YteonoccefpkcgaaGreatDoorQi7
import Derived.Deep.QuietTactic
import Derived.BigQuiet
namespace Go.Proofs.YteonoccefpkcgaaGreatDoor.Wf.Bq
open Go.RowKit
set_option linter.unusedVariables false
set_option linter.unusedSimpArgs false

end Go.Proofs.YteonoccefpkcgaaGreatDoor.Wf.Bq

namespace Go.Proofs.YteonoccefpkcgaaGreatDoor.Wf.Bq
open Go.RowKit
set_option linter.unusedVariables false
set_option linter.unusedSimpArgs false

/-- Texts out of lists of bytes. -/
def bts (l : List (List UInt8)) : List ByteArray := l.map (fun x => ⟨x.toArray⟩)
theorem tv_get (l : List (List UInt8)) (i : Nat) (hi : i < l.length) : (tv l)[i]? = some (.string (gT (bts l) i)) := by
  simp [tv, gT, bts, hi]
theorem RdT.row {w : World} {base : Nat} {ao : Option Addr} {n cap : Nat} {l : List (List UInt8)} (h : w.ownsRow base 9 1 (.slice ao n cap) n (tv l)) (hl : l.length = n) : RdT w ao n (bts l) := by
  refine ⟨by simp [bts, hl], ?_⟩
  rcases Nat.eq_zero_or_pos n with h0 | h0
  · exact Or.inl h0
  obtain ⟨g, cap', e, hb, hg⟩ := h.form h0
  simp only [Value.slice.injEq] at e
  obtain ⟨rfl, -, rfl⟩ := e
  refine Or.inr ⟨g, 0, rfl, hg, fun i hi => ?_⟩
  rw [Nat.zero_add, h.cellAt i (by omega)]
  exact tv_get l i (by omega)
def szOf : Value → Nat
  | .string t => t.size
  | _ => 0
end Go.Proofs.YteonoccefpkcgaaGreatDoor.Wf.Bq

namespace Go.Proofs.YteonoccefpkcgaaGreatDoor.Wf.Bq
open Go.RowKit
set_option linter.unusedVariables false
set_option linter.unusedSimpArgs false

theorem low8 (w : World) (o : Obj) : Below w.heap.size w (w.alloc o) := (Below.refl _ _).alloc (Nat.le_refl _) _
def eC : List (Int × Int × Int) := [(97, 122, 1)]
end Go.Proofs.YteonoccefpkcgaaGreatDoor.Wf.Bq

namespace Go.Proofs.YteonoccefpkcgaaGreatDoor.Wf.Bq
open Go.RowKit
set_option linter.unusedVariables false
set_option linter.unusedSimpArgs false

/-- A region that draws its order, in whatever class of worlds. -/
theorem region_class {P : Program} {α : Type} (f : α → World) {id : Nat} {Q : Exit → Act → World → Prop} {a : Act} {w : World} {l : List Oper} (hm : P.follows .mixedOrders = true) (hB : Region.lexB .any l.toArray = true) (p0 : α) (h0 : w.drew = f p0)
    (h : wpQuiet P l.toArray (fun w' => ∃ p : α, w' = f p) (fun a' => ∀ w', (∃ p : α, w' = f p) → Q .normal a' w') l a) : (Code.region id l.toArray true).wp P Q a w :=
  wp_region_quiet (C := fun w' => ∃ p : α, w' = f p) hm hB ⟨p0, h0⟩ (by simpa using h)
/-- The document's table, in a box. -/
structure RbI (w : World) (q : Nat) (ao : Option Addr) (n c1 : Nat) (C : List (Int × Int × Int)) (bo : Option Addr) (m c2 : Nat) (J : List (Int × Int)) (W : World) : Prop where
  c : RdC W ao n C
  j : RdJ W bo m J
  b0 : W.cell? ⟨q, 0, none⟩ = some (.slice ao n c1)
  b1 : W.cell? ⟨q, 1, none⟩ = some (.slice bo m c2)
  lt : q < W.heap.size
  B : Below w.heap.size w W
section
variable {w : World} {q : Nat} {ao : Option Addr} {n c1 : Nat} {C : List (Int × Int × Int)} {bo : Option Addr} {m c2 : Nat} {J : List (Int × Int)} {W W' : World}
theorem RbI.next (h : RbI w q ao n c1 C bo m c2 J W) (hb : Below W.heap.size W W') : RbI w q ao n c1 C bo m c2 J W' :=
  ⟨h.c.kept hb, h.j.kept hb, (hb.cell h.lt).trans h.b0, (hb.cell h.lt).trans h.b1, Nat.lt_of_lt_of_le h.lt hb.size, h.B.trans (hb.mono h.B.size)⟩
theorem RbI.drew (h : RbI w q ao n c1 C bo m c2 J W) : RbI w q ao n c1 C bo m c2 J W.drew := h.next ⟨rfl, rfl, rfl, Nat.le_refl _, fun _ _ => rfl⟩
theorem RbI.new (hC : RdC w ao n C) (hJ : RdJ w bo m J) (c1 c2 : Nat) : RbI w w.heap.size ao n c1 C bo m c2 J (w.alloc (.cells #[.slice ao n c1, .slice bo m c2] 41)) :=
  ⟨hC.kept (low8 _ _), hJ.kept (low8 _ _), by simp, by simp, by simp, low8 _ _⟩

/-- All is right, as it is told. -/
def RgP (C : List (Int × Int × Int)) (J : List (Int × Int)) (e : Ending) : Prop := (e = .returned (.bool true) ∧ ((∀ c ∈ C, kC c) ∧ ∀ j ∈ J, kJ j)) ∨ (e = .returned (.bool false) ∧ ¬ ((∀ c ∈ C, kC c) ∧ ∀ j ∈ J, kJ j))

set_option maxRecDepth 20000 in
set_option maxHeartbeats 8000000 in
theorem rright8_any (hC : RdC w ao n C) (hJ : RdJ w bo m J) (hn : n ≤ 1000000) (hm : m ≤ 1000000) :
    Calls Tryz.prog 25 #[.agg #[.slice ao n c1, .slice bo m c2]] w fun e w' => RgP C J e ∧ Below w.heap.size w w' := by
  have HI := hide (RbI.new hC hJ c1 c2)
  have HCL := hide hC.1
  have HJL := hide hJ.1
  clear hC hJ
  go_enter Tryz.func25, Tryz.ntmps25
  go_wp2
  generalize w.alloc (.cells #[.slice ao n c1, .slice bo m c2] 41) = w0 at *
  generalize w.heap.size = q at *
  go_loopw [3] (fun i wr => ∃ (k : Nat), i = .int .i64 k ∧ k ≤ n ∧ Hid (∀ j, j < k → kC (gC C j)) ∧ Hid (RbI w q ao n c1 C bo m c2 J wr)) (fun i _ => n - (intOf i).toNat)
  case atStart => exact ⟨0, rfl, Nat.zero_le _, hide (fun j hj => by omega), HI⟩
  case round =>
    obtain ⟨k, rfl, hk, HOK, HW⟩ := hrel
    have b0 := HW.out.b0
    by_cases hlt : k < n
    · have hk0 : (0 : Int) ≤ (k : Int) := by omega
      have hk1 : (k : Int) < (n : Int) := by omega
      have hkl : k < C.length := by rw [HCL.out]; exact hlt
      have HMEM := hide (gC_mem C hkl)
      rcases HW.out.c.2 with h0 | ⟨b, off, rfl, hbw, hcc⟩
      · omega
      obtain ⟨d0, d1, d2⟩ := hcc k hlt
      clear hcc hkl
      have HOK2 : Hid (∀ y, y = gC C k → kC y → ∀ j, j < k + 1 → kC (gC C j)) := hide (fun y hy hk j hj => by by_cases e : j = k; · { rw [e, ← hy]; exact hk }; · { exact HOK.out j (by omega) })
      generalize gC C k = c at *
      obtain ⟨lo, hi, x⟩ := c
      simp only at d0 d1 d2
      have HW2 := hide (HW.out.next (low8 wr (.cells #[.int .i64 lo, .int .i64 hi, .int .i64 x] 64)))
      have HB2 := hide HW2.out.B
      by_cases g1 : lo < 0
      · have g1d : decide (lo < 0) = true := by simpa using g1
        go_wp2
        go_ret
        exact ⟨Or.inr ⟨rfl, fun h => by have := h.1 _ HMEM.out; unfold kC at this; simp only at this; omega⟩, HB2.out⟩
      have g1d : decide (lo < 0) = false := by simpa using g1
      by_cases g2 : hi < lo
      · have g2d : decide (hi < lo) = true := by simpa using g2
        go_wp2
        go_ret
        exact ⟨Or.inr ⟨rfl, fun h => by have := h.1 _ HMEM.out; unfold kC at this; simp only at this; omega⟩, HB2.out⟩
      have g2d : decide (hi < lo) = false := by simpa using g2
      by_cases g3 : 255 < hi
      · have g3d : decide (255 < hi) = true := by simpa using g3
        go_wp2
        go_ret
        exact ⟨Or.inr ⟨rfl, fun h => by have := h.1 _ HMEM.out; unfold kC at this; simp only at this; omega⟩, HB2.out⟩
      have g3d : decide (255 < hi) = false := by simpa using g3
      by_cases g4 : x < 0
      · have g4d : decide (x < 0) = true := by simpa using g4
        go_wp2
        go_ret
        exact ⟨Or.inr ⟨rfl, fun h => by have := h.1 _ HMEM.out; unfold kC at this; simp only at this; omega⟩, HB2.out⟩
      have g4d : decide (x < 0) = false := by simpa using g4
      by_cases g5 : 15 < x
      · have g5d : decide (15 < x) = true := by simpa using g5
        go_wp2
        go_ret
        exact ⟨Or.inr ⟨rfl, fun h => by have := h.1 _ HMEM.out; unfold kC at this; simp only at this; omega⟩, HB2.out⟩
      have g5d : decide (15 < x) = false := by simpa using g5
      have HKC : Hid (kC (lo, hi, x)) := hide (by unfold kC; simp only; omega)
      go_wp2
      go_roundw
      case rel => exact ⟨k + 1, by go_num, by omega, hide (fun j hj => HOK2.out _ rfl HKC.out j hj), HW2⟩
      case measure => simp [intOf]; omega
    · have hkn : k = n := by omega
      have HAC : Hid (∀ c ∈ C, kC c) := hide (fun c hc => by obtain ⟨j, hj, e⟩ := mem_gC hc; rw [← e]; exact HOK.out j (by rw [hkn, ← HCL.out]; exact hj))
      have hk1 : ¬ (k : Int) < (n : Int) := by omega
      clear HOK hkn hlt
      go_wp2
      clear b0
      go_loopw [5] (fun i wr => ∃ (k : Nat), i = .int .i64 k ∧ k ≤ m ∧ Hid (∀ j, j < k → kJ (gJ J j)) ∧ Hid (RbI w q ao n c1 C bo m c2 J wr)) (fun i _ => m - (intOf i).toNat)
      case atStart => exact ⟨0, rfl, Nat.zero_le _, hide (fun j hj => by omega), HW⟩
      case round =>
        clear HW
        obtain ⟨i, rfl, hi, HOJ, HW⟩ := hrel
        have b1 := HW.out.b1
        by_cases hlt : i < m
        · have hk0 : (0 : Int) ≤ (i : Int) := by omega
          have hk1 : (i : Int) < (m : Int) := by omega
          have hkl : i < J.length := by rw [HJL.out]; exact hlt
          have HMEM := hide (gJ_mem J hkl)
          rcases HW.out.j.2 with h0 | ⟨b, off, rfl, hbw, hcc⟩
          · omega
          obtain ⟨d0, d1⟩ := hcc i hlt
          clear hcc hkl
          have HOK2 : Hid (∀ y, y = gJ J i → kJ y → ∀ j, j < i + 1 → kJ (gJ J j)) := hide (fun y hy hk j hj => by by_cases e : j = i; · { rw [e, ← hy]; exact hk }; · { exact HOJ.out j (by omega) })
          generalize gJ J i = c at *
          obtain ⟨x, y⟩ := c
          simp only at d0 d1
          have HW2 := hide (HW.out.next (low8 wr (.cells #[.int .i64 x, .int .i64 y] 66)))
          have HB2 := hide HW2.out.B
          by_cases g1 : x < 0
          · have g1d : decide (x < 0) = true := by simpa using g1
            go_wp2
            go_ret
            exact ⟨Or.inr ⟨rfl, fun h => by have := h.2 _ HMEM.out; unfold kJ at this; simp only at this; omega⟩, HB2.out⟩
          have g1d : decide (x < 0) = false := by simpa using g1
          by_cases g2 : 15 < x
          · have g2d : decide (15 < x) = true := by simpa using g2
            go_wp2
            go_ret
            exact ⟨Or.inr ⟨rfl, fun h => by have := h.2 _ HMEM.out; unfold kJ at this; simp only at this; omega⟩, HB2.out⟩
          have g2d : decide (15 < x) = false := by simpa using g2
          by_cases g3 : y < 0
          · have g3d : decide (y < 0) = true := by simpa using g3
            go_wp2
            go_ret
            exact ⟨Or.inr ⟨rfl, fun h => by have := h.2 _ HMEM.out; unfold kJ at this; simp only at this; omega⟩, HB2.out⟩
          have g3d : decide (y < 0) = false := by simpa using g3
          by_cases g4 : 15 < y
          · have g4d : decide (15 < y) = true := by simpa using g4
            go_wp2
            go_ret
            exact ⟨Or.inr ⟨rfl, fun h => by have := h.2 _ HMEM.out; unfold kJ at this; simp only at this; omega⟩, HB2.out⟩
          have g4d : decide (15 < y) = false := by simpa using g4
          have HKJ : Hid (kJ (x, y)) := hide (by unfold kJ; simp only; omega)
          go_wp2
          go_roundw
          case rel => exact ⟨i + 1, by go_num, by omega, hide (fun j hj => HOK2.out _ rfl HKJ.out j hj), HW2⟩
          case measure => simp [intOf]; omega
        · obtain rfl : i = m := by omega
          go_wp2
          go_ret
          exact ⟨Or.inl ⟨rfl, HAC.out, fun c hc => by obtain ⟨j, hj, e⟩ := mem_gJ hc; rw [← e]; exact HOJ.out j (by rw [← HJL.out]; exact hj)⟩, HW.out.B⟩

end

end Go.Proofs.YteonoccefpkcgaaGreatDoor.Wf.Bq
