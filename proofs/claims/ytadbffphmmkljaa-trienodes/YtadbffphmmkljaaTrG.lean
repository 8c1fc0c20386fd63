/- The tokens whose bytes begin with a text. -/
import Derived.Test.YtadbffphmmkljaaTrF
import Derived.Shelf.Sort.Plain
import Derived.Sort.OwnSortedInts
import Derived.Laws.EntriesVeiled
import Derived.Shelf.Slices.In.SortNone
namespace Go.Proofs.Ytadbffphmmkljaa
open Go.RowKit Go.Maps Go.Shelf Go.Sort
set_option linter.unusedVariables false
set_option linter.unusedSimpArgs false

/-- Numbers of one's own are sorted. -/
theorem tsort_own {ρ : Ren} (Ly : Lays.n189 Try.prog ρ) (hf : ρ.f 189 = 28) {w : World} {B : Nat} {ao : Option Addr} {n cap : Nat} {l : List Int} (h : w.ownsRow B 3 1 (.slice ao n cap) n (Mk.iv l)) (hn : n ≤ 1000000) :
    Calls Try.prog 28 #[.slice ao n cap] w fun e w' => e = .returned (.tuple #[]) ∧ w'.ownsRow B 3 1 (.slice ao n cap) n (Mk.iv (l.mergeSort fun x y => decide (x ≤ y))) ∧ Below B w w' := by
  have hln : l.length = n := by have := h.1; rw [Mk.iv_len] at this; omega
  subst hln
  rcases Nat.eq_zero_or_pos l.length with h0 | h0
  · obtain rfl : l = [] := List.length_eq_zero_iff.1 h0
    have K := Any.slices_Sort_int_none Ly ao cap w
    rw [hf] at K
    refine K.mono ?_
    rintro e w' ⟨rfl, rfl⟩
    exact ⟨rfl, by simpa using h, Below.refl _ _⟩
  rcases h.2 with ⟨_, h1⟩ | ⟨g, cap', cur, hv, hB, hb, h1, h2, h3, h4⟩
  · omega
  simp only [Value.slice.injEq] at hv
  obtain ⟨rfl, -, rfl⟩ := hv
  have hg := (Array.getElem?_eq_some_iff.1 hb).1
  have hH := holds_of_blockI hb (by simpa [Mk.iv] using h4)
  have K := Any.slices_Sort_int Ly g 0 cap l w hH hg (by omega)
  rw [hf] at K
  refine K.mono ?_
  rintro e w' ⟨rfl, n, os, rfl⟩
  refine ⟨rfl, ownsRow_sortedI (by simp) hB hb h1 h2 h3, ?_⟩
  have hgr := grownBy_sortedI (w := w) (g := g) (n := n) (os := os) (l.mergeSort fun x y => decide (x ≤ y)).toArray
  exact ⟨hgr.os, hgr.tape, hgr.output, hgr.size, fun k hk => hgr.block k (by omega) (fun e => by have := Option.some.inj e; omega)⟩

set_option maxRecDepth 20000 in
set_option maxHeartbeats 4000000 in
theorem tbelow_any {w : World} {B r Cn : Nat} {S : List (List UInt8)} {bk mp : List UInt8 → Option Nat} (h0 : TrR B r S Cn bk mp w) (hN : S.Nodup) (h64 : ∀ s ∈ S, s.length ≤ 64) (hS : S.length ≤ 1000) (t : List UInt8) (b : Nat) (hb : bk t = some b) :
    Calls Try.prog 27 #[.pointer (some ⟨b, 0, none⟩)] w fun e w' => ∃ P ao n cap, e = .returned (.slice ao n cap) ∧ n = P.length ∧ Bel S t (fun _ => True) P ∧ w'.ownsRow w.heap.size 3 1 (.slice ao n cap) n (nv P) ∧ Below w.heap.size w w' := by

  have hmf : ∀ (fn : Fn) (first cap : Array Value) (w : World), (Instr.makeFunc fn first cap).run Try.prog w = .ok (.func fn first cap) w := fun _ _ _ _ => rfl
  have hA := Mk.low1 w (.cells #[.slice none 0 0] 35)
  have hAn := heap_alloc_new w (.cells #[.slice none 0 0] 35)
  have hB := Mk.low1 (w.alloc (.cells #[.slice none 0 0] 35)) (.cells #[.nilFunc] 75)
  have hBn := heap_alloc_new (w.alloc (.cells #[.slice none 0 0] 35)) (.cells #[.nilFunc] 75)
  have hz : (w.alloc (.cells #[.slice none 0 0] 35)).heap.size = w.heap.size + 1 := by simp
  have hAn2 := (hB.block w.heap.size (by rw [hz]; omega)).trans hAn
  rw [hz] at hBn hB
  generalize hwc : (w.alloc (.cells #[.slice none 0 0] 35)).alloc (.cells #[.nilFunc] 75) = wb at *
  have y0 : wb.cell? ⟨w.heap.size + 1, 0, none⟩ = some .nilFunc := Lib.cell_of_heap hBn 0
  have f0 : wb.frozen? ⟨w.heap.size + 1, 0, none⟩ = false := Lib.frozen_of_heap hBn 0
  have hbel : Below w.heap.size w (wb.setCell ⟨w.heap.size + 1, 0, none⟩ (gaV w.heap.size (w.heap.size + 1))) :=
    (hA.trans (hB.mono (by omega))).trans ⟨rfl, rfl, rfl, by simp, fun k hk => set_other wb (w.heap.size + 1) 0 _ (by omega)⟩
  have HG : Hid (GaM w w.heap.size (w.heap.size + 1) [] none 0 0 (wb.setCell ⟨w.heap.size + 1, 0, none⟩ (gaV w.heap.size (w.heap.size + 1)))) := hide ⟨hbel, Nat.le_refl _, by omega, by rw [set_other wb (w.heap.size + 1) 0 _ (by omega)]; exact hAn2, by simpa using set_blk hBn 0 (gaV w.heap.size (w.heap.size + 1)), World.ownsRow_nil _ _ _ _, rfl⟩
  have y1 := Lib.cell_of_heap HG.out.cg 0
  have HC := hide (gather_any h0 hN h64 hS 65 t b (by omega) hb [] none 0 0 _ (by simp) HG.out)
  clear hA hAn hB hBn hz hAn2 hbel
  go_enter Try.func27, Try.ntmps27
  go_wp2_with fail
  refine (unhide HC).mono ?_
  rintro e w2 ⟨rfl, P, ao, n, cap, hP, hG, -⟩
  rw [List.nil_append] at hG
  have c0 := Lib.cell_of_heap hG.ci 0
  have HG2 := hide hG
  have HP := hide hP
  clear hP hG HC HG y0 f0 y1
  go_wp2
  go_ret
  exact ⟨P, ao, n, cap, rfl, HG2.out.len, HP.out, HG2.out.row, HG2.out.bel⟩
theorem row_down {W : World} {B B' k : Nat} {E : TypeId} {v : Value} {n : Nat} {xs : List Value} (h : W.ownsRow B E k v n xs) (hb : B' ≤ B) : W.ownsRow B' E k v n xs :=
  ⟨h.1, h.2.imp id (fun ⟨g, cap, cur, a, b, c⟩ => ⟨g, cap, cur, a, Nat.le_trans hb b, c⟩)⟩
end Go.Proofs.Ytadbffphmmkljaa
