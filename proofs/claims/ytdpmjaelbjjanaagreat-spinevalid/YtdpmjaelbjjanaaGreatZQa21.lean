/- Contracts of the document's answer for tokens: Has, Find, Begin. Contracts of package token: Parents, Merges; the law's own example. -/
import Derived.Test.YtdpmjaelbjjanaaGreatZQa14
import Derived.Lib.AppendZeros
namespace Go.Proofs.YtdpmjaelbjjanaaGreat
open Go.RowKit Go.Maps
set_option linter.unusedVariables false
set_option linter.unusedSimpArgs false
attribute [local go_sem ↓] Go.wp_at_zero Go.wp_at_succ

/-- A table of the document's: two rows. -/
structure RT (vb vm : Value) (tx : List ByteArray) (mg : List (Int × Int)) (w : World) : Prop where
  rb : w.ownsRow 0 9 1 vb tx.length (tx.map Value.string)
  rm : w.ownsRow 0 77 2 vm mg.length (fl2 mg)
  nl : mg = [] → vm = .slice none 0 0

section
variable {vb vm : Value} {tx : List ByteArray} {mg : List (Int × Int)} {w w' : World}
theorem row_keptB {B : Nat} {E : TypeId} {size : Nat} {v : Value} {n : Nat} {xs : List Value} (h : w.ownsRow B E size v n xs) (hb : Below w.heap.size w w') : w'.ownsRow B E size v n xs :=
  h.kept (row := none) ⟨hb.os, hb.tape, hb.output, hb.size, fun k hk _ => hb.block k hk⟩ (by cases v.ownBlock <;> simp)
theorem RT.kept (h : RT vb vm tx mg w) (hb : Below w.heap.size w w') : RT vb vm tx mg w' := ⟨row_keptB h.rb hb, row_keptB h.rm hb, h.nl⟩
theorem RT.keptF {F : List Nat} (h : RT vb vm tx mg w) (hF : FrL F w w') (h0 : ∀ k, vb.ownBlock = some k → k ∉ F) (h1 : ∀ k, vm.ownBlock = some k → k ∉ F) : RT vb vm tx mg w' := ⟨row_frl h.rb hF h0, row_frl h.rm hF h1, h.nl⟩
theorem RT.text (h : RT vb vm tx mg w) {i : Nat} (hi : i < tx.length) : ∃ g cap, vb = .slice (some ⟨g, 0, none⟩) tx.length cap ∧ g < w.heap.size ∧ w.cell? ⟨g, i, none⟩ = some (.string (gs tx i)) := by
  obtain ⟨g, cap, rfl, _, hg⟩ := h.rb.form (by omega)
  refine ⟨g, cap, rfl, hg, ?_⟩
  rw [h.rb.cellAt i (by omega), List.getElem?_map, gs, List.getD_eq_getElem?_getD, List.getElem?_eq_getElem hi]
  rfl
theorem RT.mer (h : RT vb vm tx mg w) {i : Nat} (hi : i < mg.length) : ∃ g cap, vm = .slice (some ⟨g, 0, none⟩) mg.length cap ∧ g < w.heap.size ∧ w.cell? ⟨g, i * 2, none⟩ = some (.int .i64 (gm mg i).1) ∧ w.cell? ⟨g, i * 2 + 1, none⟩ = some (.int .i64 (gm mg i).2) := by
  obtain ⟨g, cap, rfl, _, hg⟩ := h.rm.form (by omega)
  have hf := fl2_get mg i hi
  exact ⟨g, cap, rfl, hg, by rw [h.rm.cellAt _ (by omega)]; exact hf.1, by rw [h.rm.cellAt _ (by omega)]; exact hf.2⟩

set_option maxHeartbeats 1000000 in
theorem rhas_any (h : RT vb vm tx mg w) (id : Int) :
    Calls Tryz.prog 24 #[.agg #[vb, vm], .int .i64 id] w fun e w' => e = .returned (.bool (decide (0 ≤ id ∧ id < tx.length))) ∧ Below w.heap.size w w' := by
  obtain ⟨ao, cap, rfl⟩ := row_form h.rb
  obtain ⟨am, capm, rfl⟩ := row_form h.rm
  by_cases h0 : 0 ≤ id
  · have hb : decide (0 ≤ id) = true := by simpa using h0
    go_enter Tryz.func24, Tryz.ntmps24
    go_wp2
    go_ret
    exact ⟨by simp [h0], low1 _ _⟩
  · have hb : decide (0 ≤ id) = false := by simpa using h0
    go_enter Tryz.func24, Tryz.ntmps24
    go_wp2
    go_ret
    exact ⟨by simp [h0], low1 _ _⟩

theorem beq_no {a b : ByteArray} (h : ¬ a = b) : (a == b) = false := by
  cases hb : (a == b) with
  | false => rfl
  | true => exact absurd ((MapKept.bytes_beq a b).1 hb) h
theorem beq_no2 {a b : ByteArray} (h : ¬ a = b) : (a.toList == b.toList) = false := by
  cases hb : (a.toList == b.toList) with
  | false => rfl
  | true =>
    have h1 : a.toList = b.toList := by simpa using hb
    rw [Go.ByteArray.toList_eq, Go.ByteArray.toList_eq] at h1
    exact absurd (WideShapes.bytes_inj h1) h

/-- Where a text stands first; -1: nowhere. -/
def Fnd (tx : List ByteArray) (s : ByteArray) (r : Int) : Prop := (r = -1 ∧ s ∉ tx) ∨ ∃ i : Nat, r = i ∧ i < tx.length ∧ gs tx i = s

set_option maxRecDepth 20000 in
set_option maxHeartbeats 2000000 in
theorem rfind_any (h : RT vb vm tx mg w) (s : ByteArray) (hn : tx.length ≤ 100000) :
    Calls Tryz.prog 79 #[.agg #[vb, vm], .string s] w fun e w' => (∃ r : Int, e = .returned (.int .i64 r) ∧ Fnd tx s r) ∧ Below w.heap.size w w' := by
  obtain ⟨ao, cap, rfl⟩ := row_form h.rb
  obtain ⟨am, capm, rfl⟩ := row_form h.rm
  go_enter Tryz.func79, Tryz.ntmps79
  go_wp2
  go_loop [5] (fun i => ∃ k : Nat, i = .int .i64 k ∧ k ≤ tx.length ∧ Hid (∀ j, j < k → gs tx j ≠ s)) (fun i => tx.length - (intOf i).toNat)
  case atStart => exact ⟨0, rfl, by omega, hide (fun j hj => by omega)⟩
  case round =>
    obtain ⟨k, rfl, hk, hno⟩ := hrel
    by_cases hlt : k < tx.length
    · obtain ⟨g, cap', hv, hgl, hc⟩ := h.text hlt
      simp only [Value.slice.injEq] at hv
      obtain ⟨rfl, _, rfl⟩ := hv
      have hk0 : (0 : Int) ≤ (k : Int) := by omega
      have hk1 : (k : Int) < (tx.length : Int) := by omega
      have hne : g ≠ w.heap.size := by omega
      by_cases he : gs tx k = s
      · rw [he] at hc
        have HE := hide he
        clear he
        go_wp2
        go_ret
        exact ⟨⟨k, rfl, Or.inr ⟨k, rfl, hlt, HE.out⟩⟩, low1 _ _⟩
      · have hbe := beq_no he
        have hbf := beq_no2 he
        have HE := hide he
        generalize gs tx k = u at hc hbe hbf
        clear he
        go_wp2
        go_round
        case rel =>
          refine ⟨k + 1, by go_num, by omega, hide (fun j hj => ?_)⟩
          by_cases e : j = k
          · rw [e]; exact HE.out
          · exact hno.out j (by omega)
        case measure => simp [intOf]; omega
    · obtain rfl : k = tx.length := by omega
      go_wp2
      go_ret
      refine ⟨⟨-1, rfl, Or.inl ⟨rfl, fun e => ?_⟩⟩, low1 _ _⟩
      obtain ⟨i, hi, e2⟩ := gs_mem.1 e
      exact hno.out i hi e2
end

end Go.Proofs.YtdpmjaelbjjanaaGreat

namespace Go.Proofs.YtdpmjaelbjjanaaGreat
open Go.RowKit Go.Maps
set_option linter.unusedVariables false
set_option linter.unusedSimpArgs false

def merR (m : Int × Int) (ok : Bool) : Value := .tuple #[.agg #[.int .i64 m.1, .int .i64 m.2], .bool ok]

section
variable {F : List Nat} {p : Nat} {v0 v1 : Value} {b2 b3 : Nat} {tx : List ByteArray} {mg : List (Int × Int)} {lg : Int} {w : World}

set_option maxRecDepth 20000 in
set_option maxHeartbeats 1000000 in
theorem parents_any (h : TAt F p v0 v1 b2 b3 tx mg lg w) (i : Nat) (hi : i < mg.length) (hl : tx.length = 256 + mg.length) (hz : mg.length ≤ 1000) :
    Calls Tryz.prog 53 #[.pointer (some ⟨p, 0, none⟩), .int .i64 (256 + i)] w fun e w' => e = .returned (merR (gm mg i) true) ∧ Below w.heap.size w w' := by
  have hT := h.keptB (low1 w (.cells #[.int .i64 0, .int .i64 0] 77))
  have HL := hide (tlen_any hT)
  obtain ⟨g, cap, rfl, c0, c1⟩ := h.merge hi
  have hgl : g < w.heap.size := World.block_lt_of_cell? w _ c0
  have hp1 := h.cells.2.1
  have hpl := h.lt
  have hb : decide ((256 + i : Int) < 256) = false := by simp; omega
  have hi0 : (0 : Int) ≤ (i : Int) := by omega
  have hi1 : (i : Int) < (mg.length : Int) := by omega
  have hge : ¬ ((tx.length : Int) ≤ 256 + (i : Int)) := by omega
  have hgb : decide ((tx.length : Int) ≤ 256 + (i : Int)) = false := by simpa using hge
  have hne : g ≠ w.heap.size := by omega
  have hnp : p ≠ w.heap.size := by omega
  generalize gm mg i = m at *
  clear h hT hl
  go_enter Tryz.func53, Tryz.ntmps53
  go_wp2_with fail
  refine (unhide HL).mono ?_
  rintro e w' ⟨rfl, hw⟩
  subst hw
  go_wp2
  (try simp only [Exit.inBlock, Exit.then])
  exact bodyPost_ret (v := merR m true) (by simp [merR, results, Tryz.results53, go_sem]) rfl ⟨rfl, low1 _ _⟩
end

end Go.Proofs.YtdpmjaelbjjanaaGreat
