/- Contracts of package token: Parents, Merges; the law's own example. -/
import Derived.Test.YtlfffalfnnmliaaTkJ
import Derived.Lib.AppendZeros
namespace Go.Proofs.Ytlfffalfnnmliaa
open Go.RowKit Go.Maps
set_option linter.unusedVariables false
set_option linter.unusedSimpArgs false

def merR (m : Int × Int) (ok : Bool) : Value := .tuple #[.agg #[.int .i64 m.1, .int .i64 m.2], .bool ok]

set_option maxHeartbeats 1000000 in
theorem parents_none (id : Int) (pv : Value) (n : Nat) (w : World) (HL : Hid (Calls Try.prog 24 #[pv] (w.alloc (.cells #[.int .i64 0, .int .i64 0] 69)) fun e w' => e = .returned (.int .i64 n) ∧ w' = (w.alloc (.cells #[.int .i64 0, .int .i64 0] 69)))) (hid : id < 256 ∨ (n : Int) ≤ id) :
    Calls Try.prog 36 #[pv, .int .i64 id] w fun e w' => e = .returned (merR (0, 0) false) ∧ Below w.heap.size w w' := by
  rcases (show id < 256 ∨ (¬ id < 256 ∧ (n : Int) ≤ id) by omega) with h0 | ⟨h0, h1⟩
  · have hb : decide (id < 256) = true := by simpa using h0
    go_enter Try.func36, Try.ntmps36
    go_wp2
    (try simp only [Exit.inBlock, Exit.then])
    exact bodyPost_ret (v := merR (0, 0) false) (by simp [merR, results, Try.results36, go_sem]) rfl ⟨rfl, low1 _ _⟩
  · have hb : decide (id < 256) = false := by simpa using h0
    go_enter Try.func36, Try.ntmps36
    go_wp2_with fail
    refine (unhide HL).mono ?_
    rintro e w' ⟨rfl, hw⟩
    subst hw
    go_wp2
    (try simp only [Exit.inBlock, Exit.then])
    exact bodyPost_ret (v := merR (0, 0) false) (by simp [merR, results, Try.results36, go_sem]) rfl ⟨rfl, low1 _ _⟩

theorem merges_nil (w : World) : Calls Try.prog 14 #[.pointer none] w fun e w' => e = .returned (.slice none 0 0) ∧ w' = w := by
  go_enter Try.func14, Try.ntmps14
  go_wp2
  go_ret
  exact ⟨rfl, rfl⟩

section
variable {F : List Nat} {p : Nat} {v0 v1 : Value} {b2 b3 : Nat} {tx : List ByteArray} {mg : List (Int × Int)} {lg : Int} {w : World}

set_option maxRecDepth 20000 in
set_option maxHeartbeats 1000000 in
theorem parents_any (h : TAt F p v0 v1 b2 b3 tx mg lg w) (i : Nat) (hi : i < mg.length) (hl : tx.length = 256 + mg.length) (hz : mg.length ≤ 1000) :
    Calls Try.prog 36 #[.pointer (some ⟨p, 0, none⟩), .int .i64 (256 + i)] w fun e w' => e = .returned (merR (gm mg i) true) ∧ Below w.heap.size w w' := by
  have hT := h.keptB (low1 w (.cells #[.int .i64 0, .int .i64 0] 69))
  have HL := hide (tlen_any hT)
  obtain ⟨g, cap, rfl, c0, c1⟩ := h.merge hi
  have hgl : g < w.heap.size := World.block_lt_of_cell? w _ c0
  have hp1 := h.cells.2.1
  have hpl := h.lt
  have hb : decide ((256 + i : Int) < 256) = false := by simp; omega
  have hi0 : (0 : Int) ≤ (i : Int) := by omega
  have hi1 : (i : Int) < (mg.length : Int) := by omega
  have hge : ¬ ((tx.length : Int) ≤ 256 + (i : Int)) := by omega
  have hgb : decide ((tx.length : Int) ≤ 256 + (i : Int)) = false := by simpa using hge
  have hne : g ≠ w.heap.size := by omega
  have hnp : p ≠ w.heap.size := by omega
  generalize gm mg i = m at *
  clear h hT hl
  go_enter Try.func36, Try.ntmps36
  go_wp2_with fail
  refine (unhide HL).mono ?_
  rintro e w' ⟨rfl, hw⟩
  subst hw
  go_wp2
  (try simp only [Exit.inBlock, Exit.then])
  exact bodyPost_ret (v := merR m true) (by simp [merR, results, Try.results36, go_sem]) rfl ⟨rfl, low1 _ _⟩
end

def exM : List (Int × Int) := [(97, 98), (256, 99)]
theorem ex0 : addC (stT exM 0).1 (gm exM 0) = 0 := by decide +kernel
theorem ex1 : addC (stT exM 1).1 (gm exM 1) = 0 := by decide +kernel
theorem ex2 : addC (stT exM 2).1 (98, 99) = 0 := by decide +kernel
theorem ex3 : addC (nextT (stT exM 2).1 (98, 99)) (97, 258) = 10 := by decide +kernel
theorem ex4 : gs (stT exM 2).1 257 = ⟨#[97, 98, 99]⟩ := by decide +kernel
theorem ex5 : 257 < (stT exM 2).1.length := by decide +kernel

end Go.Proofs.Ytlfffalfnnmliaa
