/- Where bytes are cut: the plain mathematics. Special tokens in texts: the plain mathematics. -/
import Derived.Test.YteonoccefpkcgaaGreatDoorProg
namespace Go.Proofs.YteonoccefpkcgaaGreatDoor.Wf.Bq
set_option linter.unusedVariables false
set_option linter.unusedSimpArgs false

/-- A class is right; a join is. -/
def kC (c : Int × Int × Int) : Prop := 0 ≤ c.1 ∧ c.1 ≤ c.2.1 ∧ c.2.1 ≤ 255 ∧ 0 ≤ c.2.2 ∧ c.2.2 ≤ 15
def kJ (j : Int × Int) : Prop := 0 ≤ j.1 ∧ j.1 ≤ 15 ∧ 0 ≤ j.2 ∧ j.2 ≤ 15
open Classical in
/-- A byte's class: the last one's in whose span it is. -/
def cls (C : List (Int × Int × Int)) (b : Int) : Int := C.foldl (fun a c => if c.1 ≤ b ∧ b ≤ c.2.1 then c.2.2 else a) 0
theorem cls_snoc (C : List (Int × Int × Int)) (c : Int × Int × Int) (b : Int) : cls (C ++ [c]) b = if c.1 ≤ b ∧ b ≤ c.2.1 then c.2.2 else cls C b := by
  unfold cls
  rw [List.foldl_append]
  rfl
def gC (C : List (Int × Int × Int)) (k : Nat) : Int × Int × Int := C.getD k (0, 0, 0)
def gJ (C : List (Int × Int)) (k : Nat) : Int × Int := C.getD k (0, 0)
theorem gC_take (C : List (Int × Int × Int)) {k : Nat} (h : k < C.length) : C.take (k + 1) = C.take k ++ [gC C k] := by
  rw [List.take_succ_eq_append_getElem h]
  unfold gC
  rw [List.getD_eq_getElem?_getD, List.getElem?_eq_getElem h]
  rfl
theorem gJ_take (C : List (Int × Int)) {k : Nat} (h : k < C.length) : C.take (k + 1) = C.take k ++ [gJ C k] := by
  rw [List.take_succ_eq_append_getElem h]
  unfold gJ
  rw [List.getD_eq_getElem?_getD, List.getElem?_eq_getElem h]
  rfl
theorem gC_mem (C : List (Int × Int × Int)) {k : Nat} (h : k < C.length) : gC C k ∈ C := by
  unfold gC
  rw [List.getD_eq_getElem?_getD, List.getElem?_eq_getElem h]
  exact List.getElem_mem h
theorem gJ_mem (C : List (Int × Int)) {k : Nat} (h : k < C.length) : gJ C k ∈ C := by
  unfold gJ
  rw [List.getD_eq_getElem?_getD, List.getElem?_eq_getElem h]
  exact List.getElem_mem h
theorem mem_gC {C : List (Int × Int × Int)} {c : Int × Int × Int} (h : c ∈ C) : ∃ k, k < C.length ∧ gC C k = c := by
  obtain ⟨k, hk, e⟩ := List.getElem_of_mem h
  exact ⟨k, hk, by unfold gC; rw [List.getD_eq_getElem?_getD, List.getElem?_eq_getElem hk]; exact e⟩
theorem mem_gJ {C : List (Int × Int)} {c : Int × Int} (h : c ∈ C) : ∃ k, k < C.length ∧ gJ C k = c := by
  obtain ⟨k, hk, e⟩ := List.getElem_of_mem h
  exact ⟨k, hk, by unfold gJ; rw [List.getD_eq_getElem?_getD, List.getElem?_eq_getElem hk]; exact e⟩
theorem cls_range {C : List (Int × Int × Int)} (h : ∀ c ∈ C, kC c) (b : Int) : ∀ k, k ≤ C.length → 0 ≤ cls (C.take k) b ∧ cls (C.take k) b ≤ 15
  | 0, _ => by simp [cls]
  | k + 1, hl => by
    rw [gC_take C (by omega), cls_snoc]
    have h1 := h _ (gC_mem C (show k < C.length by omega))
    have h2 := cls_range h b k (by omega)
    unfold kC at h1
    split <;> omega
theorem cls_range' {C : List (Int × Int × Int)} (h : ∀ c ∈ C, kC c) (b : Int) : 0 ≤ cls C b ∧ cls C b ≤ 15 := by
  have := cls_range h b C.length (Nat.le_refl _)
  rwa [List.take_length] at this

/-- Is it cut between two bytes? -/
def cutP (C : List (Int × Int × Int)) (J : List (Int × Int)) (a b : Int) : Bool := decide (cls C a ≠ cls C b ∧ (cls C a, cls C b) ∉ J)

section
variable (q : Int → Int → Bool)
variable {q}
end

end Go.Proofs.YteonoccefpkcgaaGreatDoor.Wf.Bq

namespace Go.Proofs.YteonoccefpkcgaaGreatDoor.Mk
set_option linter.unusedVariables false
set_option linter.unusedSimpArgs false

/-- The text of the i-th mark. -/
def mT (L : List (List UInt8)) (i : Nat) : List UInt8 := L.getD i []
/-- Does a text begin with another one? -/
def bgn (s t : List UInt8) : Bool := decide (t.length ≤ s.length ∧ s.take t.length = t)
/-- The longest one of the first k that begins a text: one more than its place; 0: none does. -/
def bst (L : List (List UInt8)) (s : List UInt8) : Nat → Nat
  | 0 => 0
  | k + 1 => if bgn s (mT L k) = true ∧ (bst L s k = 0 ∨ (mT L (bst L s k - 1)).length < (mT L k).length) then k + 1 else bst L s k
end Go.Proofs.YteonoccefpkcgaaGreatDoor.Mk
