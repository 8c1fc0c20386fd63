/- Tables of tokens: the plain mathematics. -/
import Derived.Test.YtadbffphmmkljaaTkE
namespace Go.Proofs.Ytadbffphmmkljaa
open Go.RowKit
set_option linter.unusedVariables false
set_option linter.unusedSimpArgs false

/-- The most bytes that one has. -/
def lgs (tx : List ByteArray) : Int := tx.foldl (fun m s => if m ≤ (s.size : Int) then (s.size : Int) else m) 0
theorem lgs_snoc (tx : List ByteArray) (s : ByteArray) : lgs (tx ++ [s]) = if lgs tx ≤ (s.size : Int) then (s.size : Int) else lgs tx := by
  unfold lgs
  rw [List.foldl_append]
  rfl
theorem lgs_tb (j : Nat) : lgs (tb (j + 1)) = 1 := by
  induction j with
  | zero => rfl
  | succ j ih =>
    rw [tb_succ, lgs_snoc, ih, show (one (j + 1)).size = 1 from rfl]
    rfl

/-- What a table is: the bytes, then tokens of two parents; no two have the same bytes. -/
structure Tok (tx : List ByteArray) (mg : List (Int × Int)) : Prop where
  len : tx.length = 256 + mg.length
  low : ∀ i, i < 256 → gs tx i = one i
  par : ∀ i, i < mg.length → 0 ≤ (gm mg i).1 ∧ (gm mg i).1 < 256 + i ∧ 0 ≤ (gm mg i).2 ∧ (gm mg i).2 < 256 + i
  made : ∀ i, i < mg.length → gs tx (256 + i) = gs tx (gm mg i).1.toNat ++ gs tx (gm mg i).2.toNat
  nd : ∀ i j, i < j → j < tx.length → gs tx i ≠ gs tx j
  sz : ∀ i, i < tx.length → (gs tx i).size ≤ 64
  cap : tx.length ≤ 1000
  lg0 : 0 ≤ lgs tx ∧ lgs tx ≤ 64

theorem gs_lt (tx : List ByteArray) {i : Nat} (h : i < tx.length) : gs tx i = tx[i] := by
  rw [gs, List.getD_eq_getElem?_getD, List.getElem?_eq_getElem h, Option.getD_some]
theorem gs_mem {tx : List ByteArray} {s : ByteArray} : s ∈ tx ↔ ∃ i, i < tx.length ∧ gs tx i = s := by
  constructor
  · intro h
    obtain ⟨i, hi, e⟩ := List.getElem_of_mem h
    exact ⟨i, hi, by rw [gs_lt tx hi]; exact e⟩
  · rintro ⟨i, hi, rfl⟩
    rw [gs_lt tx hi]; exact List.getElem_mem hi
theorem gs_left (tx : List ByteArray) (s : ByteArray) {i : Nat} (h : i < tx.length) : gs (tx ++ [s]) i = gs tx i := by
  simp only [gs, List.getD_eq_getElem?_getD, List.getElem?_append_left h]
theorem gs_last (tx : List ByteArray) (s : ByteArray) : gs (tx ++ [s]) tx.length = s := by
  simp [gs, List.getD_eq_getElem?_getD]
theorem gm_left (mg : List (Int × Int)) (m : Int × Int) {i : Nat} (h : i < mg.length) : gm (mg ++ [m]) i = gm mg i := by
  simp only [gm, List.getD_eq_getElem?_getD, List.getElem?_append_left h]
theorem gm_last (mg : List (Int × Int)) (m : Int × Int) : gm (mg ++ [m]) mg.length = m := by
  simp [gm, List.getD_eq_getElem?_getD]
theorem gm_mem {mg : List (Int × Int)} {m : Int × Int} (h : m ∈ mg) : ∃ i, i < mg.length ∧ gm mg i = m := by
  obtain ⟨i, hi, e⟩ := List.getElem_of_mem h
  exact ⟨i, hi, by rw [gm, List.getD_eq_getElem?_getD, List.getElem?_eq_getElem hi, Option.getD_some]; exact e⟩

theorem tok_begin : Tok (tb 256) [] where
  len := by simp [tb_len]
  low := by
    intro i hi
    rw [gs_lt _ (by rw [tb_len]; exact hi)]
    simp [tb]
  par := by intro i hi; simp at hi
  made := by intro i hi; simp at hi
  nd := by
    intro i j hij hj
    rw [tb_len] at hj
    rw [gs_lt _ (by rw [tb_len]; omega), gs_lt _ (by rw [tb_len]; exact hj)]
    simp only [tb, List.getElem_map, List.getElem_range]
    intro e
    have := one_inj (by omega) hj e
    omega
  sz := by
    intro i hi
    rw [tb_len] at hi
    rw [gs_lt _ (by rw [tb_len]; exact hi)]
    simp only [tb, List.getElem_map, List.getElem_range]
    rw [show (one i).size = 1 from rfl]
    omega
  cap := by rw [tb_len]; omega
  lg0 := by rw [lgs_tb 255]; omega

theorem data_mem {tx : List ByteArray} {s : ByteArray} : s.data.toList ∈ tx.map (fun t => t.data.toList) ↔ s ∈ tx := by
  constructor
  · intro h
    obtain ⟨t, ht, e⟩ := List.mem_map.1 h
    have : sk t = sk s := by unfold sk; rw [e]
    rw [← sk_inj this]; exact ht
  · intro h; exact List.mem_map_of_mem h

/-- The number of the error that Add tells; 0: none. -/
def addC (tx : List ByteArray) (m : Int × Int) : Int :=
  if m.1 < 0 ∨ (tx.length : Int) ≤ m.1 ∨ m.2 < 0 ∨ (tx.length : Int) ≤ m.2 then 4
  else if 64 < (gs tx m.1.toNat ++ gs tx m.2.toNat).size then 3
  else if 1000 ≤ tx.length then 5
  else if (gs tx m.1.toNat ++ gs tx m.2.toNat).data.toList ∈ tx.map (fun t => t.data.toList) then 10 else 0
def addS (tx : List ByteArray) (m : Int × Int) : ByteArray := gs tx m.1.toNat ++ gs tx m.2.toNat

theorem addC_ok {tx : List ByteArray} {m : Int × Int} (h : addC tx m = 0) : (0 ≤ m.1 ∧ m.1 < tx.length ∧ 0 ≤ m.2 ∧ m.2 < tx.length) ∧ (addS tx m).size ≤ 64 ∧ tx.length < 1000 ∧ addS tx m ∉ tx := by
  unfold addC at h
  unfold addS
  split at h
  · omega
  · split at h
    · omega
    · split at h
      · omega
      · split at h
        · omega
        · rename_i h1 h2 h3 h4
          exact ⟨by omega, by omega, by omega, fun e => h4 (data_mem.2 e)⟩

theorem Tok.not_mem {tx : List ByteArray} {mg : List (Int × Int)} (h : Tok tx mg) {m : Int × Int} (hm : addS tx m ∉ tx) : m ∉ mg := by
  intro e
  obtain ⟨i, hi, rfl⟩ := gm_mem e
  refine hm (gs_mem.2 ⟨256 + i, by rw [h.len]; omega, ?_⟩)
  exact h.made i hi

theorem Tok.wf {tx : List ByteArray} {mg : List (Int × Int)} (h : Tok tx mg) : ∀ x ∈ mg, wfM x := by
  intro x hx
  obtain ⟨i, hi, rfl⟩ := gm_mem hx
  have h1 := h.par i hi
  have h2 := h.cap
  have h3 := h.len
  exact ⟨WalkArith.wf_i64 (by omega), WalkArith.wf_i64 (by omega)⟩

theorem Tok.add {tx : List ByteArray} {mg : List (Int × Int)} (h : Tok tx mg) {m : Int × Int} (hc : addC tx m = 0) : Tok (tx ++ [addS tx m]) (mg ++ [m]) := by
  obtain ⟨⟨a0, a1, b0, b1⟩, hs, hn, hm⟩ := addC_ok hc
  have hl := h.len
  refine ⟨by simp; omega, fun i hi => by rw [gs_left _ _ (by omega)]; exact h.low i hi, fun i hi => ?_, fun i hi => ?_, fun i j hij hj => ?_, fun i hi => ?_, by simp; omega, ?_⟩
  · simp at hi
    by_cases e : i < mg.length
    · rw [gm_left _ _ e]; exact h.par i e
    · obtain rfl : i = mg.length := by omega
      rw [gm_last]
      omega
  · simp at hi
    by_cases e : i < mg.length
    · have hp := h.par i e
      rw [gm_left _ _ e, gs_left _ _ (by omega), gs_left _ _ (by omega), gs_left _ _ (by omega)]
      exact h.made i e
    · obtain rfl : i = mg.length := by omega
      rw [gm_last, ← hl, gs_last, gs_left _ _ (by omega), gs_left _ _ (by omega)]
      rfl
  · simp at hj
    by_cases e : j < tx.length
    · rw [gs_left _ _ (by omega), gs_left _ _ e]; exact h.nd i j hij e
    · obtain rfl : j = tx.length := by omega
      rw [gs_last, gs_left _ _ hij]
      intro e2
      exact hm (gs_mem.2 ⟨i, hij, e2⟩)
  · simp at hi
    by_cases e : i < tx.length
    · rw [gs_left _ _ e]; exact h.sz i e
    · obtain rfl : i = tx.length := by omega
      rw [gs_last]; exact hs
  · rw [lgs_snoc]
    have := h.lg0
    split <;> omega

end Go.Proofs.Ytadbffphmmkljaa
