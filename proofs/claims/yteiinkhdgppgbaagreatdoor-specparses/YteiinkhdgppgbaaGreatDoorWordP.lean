/- The walk of WordLines. -/
import Derived.Test.YteiinkhdgppgbaaGreatDoorWordO
namespace Go.Proofs.YteiinkhdgppgbaaGreatDoor
open Go.RowKit
set_option linter.unusedVariables false
set_option linter.unusedSimpArgs false

theorem RdT.reads {w : World} {ao : Option Addr} {n : Nat} {l : List ByteArray} (h : RdT w ao n l) : ReadsS w ao n l := by
  refine ⟨h.1, ?_⟩
  rcases h.2 with h0 | ⟨b, off, rfl, hlt, hc⟩
  · exact Or.inl h0
  · exact Or.inr ⟨b, off, rfl, hc⟩
theorem lineS_next (f : ByteArray) (ss : List ByteArray) (k : Nat) (h : k < ss.length) : lineS f (ss.take k) ++ ⟨#[32]⟩ ++ gT ss k = lineS f (ss.take (k + 1)) := by
  apply ByteArray.ext
  apply Array.ext'
  unfold lineS
  simp only [ByteArray.data_append, Array.toList_append]
  rw [lineL_take f ss k h]
  simp [gT]
theorem lineS_zero (f : ByteArray) (ss : List ByteArray) : lineS f (ss.take 0) = f := by
  apply ByteArray.ext
  apply Array.ext'
  simp [lineS, lineL]

/-- Texts out of lists of bytes. -/
def bt (l : List (List UInt8)) : List ByteArray := l.map (fun x => ⟨x.toArray⟩)
theorem tv_at (l : List (List UInt8)) (i : Nat) (hi : i < l.length) : (tv l)[i]? = some (.string (gT (bt l) i)) := by
  simp [tv, gT, bt, hi]
theorem RdT.of_row {w : World} {base : Nat} {ao : Option Addr} {n cap : Nat} {l : List (List UInt8)} (h : w.ownsRow base 9 1 (.slice ao n cap) n (tv l)) (hl : l.length = n) : RdT w ao n (bt l) := by
  refine ⟨by simp [bt, hl], ?_⟩
  rcases Nat.eq_zero_or_pos n with h0 | h0
  · exact Or.inl h0
  obtain ⟨g, cap', e, hb, hg⟩ := h.form h0
  simp only [Value.slice.injEq] at e
  obtain ⟨rfl, -, rfl⟩ := e
  refine Or.inr ⟨g, 0, rfl, hg, fun i hi => ?_⟩
  rw [Nat.zero_add, h.cellAt i (by omega)]
  exact tv_at l i (by omega)
theorem RdT.of_block (w : World) (l : List (List UInt8)) (nq : Nat) {n : Nat} (hl : l.length = n) : RdT ((w.alloc (.cells (tv l).toArray 9)).drewN nq) (some ⟨w.heap.size, 0, none⟩) n (bt l) := by
  refine ⟨by simp [bt, hl], Or.inr ⟨w.heap.size, 0, rfl, by show _ < (w.alloc _).heap.size; simp, fun i hi => ?_⟩⟩
  have h := tv_at l i (by omega)
  show (w.alloc _).cell? _ = _
  rw [Nat.zero_add, ← h]
  simp
theorem cut_last (c : UInt8) (s : List UInt8) : ∃ l x, cutL c s = l ++ [x] := by
  rcases List.eq_nil_or_concat (cutL c s) with h | ⟨l, x, h⟩
  · have h1 := cut_len (c := c) s
    rw [h] at h1
    simp at h1
  · exact ⟨l, x, by simpa using h⟩
theorem cut_le (s : ByteArray) (hs : s.size ≤ 500) (c : UInt8) : (cutL c s.data.toList).length ≤ 501 := by
  rw [cut_len]
  have h1 := List.count_le_length (a := c) (l := s.data.toList)
  have h2 : s.data.toList.length = s.size := by rw [Array.length_toList]; rfl
  omega
theorem row_room {w : World} {base e size n : Nat} {ao : Option Addr} {cap : Nat} {xs : List Value} (h : w.ownsRow base e size (.slice ao n cap) n xs) (h0 : 0 < n) : ∃ g, ao = some ⟨g, 0, none⟩ ∧ n ≤ cap ∧ cap ≤ maxLen := by
  rcases h.2 with ⟨_, h1⟩ | ⟨g, cap', cur, hv, _, _, h1, h2, _⟩
  · omega
  · simp only [Value.slice.injEq] at hv
    obtain ⟨rfl, -, rfl⟩ := hv
    exact ⟨g, rfl, h1, h2⟩
theorem lineS_size (f : ByteArray) (ss : List ByteArray) (k : Nat) (h : ∀ j, j < k → (gT ss j).size ≤ 100) (hf : f.size ≤ 100) (hk : k ≤ 20) : (lineS f (ss.take k)).size ≤ 3000 := by
  have h1 := lineL_len f (ss.take k) 100 (fun s hs => by
    obtain ⟨j, hj, rfl⟩ := List.getElem_of_mem hs
    have hj2 := hj
    rw [List.length_take] at hj2
    have := h j (by omega)
    rw [List.getElem_take]
    simpa [gT, List.getD_eq_getElem?_getD, List.getElem?_eq_getElem (show j < ss.length by omega)] using this)
  have h2 : (ss.take k).length ≤ 20 := by rw [List.length_take]; omega
  have h3 : (lineS f (ss.take k)).size = (lineL f (ss.take k)).length := by simp [lineS, ByteArray.size]
  omega

end Go.Proofs.YteiinkhdgppgbaaGreatDoor
