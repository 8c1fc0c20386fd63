/- Contracts: word.Hex, word.Unhex, and the reference's. Contract: word.Unhex. The hex words: back and forth. Contracts: the reference's Hex, digit, Unhex. -/
import Derived.Test.YtdpmjaelbjjanaaGreatBuild
import Derived.Test.YtdpmjaelbjjanaaGreatQa1
import Derived.Test.YtdpmjaelbjjanaaGreatRows
import Derived.WalkKit
import Derived.ProofKit
namespace Go.Proofs.YtdpmjaelbjjanaaGreat.Wf
open Go.RowKit
set_option linter.unusedVariables false
set_option linter.unusedSimpArgs false


/-- A hex digit's letter. -/
def hx (n : Nat) : UInt8 := if n < 10 then (48 + n).toUInt8 else (87 + n).toUInt8
def hex2 (c : UInt8) : List UInt8 := [hx (c.toNat / 16), hx (c.toNat % 16)]
def hexL (l : List UInt8) : List UInt8 := l.flatMap hex2
def hexS (s : ByteArray) : ByteArray := if s.size = 0 then ⟨#[45]⟩ else ⟨(hexL s.data.toList).toArray⟩

theorem hexL_take (s : ByteArray) (k : Nat) (h : k < s.size) : hexL (s.data.toList.take (k + 1)) = hexL (s.data.toList.take k) ++ hex2 s[k] := by
  have h' : k < s.data.toList.length := by rw [Array.length_toList]; exact h
  rw [List.take_succ_eq_append_getElem h', hexL, List.flatMap_append]
  simp [hexL]
  rfl
theorem hexL_length (l : List UInt8) : (hexL l).length = 2 * l.length := by
  induction l with
  | nil => rfl
  | cons a r ih => simp only [hexL, List.flatMap_cons, List.length_append, List.length_cons] at ih ⊢; rw [ih]; simp [hex2]; omega
/-- The digits as they lie in the program. -/
abbrev digs : ByteArray := { data := #[48, 49, 50, 51, 52, 53, 54, 55, 56, 57, 97, 98, 99, 100, 101, 102] }
theorem digs_at (n : Nat) (h : n < digs.size) : digs[n] = hx n := by
  have h' : n < 16 := h
  have all : ∀ m : Fin 16, digs[m.val]'(m.isLt) = hx m.val := by decide
  exact all ⟨n, h'⟩
theorem byteCells_append (a b : List UInt8) : Lib.byteCells (a ++ b) = Lib.byteCells a ++ Lib.byteCells b := List.map_append ..
theorem byteCells_length (a : List UInt8) : (Lib.byteCells a).length = a.length := List.length_map ..
theorem size_toList (s : ByteArray) : s.toList.length = s.size := by rw [ByteArray.toList_eq, Array.length_toList]; rfl

theorem isEmpty_true {s : ByteArray} (h : s.size = 0) : s.toList.isEmpty = true := by rw [List.isEmpty_iff_length_eq_zero, size_toList, h]
theorem isEmpty_false {s : ByteArray} (h : ¬ s.size = 0) : s.toList.isEmpty = false := by
  rw [Bool.eq_false_iff]
  intro h'
  rw [List.isEmpty_iff_length_eq_zero, size_toList] at h'
  exact h h'

end Go.Proofs.YtdpmjaelbjjanaaGreat.Wf

namespace Go.Proofs.YtdpmjaelbjjanaaGreat.Wf
open Go.RowKit
set_option linter.unusedVariables false
set_option linter.unusedSimpArgs false

/-- A hex digit's number; 16: none. -/
def dv (c : UInt8) : Nat := if 48 ≤ c.toNat ∧ c.toNat ≤ 57 then c.toNat - 48 else if 97 ≤ c.toNat ∧ c.toNat ≤ 102 then c.toNat - 87 else 16
def at0 (l : List UInt8) (j : Nat) : UInt8 := l.getD j 0
def okAt (l : List UInt8) (i : Nat) : Prop := dv (at0 l (2 * i)) < 16 ∧ dv (at0 l (2 * i + 1)) < 16
instance (l : List UInt8) (i : Nat) : Decidable (okAt l i) := by unfold okAt; infer_instance
def outAt (l : List UInt8) (i : Nat) : UInt8 := (16 * dv (at0 l (2 * i)) + dv (at0 l (2 * i + 1))).toUInt8
def outs (l : List UInt8) (n : Nat) : List UInt8 := (List.range n).map (outAt l)
def dash : ByteArray := ⟨#[45]⟩
def unhexS (s : ByteArray) : ByteArray × Bool :=
  if s.toList = [45] then (⟨#[]⟩, true) else if s.size = 0 ∨ s.size % 2 ≠ 0 then (⟨#[]⟩, false)
  else if ∀ i, i < s.size / 2 → okAt s.data.toList i then (⟨(outs s.data.toList (s.size / 2)).toArray⟩, true) else (⟨#[]⟩, false)

theorem index_digs (c : UInt8) : Lib.indexByte digs.data.toList c = if dv c < 16 then (dv c : Int) else -1 := by
  have all : ∀ n : Fin 256, Lib.indexByte digs.data.toList (UInt8.ofNat n.val) = if dv (UInt8.ofNat n.val) < 16 then (dv (UInt8.ofNat n.val) : Int) else -1 := by decide +kernel
  have := all ⟨c.toNat, c.toNat_lt⟩
  rwa [UInt8.ofNat_toNat] at this

theorem outs_succ (l : List UInt8) (n : Nat) : outs l (n + 1) = outs l n ++ [outAt l n] := by simp [outs, List.range_succ]
theorem outs_length (l : List UInt8) (n : Nat) : (outs l n).length = n := by simp [outs]
theorem at0_eq (s : ByteArray) (j : Nat) (h : j < s.size) : at0 s.data.toList j = s[j] := by
  have h' : j < s.data.toList.length := by rw [Array.length_toList]; exact h
  rw [at0, List.getD_eq_getElem?_getD, List.getElem?_eq_getElem h']
  rfl

end Go.Proofs.YtdpmjaelbjjanaaGreat.Wf

namespace Go.Proofs.YtdpmjaelbjjanaaGreat.Wf
open Go.RowKit
set_option linter.unusedVariables false
set_option linter.unusedSimpArgs false

theorem dv_hx (n : Nat) (h : n < 16) : dv (hx n) = n := by
  have all : ∀ m : Fin 16, dv (hx m.val) = m.val := by decide +kernel
  exact all ⟨n, h⟩
theorem hx_dv (c : UInt8) (h : dv c < 16) : hx (dv c) = c := by
  have all : ∀ n : Fin 256, dv (UInt8.ofNat n.val) < 16 → hx (dv (UInt8.ofNat n.val)) = UInt8.ofNat n.val := by decide +kernel
  have := all ⟨c.toNat, c.toNat_lt⟩
  rw [UInt8.ofNat_toNat] at this
  exact this h
theorem hexL_at (l : List UInt8) (i : Nat) (h : i < l.length) : at0 (hexL l) (2 * i) = hx (l[i].toNat / 16) ∧ at0 (hexL l) (2 * i + 1) = hx (l[i].toNat % 16) := by
  induction l generalizing i with
  | nil => simp at h
  | cons a r ih =>
    cases i with
    | zero => exact ⟨rfl, rfl⟩
    | succ i =>
      have := ih i (by simpa using h)
      rw [show 2 * (i + 1) = 2 * i + 1 + 1 by omega]
      exact this
theorem nib_back (c : UInt8) : (16 * (c.toNat / 16) + c.toNat % 16).toUInt8 = c := by
  rw [show 16 * (c.toNat / 16) + c.toNat % 16 = c.toNat by omega]
  exact UInt8.ofNat_toNat
theorem nib_parts (p q : Nat) (hp : p < 16) (hq : q < 16) : (16 * p + q).toUInt8.toNat / 16 = p ∧ (16 * p + q).toUInt8.toNat % 16 = q := by
  have all : ∀ p q : Fin 16, (16 * p.val + q.val).toUInt8.toNat / 16 = p.val ∧ (16 * p.val + q.val).toUInt8.toNat % 16 = q.val := by decide +kernel
  exact all ⟨p, hp⟩ ⟨q, hq⟩

theorem outs_hexL (l : List UInt8) : outs (hexL l) l.length = l := by
  apply List.ext_getElem
  · rw [outs_length]
  · intro i h1 h2
    obtain ⟨ha, hb⟩ := hexL_at l i h2
    simp only [outs, List.getElem_map, List.getElem_range, outAt]
    rw [ha, hb, dv_hx _ (by have := l[i].toNat_lt; omega), dv_hx _ (by omega), nib_back]
theorem toList_data (s : ByteArray) : s.toList = s.data.toList := ByteArray.toList_eq ..

/-- What Hex tells, Unhex reads. -/
theorem unhex_hex (b : ByteArray) : unhexS (hexS b) = (b, true) := by
  by_cases h0 : b.size = 0
  · rw [hexS, if_pos h0, unhexS, if_pos (by rw [toList_data])]
    congr 1
    apply ByteArray.ext
    exact (Array.eq_empty_of_size_eq_zero h0).symm
  · have hl : b.data.toList.length = b.size := Array.length_toList
    have hz : (⟨(hexL b.data.toList).toArray⟩ : ByteArray).size = 2 * b.size := by
      show (hexL b.data.toList).toArray.size = _
      rw [List.size_toArray, hexL_length, hl]
    rw [hexS, if_neg h0, unhexS, if_neg, if_neg (by rw [hz]; omega), if_pos, hz, show 2 * b.size / 2 = b.size by omega]
    · show (_, _) = _
      congr 1
      apply ByteArray.ext
      show (outs (hexL b.data.toList) b.size).toArray = b.data
      rw [← hl, outs_hexL]
    · intro i hi
      rw [hz, show 2 * b.size / 2 = b.size by omega] at hi
      obtain ⟨ha, hb⟩ := hexL_at b.data.toList i (by omega)
      refine ⟨?_, ?_⟩
      · show dv (at0 (hexL b.data.toList) _) < 16
        rw [ha, dv_hx _ (by have := b.data.toList[i].toNat_lt; omega)]
        have := b.data.toList[i].toNat_lt
        omega
      · show dv (at0 (hexL b.data.toList) _) < 16
        rw [hb, dv_hx _ (by omega)]
        omega
    · intro h
      have h2 := congrArg List.length h
      rw [size_toList, hz] at h2
      simp at h2
      omega

theorem hexL_outs (l : List UInt8) (n : Nat) (hl : l.length = 2 * n) (h : ∀ i, i < n → okAt l i) : hexL (outs l n) = l := by
  have hlen : (hexL (outs l n)).length = l.length := by rw [hexL_length, outs_length, hl]
  apply List.ext_getElem hlen
  intro j h1 h2
  have key : ∀ j, j < l.length → at0 (hexL (outs l n)) j = at0 l j := by
    intro j hj
    have hi : j / 2 < (outs l n).length := by rw [outs_length]; omega
    obtain ⟨ha, hb⟩ := hexL_at (outs l n) (j / 2) hi
    have ho := h (j / 2) (by omega)
    have he : (outs l n)[j / 2] = (16 * dv (at0 l (2 * (j / 2))) + dv (at0 l (2 * (j / 2) + 1))).toUInt8 := by simp [outs, outAt]
    have hp := nib_parts _ _ ho.1 ho.2
    rw [he, hp.1, hx_dv _ ho.1] at ha
    rw [he, hp.2, hx_dv _ ho.2] at hb
    rcases Nat.mod_two_eq_zero_or_one j with h0 | h0
    · rwa [show 2 * (j / 2) = j by omega] at ha
    · rwa [show 2 * (j / 2) + 1 = j by omega] at hb
  have := key j h2
  rw [at0, at0, List.getD_eq_getElem?_getD, List.getD_eq_getElem?_getD, List.getElem?_eq_getElem h1, List.getElem?_eq_getElem h2] at this
  exact this

/-- What Unhex reads, Hex tells. -/
theorem hex_unhex (s : ByteArray) (h : (unhexS s).2 = true) : hexS (unhexS s).1 = s := by
  unfold unhexS at h ⊢
  split
  · rename_i h1
    apply ByteArray.ext
    rw [toList_data] at h1
    exact (Array.toList_inj.1 h1).symm
  · rename_i h1
    rw [if_neg h1] at h
    split
    · rename_i h2
      rw [if_pos h2] at h
      cases h
    · rename_i h2
      rw [if_neg h2] at h
      split
      · rename_i h3
        have hl : s.data.toList.length = s.size := Array.length_toList
        have hz : (⟨(outs s.data.toList (s.size / 2)).toArray⟩ : ByteArray).size = s.size / 2 := by
          show (outs s.data.toList (s.size / 2)).toArray.size = _
          rw [List.size_toArray, outs_length]
        show hexS ⟨(outs s.data.toList (s.size / 2)).toArray⟩ = s
        rw [hexS, if_neg (by rw [hz]; omega)]
        apply ByteArray.ext
        show (hexL (outs s.data.toList (s.size / 2)).toArray.toList).toArray = s.data
        rw [hexL_outs _ _ (by rw [hl]; omega) h3]
      · rename_i h3
        rw [if_neg h3] at h
        cases h
end Go.Proofs.YtdpmjaelbjjanaaGreat.Wf

namespace Go.Proofs.YtdpmjaelbjjanaaGreat.Wf
open Go.RowKit
set_option linter.unusedVariables false
set_option linter.unusedSimpArgs false

theorem conv2 (wr : World) (x y : Int) : (convert 140 9 (.slice (some ⟨wr.heap.size, 0, none⟩) 2 2)).run Tryz.prog (wr.alloc (.cells #[.int .u8 x, .int .u8 y] 5)).drew = .ok (.string (strOfNums [x, y])) (wr.alloc (.cells #[.int .u8 x, .int .u8 y] 5)).drew :=
  run_convert_bytes_arg (P := Tryz.prog) (wr.alloc (.cells #[.int .u8 x, .int .u8 y] 5)).drew 140 5 Tryz.underlying140 Tryz.underlying5 wr.heap.size 0 2 2 [x, y] rfl (by
    intro i hi
    rcases i with _ | _ | i
    · simp
    · simp
    · omega) 9 Tryz.underlying9
theorem str_two (a b : UInt8) : strOfNums [(a.toNat : Int), (b.toNat : Int)] = ⟨#[a, b]⟩ := by
  simp [strOfNums]
theorem str_append (a b : List UInt8) : (⟨a.toArray⟩ : ByteArray) ++ ⟨b.toArray⟩ = ⟨(a ++ b).toArray⟩ := by
  apply ByteArray.ext
  rw [ByteArray.data_append]
  simp

end Go.Proofs.YtdpmjaelbjjanaaGreat.Wf
