/- Contracts: word.Hex, word.Unhex, and the reference's. Contract: word.Unhex. The hex words: back and forth. Contracts: the reference's Hex, digit, Unhex. -/
import Derived.Test.YteonoccefpkcgaaGreatDoorQk5
import Derived.Test.YteonoccefpkcgaaGreatDoorQk3
import Derived.Test.YteonoccefpkcgaaGreatDoorRows
import Derived.WalkKit
import Derived.ProofKit
namespace Go.Proofs.YteonoccefpkcgaaGreatDoor.Wf
open Go.RowKit
set_option linter.unusedVariables false
set_option linter.unusedSimpArgs false


/-- A hex digit's letter. -/
def hx (n : Nat) : UInt8 := if n < 10 then (48 + n).toUInt8 else (87 + n).toUInt8
def hex2 (c : UInt8) : List UInt8 := [hx (c.toNat / 16), hx (c.toNat % 16)]
def hexL (l : List UInt8) : List UInt8 := l.flatMap hex2
def hexS (s : ByteArray) : ByteArray := if s.size = 0 then ⟨#[45]⟩ else ⟨(hexL s.data.toList).toArray⟩

theorem hexL_length (l : List UInt8) : (hexL l).length = 2 * l.length := by
  induction l with
  | nil => rfl
  | cons a r ih => simp only [hexL, List.flatMap_cons, List.length_append, List.length_cons] at ih ⊢; rw [ih]; simp [hex2]; omega
/-- The digits as they lie in the program. -/
abbrev digs : ByteArray := { data := #[48, 49, 50, 51, 52, 53, 54, 55, 56, 57, 97, 98, 99, 100, 101, 102] }
theorem byteCells_append (a b : List UInt8) : Lib.byteCells (a ++ b) = Lib.byteCells a ++ Lib.byteCells b := List.map_append ..
theorem byteCells_length (a : List UInt8) : (Lib.byteCells a).length = a.length := List.length_map ..
theorem size_toList (s : ByteArray) : s.toList.length = s.size := by rw [ByteArray.toList_eq, Array.length_toList]; rfl

theorem isEmpty_true {s : ByteArray} (h : s.size = 0) : s.toList.isEmpty = true := by rw [List.isEmpty_iff_length_eq_zero, size_toList, h]
theorem isEmpty_false {s : ByteArray} (h : ¬ s.size = 0) : s.toList.isEmpty = false := by
  rw [Bool.eq_false_iff]
  intro h'
  rw [List.isEmpty_iff_length_eq_zero, size_toList] at h'
  exact h h'

end Go.Proofs.YteonoccefpkcgaaGreatDoor.Wf

namespace Go.Proofs.YteonoccefpkcgaaGreatDoor.Wf
open Go.RowKit
set_option linter.unusedVariables false
set_option linter.unusedSimpArgs false

/-- A hex digit's number; 16: none. -/
def dv (c : UInt8) : Nat := if 48 ≤ c.toNat ∧ c.toNat ≤ 57 then c.toNat - 48 else if 97 ≤ c.toNat ∧ c.toNat ≤ 102 then c.toNat - 87 else 16
def at0 (l : List UInt8) (j : Nat) : UInt8 := l.getD j 0
def okAt (l : List UInt8) (i : Nat) : Prop := dv (at0 l (2 * i)) < 16 ∧ dv (at0 l (2 * i + 1)) < 16
instance (l : List UInt8) (i : Nat) : Decidable (okAt l i) := by unfold okAt; infer_instance
def outAt (l : List UInt8) (i : Nat) : UInt8 := (16 * dv (at0 l (2 * i)) + dv (at0 l (2 * i + 1))).toUInt8
def outs (l : List UInt8) (n : Nat) : List UInt8 := (List.range n).map (outAt l)
def unhexS (s : ByteArray) : ByteArray × Bool :=
  if s.toList = [45] then (⟨#[]⟩, true) else if s.size = 0 ∨ s.size % 2 ≠ 0 then (⟨#[]⟩, false)
  else if ∀ i, i < s.size / 2 → okAt s.data.toList i then (⟨(outs s.data.toList (s.size / 2)).toArray⟩, true) else (⟨#[]⟩, false)

theorem index_digs (c : UInt8) : Lib.indexByte digs.data.toList c = if dv c < 16 then (dv c : Int) else -1 := by
  have all : ∀ n : Fin 256, Lib.indexByte digs.data.toList (UInt8.ofNat n.val) = if dv (UInt8.ofNat n.val) < 16 then (dv (UInt8.ofNat n.val) : Int) else -1 := by decide +kernel
  have := all ⟨c.toNat, c.toNat_lt⟩
  rwa [UInt8.ofNat_toNat] at this

theorem outs_succ (l : List UInt8) (n : Nat) : outs l (n + 1) = outs l n ++ [outAt l n] := by simp [outs, List.range_succ]
theorem outs_length (l : List UInt8) (n : Nat) : (outs l n).length = n := by simp [outs]
theorem at0_eq (s : ByteArray) (j : Nat) (h : j < s.size) : at0 s.data.toList j = s[j] := by
  have h' : j < s.data.toList.length := by rw [Array.length_toList]; exact h
  rw [at0, List.getD_eq_getElem?_getD, List.getElem?_eq_getElem h']
  rfl

theorem or_nib (p q : Nat) (hp : p < 16) (hq : q < 16) : bits BinOp.or IntKind.i64 ((p : Int) * 16) q % 256 = ((16 * p + q).toUInt8.toNat : Int) := by
  have all : ∀ p q : Fin 16, bits BinOp.or IntKind.i64 ((p.val : Int) * 16) q.val % 256 = ((16 * p.val + q.val).toUInt8.toNat : Int) := by decide +kernel
  exact all ⟨p, hp⟩ ⟨q, hq⟩
theorem toUInt8_toNat (c : UInt8) : c.toNat.toUInt8 = c := UInt8.ofNat_toNat
theorem index_yes (c : UInt8) (p : Nat) (w : World) (h : dv c = p) (hp : p < 16) :
    Calls Tryz.prog 191 #[.string digs, .int .u8 c.toNat] w fun e w' => e = .returned (.int .i64 p) ∧ w' = w := by
  have := Tryz.strings_IndexByte digs c.toNat w
  rw [Int.toNat_natCast, toUInt8_toNat, index_digs, h, if_pos hp] at this
  exact this
theorem index_no (c : UInt8) (w : World) (h : ¬ dv c < 16) :
    Calls Tryz.prog 191 #[.string digs, .int .u8 c.toNat] w fun e w' => e = .returned (.int .i64 (-1)) ∧ w' = w := by
  have := Tryz.strings_IndexByte digs c.toNat w
  rw [Int.toNat_natCast, toUInt8_toNat, index_digs, if_neg h] at this
  exact this

set_option maxHeartbeats 1600000 in
theorem unhex_any (s : ByteArray) (w : World) (hs : s.size ≤ 1000000) :
    Calls Tryz.prog 173 #[.string s] w fun e w' => e = .returned (.tuple #[.string (unhexS s).1, .bool (unhexS s).2]) ∧ Below w.heap.size w w' := by
  by_cases hd : s.toList = [45]
  · have HU := hide (show unhexS s = (⟨#[]⟩, true) by rw [unhexS, if_pos hd])
    have hd' : (s.toList == [45]) = true := by rw [hd]; rfl
    clear hd
    go_enter Tryz.func173, Tryz.ntmps173
    go_wp2
    go_ret2
    rw [HU.out]
    exact ⟨rfl, Below.refl _ _⟩
  have hd' : (s.toList == [45]) = false := by rw [Bool.eq_false_iff]; intro h; exact hd (by simpa using h)
  by_cases h0 : s.size = 0
  · have HU := hide (show unhexS s = (⟨#[]⟩, false) by rw [unhexS, if_neg hd, if_pos (Or.inl h0)])
    have he := isEmpty_true h0
    clear h0 hd
    go_enter Tryz.func173, Tryz.ntmps173
    go_wp2
    go_ret2
    rw [HU.out]
    exact ⟨rfl, Below.refl _ _⟩
  have he := isEmpty_false h0
  by_cases ho : s.size % 2 = 0
  case neg =>
    have HU := hide (show unhexS s = (⟨#[]⟩, false) by rw [unhexS, if_neg hd, if_pos (Or.inr ho)])
    have ho' : ((s.size : Int) % 2 != 0) = true := by simp; omega
    clear ho hd
    go_enter Tryz.func173, Tryz.ntmps173
    go_wp2
    go_ret2
    rw [HU.out]
    exact ⟨rfl, Below.refl _ _⟩
  obtain ⟨n, hn⟩ : ∃ n, s.size = 2 * n := ⟨s.size / 2, by omega⟩
  have hn2 : s.size / 2 = n := by omega
  have HY := hide (show (∀ i, i < n → okAt s.data.toList i) → unhexS s = (⟨(outs s.data.toList n).toArray⟩, true) by
    intro h; rw [unhexS, if_neg hd, if_neg (by omega), hn2, if_pos h])
  have HN := hide (show ∀ i, i < n → ¬ okAt s.data.toList i → unhexS s = (⟨#[]⟩, false) by
    intro i hi h; rw [unhexS, if_neg hd, if_neg (by omega), hn2, if_neg (fun h' => h (h' i hi))])
  have ho' : (s.size : Int) % 2 = 0 := by omega
  have hn' : (s.size : Int) / 2 = n := by omega
  have HS := hide hn
  clear hn hn2 hd ho
  go_enter Tryz.func173, Tryz.ntmps173
  go_wp2
  clear ho' hn'
  go_loopw [21] (fun i wr => ∃ k : Nat, k ≤ n ∧ i = .int .i64 k ∧ Hid (∀ i, i < k → okAt s.data.toList i) ∧ Lib.IsBuilder 285 5 w.heap.size w.heap.size (Lib.byteCells (outs s.data.toList k)) wr ∧ Below w.heap.size w wr) (fun i _ => n - (intOf i).toNat)
  case atStart =>
    refine ⟨0, Nat.zero_le _, rfl, hide (fun i hi => absurd hi (Nat.not_lt_zero _)), Lib.fresh_isBuilder _ _ w, (Below.refl _ w).alloc (Nat.le_refl _) _⟩
  case round =>
    obtain ⟨k, hk, rfl, hall, hB, hbel⟩ := hrel
    by_cases hlt : k < n
    · have h2k : 2 * k < s.size := by have := HS.out; omega
      have h2k1 : 2 * k + 1 < s.size := by have := HS.out; omega
      have HA := hide (at0_eq s (2 * k) h2k)
      have HA1 := hide (at0_eq s (2 * k + 1) h2k1)
      by_cases hp : dv s[2 * k] < 16
      case neg =>
        have HF := hide (HN.out k hlt (fun h => hp (by have := h.1; rwa [HA.out] at this)))
        go_wp2_with fail
        refine (index_no s[2 * k] wr hp).mono ?_
        rintro e w1 ⟨rfl, hw1⟩
        subst hw1
        go_wp2_with fail
        by_cases hq : dv s[2 * k + 1] < 16
        · refine (index_yes s[2 * k + 1] _ w1 rfl hq).mono ?_
          rintro e w2 ⟨rfl, hw2⟩
          subst hw2
          go_wp2
          go_ret2
          rw [HF.out]
          exact ⟨rfl, hbel⟩
        · refine (index_no s[2 * k + 1] w1 hq).mono ?_
          rintro e w2 ⟨rfl, hw2⟩
          subst hw2
          go_wp2
          go_ret2
          rw [HF.out]
          exact ⟨rfl, hbel⟩
      obtain ⟨p, hpe⟩ : ∃ p, dv s[2 * k] = p := ⟨_, rfl⟩
      have hp' : p < 16 := by omega
      have HP := hide hpe
      go_wp2_with fail
      refine (index_yes s[2 * k] p wr hpe hp').mono ?_
      clear hp hpe
      rintro e w1 ⟨rfl, hw1⟩
      subst hw1
      go_wp2_with fail
      by_cases hq : dv s[2 * k + 1] < 16
      case neg =>
        have HF := hide (HN.out k hlt (fun h => hq (by have := h.2; rwa [HA1.out] at this)))
        refine (index_no s[2 * k + 1] w1 hq).mono ?_
        rintro e w2 ⟨rfl, hw2⟩
        subst hw2
        go_wp2
        go_ret2
        rw [HF.out]
        exact ⟨rfl, hbel⟩
      obtain ⟨q, hqe⟩ : ∃ q, dv s[2 * k + 1] = q := ⟨_, rfl⟩
      have hq' : q < 16 := by omega
      have HQ := hide hqe
      refine (index_yes s[2 * k + 1] q w1 hqe hq').mono ?_
      clear hq hqe
      rintro e w2 ⟨rfl, hw2⟩
      subst hw2
      go_wp2_with fail
      refine (Tryz.Builder_WriteByte w.heap.size w.heap.size _ _ w2 hB (by rw [byteCells_length, outs_length]; omega) hbel.size).mono ?_
      rintro e w3 ⟨rfl, hB1, hb1⟩
      rw [or_nib p q hp' hq'] at hB1
      have hB3 := hide hB1
      clear hB1 hB
      go_wp2
      go_roundw
      case rel =>
        refine ⟨k + 1, by omega, by go_num, ?_, ?_, hbel.trans hb1⟩
        · refine hide fun i hi => ?_
          by_cases hik : i = k
          · subst hik
            exact ⟨by rw [HA.out, HP.out]; exact hp', by rw [HA1.out, HQ.out]; exact hq'⟩
          · exact hall.out i (by omega)
        · rw [outs_succ, byteCells_append, outAt, HA.out, HA1.out, HP.out, HQ.out]
          exact Or.inr hB3.out
      case measure => simp [intOf]; omega
    · go_wp2_with fail
      have hks : k = n := by omega
      subst hks
      refine (Tryz.Builder_String_any w.heap.size w.heap.size _ wr hB hbel.size).mono ?_
      rintro e w1 ⟨rfl, hb1⟩
      go_wp2
      go_ret2
      rw [HY.out hall.out]
      exact ⟨rfl, hbel.trans hb1⟩
end Go.Proofs.YteonoccefpkcgaaGreatDoor.Wf

namespace Go.Proofs.YteonoccefpkcgaaGreatDoor.Wf
open Go.RowKit
set_option linter.unusedVariables false
set_option linter.unusedSimpArgs false

theorem dv_hx (n : Nat) (h : n < 16) : dv (hx n) = n := by
  have all : ∀ m : Fin 16, dv (hx m.val) = m.val := by decide +kernel
  exact all ⟨n, h⟩
theorem hx_dv (c : UInt8) (h : dv c < 16) : hx (dv c) = c := by
  have all : ∀ n : Fin 256, dv (UInt8.ofNat n.val) < 16 → hx (dv (UInt8.ofNat n.val)) = UInt8.ofNat n.val := by decide +kernel
  have := all ⟨c.toNat, c.toNat_lt⟩
  rw [UInt8.ofNat_toNat] at this
  exact this h
theorem hexL_at (l : List UInt8) (i : Nat) (h : i < l.length) : at0 (hexL l) (2 * i) = hx (l[i].toNat / 16) ∧ at0 (hexL l) (2 * i + 1) = hx (l[i].toNat % 16) := by
  induction l generalizing i with
  | nil => simp at h
  | cons a r ih =>
    cases i with
    | zero => exact ⟨rfl, rfl⟩
    | succ i =>
      have := ih i (by simpa using h)
      rw [show 2 * (i + 1) = 2 * i + 1 + 1 by omega]
      exact this
theorem nib_back (c : UInt8) : (16 * (c.toNat / 16) + c.toNat % 16).toUInt8 = c := by
  rw [show 16 * (c.toNat / 16) + c.toNat % 16 = c.toNat by omega]
  exact UInt8.ofNat_toNat
theorem nib_parts (p q : Nat) (hp : p < 16) (hq : q < 16) : (16 * p + q).toUInt8.toNat / 16 = p ∧ (16 * p + q).toUInt8.toNat % 16 = q := by
  have all : ∀ p q : Fin 16, (16 * p.val + q.val).toUInt8.toNat / 16 = p.val ∧ (16 * p.val + q.val).toUInt8.toNat % 16 = q.val := by decide +kernel
  exact all ⟨p, hp⟩ ⟨q, hq⟩

theorem outs_hexL (l : List UInt8) : outs (hexL l) l.length = l := by
  apply List.ext_getElem
  · rw [outs_length]
  · intro i h1 h2
    obtain ⟨ha, hb⟩ := hexL_at l i h2
    simp only [outs, List.getElem_map, List.getElem_range, outAt]
    rw [ha, hb, dv_hx _ (by have := l[i].toNat_lt; omega), dv_hx _ (by omega), nib_back]
theorem toList_data (s : ByteArray) : s.toList = s.data.toList := ByteArray.toList_eq ..

/-- What Hex tells, Unhex reads. -/
theorem unhex_hex (b : ByteArray) : unhexS (hexS b) = (b, true) := by
  by_cases h0 : b.size = 0
  · rw [hexS, if_pos h0, unhexS, if_pos (by rw [toList_data])]
    congr 1
    apply ByteArray.ext
    exact (Array.eq_empty_of_size_eq_zero h0).symm
  · have hl : b.data.toList.length = b.size := Array.length_toList
    have hz : (⟨(hexL b.data.toList).toArray⟩ : ByteArray).size = 2 * b.size := by
      show (hexL b.data.toList).toArray.size = _
      rw [List.size_toArray, hexL_length, hl]
    rw [hexS, if_neg h0, unhexS, if_neg, if_neg (by rw [hz]; omega), if_pos, hz, show 2 * b.size / 2 = b.size by omega]
    · show (_, _) = _
      congr 1
      apply ByteArray.ext
      show (outs (hexL b.data.toList) b.size).toArray = b.data
      rw [← hl, outs_hexL]
    · intro i hi
      rw [hz, show 2 * b.size / 2 = b.size by omega] at hi
      obtain ⟨ha, hb⟩ := hexL_at b.data.toList i (by omega)
      refine ⟨?_, ?_⟩
      · show dv (at0 (hexL b.data.toList) _) < 16
        rw [ha, dv_hx _ (by have := b.data.toList[i].toNat_lt; omega)]
        have := b.data.toList[i].toNat_lt
        omega
      · show dv (at0 (hexL b.data.toList) _) < 16
        rw [hb, dv_hx _ (by omega)]
        omega
    · intro h
      have h2 := congrArg List.length h
      rw [size_toList, hz] at h2
      simp at h2
      omega

theorem hexL_outs (l : List UInt8) (n : Nat) (hl : l.length = 2 * n) (h : ∀ i, i < n → okAt l i) : hexL (outs l n) = l := by
  have hlen : (hexL (outs l n)).length = l.length := by rw [hexL_length, outs_length, hl]
  apply List.ext_getElem hlen
  intro j h1 h2
  have key : ∀ j, j < l.length → at0 (hexL (outs l n)) j = at0 l j := by
    intro j hj
    have hi : j / 2 < (outs l n).length := by rw [outs_length]; omega
    obtain ⟨ha, hb⟩ := hexL_at (outs l n) (j / 2) hi
    have ho := h (j / 2) (by omega)
    have he : (outs l n)[j / 2] = (16 * dv (at0 l (2 * (j / 2))) + dv (at0 l (2 * (j / 2) + 1))).toUInt8 := by simp [outs, outAt]
    have hp := nib_parts _ _ ho.1 ho.2
    rw [he, hp.1, hx_dv _ ho.1] at ha
    rw [he, hp.2, hx_dv _ ho.2] at hb
    rcases Nat.mod_two_eq_zero_or_one j with h0 | h0
    · rwa [show 2 * (j / 2) = j by omega] at ha
    · rwa [show 2 * (j / 2) + 1 = j by omega] at hb
  have := key j h2
  rw [at0, at0, List.getD_eq_getElem?_getD, List.getD_eq_getElem?_getD, List.getElem?_eq_getElem h1, List.getElem?_eq_getElem h2] at this
  exact this

/-- What Unhex reads, Hex tells. -/
theorem hex_unhex (s : ByteArray) (h : (unhexS s).2 = true) : hexS (unhexS s).1 = s := by
  unfold unhexS at h ⊢
  split
  · rename_i h1
    apply ByteArray.ext
    rw [toList_data] at h1
    exact (Array.toList_inj.1 h1).symm
  · rename_i h1
    rw [if_neg h1] at h
    split
    · rename_i h2
      rw [if_pos h2] at h
      cases h
    · rename_i h2
      rw [if_neg h2] at h
      split
      · rename_i h3
        have hl : s.data.toList.length = s.size := Array.length_toList
        have hz : (⟨(outs s.data.toList (s.size / 2)).toArray⟩ : ByteArray).size = s.size / 2 := by
          show (outs s.data.toList (s.size / 2)).toArray.size = _
          rw [List.size_toArray, outs_length]
        show hexS ⟨(outs s.data.toList (s.size / 2)).toArray⟩ = s
        rw [hexS, if_neg (by rw [hz]; omega)]
        apply ByteArray.ext
        show (hexL (outs s.data.toList (s.size / 2)).toArray.toList).toArray = s.data
        rw [hexL_outs _ _ (by rw [hl]; omega) h3]
      · rename_i h3
        rw [if_neg h3] at h
        cases h
end Go.Proofs.YteonoccefpkcgaaGreatDoor.Wf

namespace Go.Proofs.YteonoccefpkcgaaGreatDoor.Wf
open Go.RowKit
set_option linter.unusedVariables false
set_option linter.unusedSimpArgs false

end Go.Proofs.YteonoccefpkcgaaGreatDoor.Wf
