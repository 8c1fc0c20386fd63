/- The hex words: back and forth. -/
import Derived.Test.YteiinkhdgppgbaaGreatDoorWordB
namespace Go.Proofs.YteiinkhdgppgbaaGreatDoor
open Go.RowKit
set_option linter.unusedVariables false
set_option linter.unusedSimpArgs false

theorem dv_hx (n : Nat) (h : n < 16) : dv (hx n) = n := by
  have all : ∀ m : Fin 16, dv (hx m.val) = m.val := by decide +kernel
  exact all ⟨n, h⟩
theorem hx_dv (c : UInt8) (h : dv c < 16) : hx (dv c) = c := by
  have all : ∀ n : Fin 256, dv (UInt8.ofNat n.val) < 16 → hx (dv (UInt8.ofNat n.val)) = UInt8.ofNat n.val := by decide +kernel
  have := all ⟨c.toNat, c.toNat_lt⟩
  rw [UInt8.ofNat_toNat] at this
  exact this h
theorem hexL_at (l : List UInt8) (i : Nat) (h : i < l.length) : at0 (hexL l) (2 * i) = hx (l[i].toNat / 16) ∧ at0 (hexL l) (2 * i + 1) = hx (l[i].toNat % 16) := by
  induction l generalizing i with
  | nil => simp at h
  | cons a r ih =>
    cases i with
    | zero => exact ⟨rfl, rfl⟩
    | succ i =>
      have := ih i (by simpa using h)
      rw [show 2 * (i + 1) = 2 * i + 1 + 1 by omega]
      exact this
theorem nib_back (c : UInt8) : (16 * (c.toNat / 16) + c.toNat % 16).toUInt8 = c := by
  rw [show 16 * (c.toNat / 16) + c.toNat % 16 = c.toNat by omega]
  exact UInt8.ofNat_toNat
theorem nib_parts (p q : Nat) (hp : p < 16) (hq : q < 16) : (16 * p + q).toUInt8.toNat / 16 = p ∧ (16 * p + q).toUInt8.toNat % 16 = q := by
  have all : ∀ p q : Fin 16, (16 * p.val + q.val).toUInt8.toNat / 16 = p.val ∧ (16 * p.val + q.val).toUInt8.toNat % 16 = q.val := by decide +kernel
  exact all ⟨p, hp⟩ ⟨q, hq⟩

theorem outs_hexL (l : List UInt8) : outs (hexL l) l.length = l := by
  apply List.ext_getElem
  · rw [outs_length]
  · intro i h1 h2
    obtain ⟨ha, hb⟩ := hexL_at l i h2
    simp only [outs, List.getElem_map, List.getElem_range, outAt]
    rw [ha, hb, dv_hx _ (by have := l[i].toNat_lt; omega), dv_hx _ (by omega), nib_back]
theorem toList_data (s : ByteArray) : s.toList = s.data.toList := ByteArray.toList_eq ..

/-- What Hex tells, Unhex reads. -/
theorem unhex_hex (b : ByteArray) : unhexS (hexS b) = (b, true) := by
  by_cases h0 : b.size = 0
  · rw [hexS, if_pos h0, unhexS, if_pos (by rw [toList_data])]
    congr 1
    apply ByteArray.ext
    exact (Array.eq_empty_of_size_eq_zero h0).symm
  · have hl : b.data.toList.length = b.size := Array.length_toList
    have hz : (⟨(hexL b.data.toList).toArray⟩ : ByteArray).size = 2 * b.size := by
      show (hexL b.data.toList).toArray.size = _
      rw [List.size_toArray, hexL_length, hl]
    rw [hexS, if_neg h0, unhexS, if_neg, if_neg (by rw [hz]; omega), if_pos, hz, show 2 * b.size / 2 = b.size by omega]
    · show (_, _) = _
      congr 1
      apply ByteArray.ext
      show (outs (hexL b.data.toList) b.size).toArray = b.data
      rw [← hl, outs_hexL]
    · intro i hi
      rw [hz, show 2 * b.size / 2 = b.size by omega] at hi
      obtain ⟨ha, hb⟩ := hexL_at b.data.toList i (by omega)
      refine ⟨?_, ?_⟩
      · show dv (at0 (hexL b.data.toList) _) < 16
        rw [ha, dv_hx _ (by have := b.data.toList[i].toNat_lt; omega)]
        have := b.data.toList[i].toNat_lt
        omega
      · show dv (at0 (hexL b.data.toList) _) < 16
        rw [hb, dv_hx _ (by omega)]
        omega
    · intro h
      have h2 := congrArg List.length h
      rw [size_toList, hz] at h2
      simp at h2
      omega

theorem hexL_outs (l : List UInt8) (n : Nat) (hl : l.length = 2 * n) (h : ∀ i, i < n → okAt l i) : hexL (outs l n) = l := by
  have hlen : (hexL (outs l n)).length = l.length := by rw [hexL_length, outs_length, hl]
  apply List.ext_getElem hlen
  intro j h1 h2
  have key : ∀ j, j < l.length → at0 (hexL (outs l n)) j = at0 l j := by
    intro j hj
    have hi : j / 2 < (outs l n).length := by rw [outs_length]; omega
    obtain ⟨ha, hb⟩ := hexL_at (outs l n) (j / 2) hi
    have ho := h (j / 2) (by omega)
    have he : (outs l n)[j / 2] = (16 * dv (at0 l (2 * (j / 2))) + dv (at0 l (2 * (j / 2) + 1))).toUInt8 := by simp [outs, outAt]
    have hp := nib_parts _ _ ho.1 ho.2
    rw [he, hp.1, hx_dv _ ho.1] at ha
    rw [he, hp.2, hx_dv _ ho.2] at hb
    rcases Nat.mod_two_eq_zero_or_one j with h0 | h0
    · rwa [show 2 * (j / 2) = j by omega] at ha
    · rwa [show 2 * (j / 2) + 1 = j by omega] at hb
  have := key j h2
  rw [at0, at0, List.getD_eq_getElem?_getD, List.getD_eq_getElem?_getD, List.getElem?_eq_getElem h1, List.getElem?_eq_getElem h2] at this
  exact this

/-- What Unhex reads, Hex tells. -/
theorem hex_unhex (s : ByteArray) (h : (unhexS s).2 = true) : hexS (unhexS s).1 = s := by
  unfold unhexS at h ⊢
  split
  · rename_i h1
    apply ByteArray.ext
    rw [toList_data] at h1
    exact (Array.toList_inj.1 h1).symm
  · rename_i h1
    rw [if_neg h1] at h
    split
    · rename_i h2
      rw [if_pos h2] at h
      cases h
    · rename_i h2
      rw [if_neg h2] at h
      split
      · rename_i h3
        have hl : s.data.toList.length = s.size := Array.length_toList
        have hz : (⟨(outs s.data.toList (s.size / 2)).toArray⟩ : ByteArray).size = s.size / 2 := by
          show (outs s.data.toList (s.size / 2)).toArray.size = _
          rw [List.size_toArray, outs_length]
        show hexS ⟨(outs s.data.toList (s.size / 2)).toArray⟩ = s
        rw [hexS, if_neg (by rw [hz]; omega)]
        apply ByteArray.ext
        show (hexL (outs s.data.toList (s.size / 2)).toArray.toList).toArray = s.data
        rw [hexL_outs _ _ (by rw [hl]; omega) h3]
      · rename_i h3
        rw [if_neg h3] at h
        cases h
end Go.Proofs.YteiinkhdgppgbaaGreatDoor
