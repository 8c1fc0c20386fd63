/- Contracts of package mark: flip, all, Len, at, At, Id, Mark, Bytes. -/
import Derived.Test.YtnklgfolllfghaaMkA
namespace Go.Proofs.Ytnklgfolllfghaa.Mk
open Go.RowKit Go.Maps
set_option linter.unusedVariables false
set_option linter.unusedSimpArgs false

theorem flip_any (n : Int) (w : World) (h : wfI n) : Calls Try.prog 26 #[.int .i64 n] w fun e w' => e = .returned (.int .i64 (-1 - n)) ∧ w' = w := by
  obtain ⟨h1, h2⟩ := h
  go_enter Try.func26, Try.ntmps26
  go_wp2
  go_ret
  exact ⟨rfl, rfl⟩

section
variable {v : Value} {ao : Option Addr} {cap : Nat} {L : List (Int × ByteArray)} {w : World}
theorem all_any (h : StV w v ao cap L) : Calls Try.prog 27 #[v] w fun e w' => e = .returned (.slice ao L.length cap) ∧ w' = w := by
  rcases h.is with ⟨rfl, rfl, rfl, rfl⟩ | ⟨b, mb, rfl, h2, h3, h4⟩
  · clear h
    go_enter Try.func27, Try.ntmps27
    go_wp2
    go_ret
    exact ⟨rfl, rfl⟩
  · clear h h4
    go_enter Try.func27, Try.ntmps27
    go_wp2
    go_ret
    exact ⟨rfl, rfl⟩
theorem len_any (h : StV w v ao cap L) : Calls Try.prog 15 #[v] w fun e w' => e = .returned (.int .i64 L.length) ∧ w' = w := by
  have K := all_any h
  clear h
  go_enter Try.func15, Try.ntmps15
  go_wp2_with fail
  refine K.mono ?_
  rintro e w' ⟨rfl, rfl⟩
  go_wp2
  go_ret
  exact ⟨rfl, rfl⟩
end
theorem beqS (a b : ByteArray) : (a.toList == b.toList) = decide (a = b) := by
  rw [Bool.eq_iff_iff]
  simp only [beq_iff_eq, decide_eq_true_eq]
  constructor
  · intro h
    rw [ByteArray.toList_eq, ByteArray.toList_eq] at h
    exact ByteArray.ext (Array.ext' h)
  · intro h; rw [h]
theorem bgn_size (s t : ByteArray) : bgn s.data.toList t.data.toList = decide (t.size ≤ s.size ∧ s.extract 0 t.size = t) := by
  unfold bgn
  apply decide_eq_decide.2
  have e1 : t.data.toList.length = t.size := Array.length_toList
  have e2 : s.data.toList.length = s.size := Array.length_toList
  rw [e1, e2]
  constructor
  · rintro ⟨h1, h2⟩
    refine ⟨h1, ?_⟩
    apply ByteArray.ext
    apply Array.ext'
    rw [← h2]
    simp
  · rintro ⟨h1, h2⟩
    refine ⟨h1, ?_⟩
    have : (s.extract 0 t.size).data.toList = t.data.toList := by rw [h2]
    simpa using this
theorem hp_any (s t : ByteArray) (w : World) (hs : s.size ≤ 1000000) (ht : t.size ≤ 1000000) : Calls Try.prog 33 #[.string s, .string t] w fun e w' => e = .returned (.bool (bgn s.data.toList t.data.toList)) ∧ w' = w := by
  have hb := bgn_size s t
  generalize bgn s.data.toList t.data.toList = z at hb ⊢
  have HB := hide hb
  clear hb
  by_cases h : t.size ≤ s.size
  · go_enter Try.func33, Try.ntmps33
    go_wp2
    go_ret
    refine ⟨?_, rfl⟩
    rw [HB.out, decide_eq_decide.2 (show (t.size ≤ s.size ∧ s.extract 0 t.size = t) ↔ s.extract 0 t.size = t from ⟨fun h => h.2, fun e => ⟨h, e⟩⟩), ← beqS]
    rfl
  · go_enter Try.func33, Try.ntmps33
    go_wp2
    go_ret
    refine ⟨?_, rfl⟩
    rw [HB.out, decide_eq_false (fun e => h e.1)]
    rfl
theorem pre_any (s t : ByteArray) (w : World) (hs : s.size ≤ 1000000) (ht : t.size ≤ 1000000) : Calls Try.prog 28 #[.string s, .string t] w fun e w' => e = .returned (.bool (bgn s.data.toList t.data.toList)) ∧ w' = w := by
  have K := hp_any s t w hs ht
  go_enter Try.func28, Try.ntmps28
  go_wp2_with fail
  refine K.mono ?_
  rintro e w' ⟨rfl, rfl⟩
  go_wp2
  go_ret
  exact ⟨rfl, rfl⟩

/-- How long the longest one so far is. -/
def bl (T : List (List UInt8)) (s : List UInt8) (k : Nat) : Nat := if bst T s k = 0 then 0 else (mT T (bst T s k - 1)).length
theorem bst_yes {T : List (List UInt8)} {s : List UInt8} {k : Nat} (h1 : bl T s k < (mT T k).length) (h2 : bgn s (mT T k) = true) : bst T s (k + 1) = k + 1 ∧ bl T s (k + 1) = (mT T k).length := by
  have e : bst T s (k + 1) = k + 1 := by
    rw [bst, if_pos]
    refine ⟨h2, ?_⟩
    unfold bl at h1
    split at h1
    · exact Or.inl ‹_›
    · exact Or.inr h1
  refine ⟨e, ?_⟩
  unfold bl
  rw [e, if_neg (by omega)]
  rfl
theorem bst_no {T : List (List UInt8)} {s : List UInt8} {k : Nat} (hne : 0 < (mT T k).length) (h : ¬ (bl T s k < (mT T k).length ∧ bgn s (mT T k) = true)) : bst T s (k + 1) = bst T s k ∧ bl T s (k + 1) = bl T s k := by
  have e : bst T s (k + 1) = bst T s k := by
    rw [bst, if_neg]
    rintro ⟨h2, h3⟩
    refine h ⟨?_, h2⟩
    unfold bl
    rcases h3 with h3 | h3
    · rw [if_pos h3]; exact hne
    · split
      · exact hne
      · exact h3
  refine ⟨e, ?_⟩
  unfold bl
  rw [e]
theorem bl_pos {T : List (List UInt8)} {s : List UInt8} {k : Nat} (hne : ∀ i, i < T.length → 0 < (mT T i).length) (hk : k ≤ T.length) : 0 < bl T s k ↔ 0 < bst T s k := by
  unfold bl
  split
  · omega
  · have := hne (bst T s k - 1) (by have := bst_le T s k; omega)
    omega

/-- Texts as they may stand in a set. -/
structure TxOk (L : List (Int × ByteArray)) : Prop where
  few : L.length ≤ 1000
  ne : ∀ i, i < L.length → 0 < (gS L i).2.size
  le : ∀ i, i < L.length → (gS L i).2.size ≤ 1000
  id : ∀ i, i < L.length → wfI (gS L i).1
theorem TxOk.nil : TxOk [] := ⟨by simp, by simp, by simp, by simp⟩
theorem TxOk.pos {L : List (Int × ByteArray)} (h : TxOk L) : ∀ i, i < (tL L).length → 0 < (mT (tL L) i).length := fun i hi => by
  rw [tL_len] at hi
  rw [mT_len L hi]
  exact h.ne i hi

section
variable {v : Value} {ao : Option Addr} {cap : Nat} {L : List (Int × ByteArray)} {w : World}
set_option maxRecDepth 20000 in
set_option maxHeartbeats 4000000 in
theorem at_any (h : StV w v ao cap L) (hk : TxOk L) (s : ByteArray) (hs : s.size ≤ 100000) : Calls Try.prog 16 #[v, .string s] w fun e w' => e = .returned (.tuple #[.int .i64 (-(atM (tL L) s.data.toList : Int)), .bool (decide (0 < atM (tL L) s.data.toList))]) ∧ Below w.heap.size w w' := by
  have K := all_any h
  have hfew := hk.few
  have HR := hide h.rd
  have HK := hide hk
  clear h hk
  go_enter Try.func16, Try.ntmps16
  go_wp2_with fail
  refine K.mono ?_
  rintro e w' ⟨rfl, rfl⟩
  clear K
  go_wp2
  go_loopw [6, 7, 13] (fun a b i wr => ∃ (k m ml : Nat), a = .int .i64 (-(m : Int)) ∧ b = .int .i64 ml ∧ i = .int .i64 k ∧ k ≤ L.length ∧ Hid (m = bst (tL L) s.data.toList k) ∧ Hid (ml = bl (tL L) s.data.toList k) ∧ ml ≤ 1000 ∧ Hid (Below w'.heap.size w' wr)) (fun _ _ i _ => L.length - (intOf i).toNat)
  case atStart => exact ⟨0, 0, 0, rfl, rfl, rfl, Nat.zero_le _, hide rfl, hide rfl, by omega, hide (Below.refl _ _)⟩
  case round =>
    obtain ⟨k, m, ml, rfl, rfl, rfl, hkn, HM, HL, hml, HB⟩ := hrel
    by_cases hlt : k < L.length
    · have hk0 : (0 : Int) ≤ (k : Int) := by omega
      have hk1 : (k : Int) < (L.length : Int) := by omega
      have hxs := HK.out.le k hlt
      have hT := mT_tL L hlt
      have hTl := mT_len L hlt
      have hne := HK.out.ne k hlt
      have h1 := @bst_yes (tL L) s.data.toList k
      have h2 := @bst_no (tL L) s.data.toList k
      rw [hTl, hT, ← HL.out] at h1 h2
      rw [← HM.out] at h2
      have H1 := hide h1
      have H2 := hide (h2 hne)
      clear h1 h2 hT hTl
      rcases HR.out.2 with h0 | ⟨b, off, rfl, hbl0, hc⟩
      · omega
      have c0 := (HB.out.cell (p := ⟨b, _, none⟩) hbl0).trans (hc k hlt).1
      have c1 := (HB.out.cell (p := ⟨b, _, none⟩) hbl0).trans (hc k hlt).2
      have hbl := Nat.lt_of_lt_of_le hbl0 HB.out.size
      clear hc
      have HB2 : Hid (Below w'.heap.size w' (wr.alloc (.cells #[.int .i64 (gS L k).1, .string (gS L k).2] 34))) := hide (HB.out.alloc HB.out.size _)
      generalize (gS L k).1 = xi at *
      generalize (gS L k).2 = x at *
      by_cases hlen : ml < x.size
      · have KP := fun w => pre_any s x w (by omega) (by omega)
        generalize hz : bgn s.data.toList x.data.toList = z at *
        have HZ := hide hz
        clear hz
        go_wp2_with fail
        refine (KP _).mono ?_
        rintro e w2 ⟨rfl, rfl⟩
        cases z with
        | true =>
          have KF : ∀ w, Calls Try.prog 26 #[.int .i64 k] w fun e w' => e = .returned (.int .i64 (-1 - k)) ∧ w' = w := fun w => flip_any k w ⟨by omega, by omega⟩
          have d1 : (wr.alloc (.cells #[.int .i64 xi, .string x] 34)).cell? ⟨wr.heap.size, 1, none⟩ = some (.string x) := by simp
          have hbs : wr.heap.size ≤ wr.heap.size := Nat.le_refl _
          have HS := hide (show b < (wr.alloc (.cells #[.int .i64 xi, .string x] 34)).heap.size by simp; omega)
          go_wp2
          generalize hgw : wr.alloc (.cells #[.int .i64 xi, .string x] 34) = wa at *
          clear hgw hbs
          go_quiet ((go_at_call 26; exact Calls.quiet_of_same (KF _)))
          have HB3 := hide (lowD HB2.out nq)
          clear d1 HB2 KP KF
          generalize wa.drewN nq = wd at *
          go_wp2
          refine ⟨⟨k + 1, k + 1, x.size, by go_num, rfl, by go_num, by omega, hide ?_, hide ?_, hxs, HB3⟩, by simp [intOf]; omega⟩
          · rw [(H1.out hlen trivial).1]
          · rw [(H1.out hlen trivial).2]
        | false =>
          go_wp2
          refine ⟨⟨k + 1, m, ml, rfl, rfl, by go_num, by omega, hide ?_, hide ?_, hml, HB2⟩, by simp [intOf]; omega⟩
          · rw [(H2.out (fun e => by cases e.2)).1]
          · rw [(H2.out (fun e => by cases e.2)).2]
      · go_wp2
        refine ⟨⟨k + 1, m, ml, rfl, rfl, by go_num, by omega, hide ?_, hide ?_, hml, HB2⟩, by simp [intOf]; omega⟩
        · rw [(H2.out (fun e => hlen e.1)).1]
        · rw [(H2.out (fun e => hlen e.1)).2]
    · obtain rfl : k = L.length := by omega
      have hp := bl_pos (T := tL L) (s := s.data.toList) HK.out.pos (k := L.length) (by rw [tL_len]; exact Nat.le_refl _)
      rw [← HL.out, ← HM.out] at hp
      have e : atM (tL L) s.data.toList = m := by rw [HM.out, atM, tL_len]
      have HP := hide hp
      have HE := hide e
      clear hp e
      go_wp2
      go_ret2
      refine ⟨?_, HB.out⟩
      have e2 : decide (0 < m) = decide (0 < ml) := decide_eq_decide.2 HP.out.symm
      rw [HE.out, e2]
      simp
end
end Go.Proofs.Ytnklgfolllfghaa.Mk
