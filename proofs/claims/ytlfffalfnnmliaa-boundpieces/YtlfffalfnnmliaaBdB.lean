/- Contracts of package bound: end, Whole, Between, Pieces. -/
import Derived.Test.YtlfffalfnnmliaaBdA
import Derived.Test.YtlfffalfnnmliaaWordN
import Derived.Deep.QuietTactic
namespace Go.Proofs.Ytlfffalfnnmliaa
open Go.RowKit
set_option linter.unusedVariables false
set_option linter.unusedSimpArgs false

theorem at_getD (s : ByteArray) (k : Nat) (h : k < s.size) : s.data.toList.getD k 0 = s[k] := by
  have hl : k < s.data.toList.length := by simpa using h
  rw [List.getD_eq_getElem?_getD, List.getElem?_eq_getElem hl]
  rfl
theorem qa_at (q : Int → Int → Bool) (s : ByteArray) (k m : Nat) (e : k + 1 = m) (h : m < s.size) : q ((s[k]'(by omega)).toNat : Int) ((s[m]).toNat : Int) = qa q s.data.toList m := by
  subst e
  unfold qa
  rw [show k + 1 - 1 = k by omega, at_getD s k (by omega), at_getD s (k + 1) h]

/-- Only drawn. -/
def Drn (w w' : World) : Prop := ∃ m, w' = w.drewN m
theorem Drn.below {w w' : World} (h : Drn w w') : Below w.heap.size w w' := by
  obtain ⟨m, rfl⟩ := h
  exact ⟨rfl, rfl, rfl, Nat.le_refl _, fun _ _ => rfl⟩
theorem Drn.refl (w : World) : Drn w w := ⟨0, rfl⟩
theorem Drn.more {w w' : World} (h : Drn w w') (n : Nat) : Drn w (w'.drewN n) := by
  obtain ⟨m, rfl⟩ := h
  exact ⟨m + n, by rw [World.drewN_drewN]⟩

/-- The first piece's end. -/
structure EndP (q : Int → Int → Bool) (s : List UInt8) (k : Nat) : Prop where
  le : k ≤ s.length
  pos : 0 < s.length → 0 < k
  no : ∀ j, 0 < j → j < k → qa q s j = false
  yes : k < s.length → qa q s k = true

set_option maxRecDepth 20000 in
set_option maxHeartbeats 4000000 in
theorem end_dr {pv : Value} {q : Int → Int → Bool} {w : World} (hT : Tb pv q w) (s : ByteArray) (hs : s.size ≤ 9223372036854775806) :
    Calls Try.prog 50 #[pv, .string s] w fun e w' => (∃ k : Nat, e = .returned (.int .i64 k) ∧ EndP q s.data.toList k) ∧ Drn w w' := by
  have HT := hide hT
  clear hT
  have hsl : s.data.toList.length = s.size := by simp
  have HSL := hide hsl
  clear hsl
  go_enter Try.func50, Try.ntmps50
  go_wp2
  go_loopw [5] (fun i wr => ∃ (m : Nat), i = .int .i64 (m : Int) ∧ 1 ≤ m ∧ (m = 1 ∨ m ≤ s.size) ∧ Hid (∀ j, 0 < j → j < m → qa q s.data.toList j = false) ∧ Hid (Drn w wr)) (fun i _ => s.size - (intOf i).toNat)
  case atStart => exact ⟨1, by go_num, Nat.le_refl _, Or.inl rfl, hide (fun j h1 h2 => by omega), hide (Drn.refl _)⟩
  case round =>
    obtain ⟨m, rfl, hm1, hm, HN, HB⟩ := hrel
    by_cases hlt : m < s.size
    · obtain ⟨k, hkm⟩ : ∃ k, k + 1 = m := ⟨m - 1, by omega⟩
      have hks : k < s.size := by omega
      have HQ : Hid (q (s[k].toNat : Int) (s[m].toNat : Int) = qa q s.data.toList m) := hide (qa_at q s k m hkm hlt)
      have HC := hide (fun (n : Nat) => cutsT ((HT.out.kept HB.out.below).drewN n) s[k] s[m])
      have hk2 : (k : Int) < (s.size : Int) := by omega
      have hk0 : (0 : Int) ≤ (k : Int) := by omega
      have hm0 : (0 : Int) ≤ (m : Int) := by omega
      have hm2 : (m : Int) < (s.size : Int) := by omega
      have hwr : IntKind.i64.wrap ((m : Int) - 1) = (k : Int) := by rw [IntKind.wrap_i64]; omega
      have HKM := hide hkm
      replace hkm := True.intro
      go_wp2
      go_quiet ((go_at_call 30; exact Calls.quiet_of_same (HC.out _)))
      have HD : Hid (Drn w (wr.drewN nq)) := hide (HB.out.more nq)
      clear HC
      generalize wr.drewN nq = wd at *
      rw [HQ.out]
      by_cases hq : qa q s.data.toList m = true
      · have HQ2 := hide hq
        rw [hq]
        clear hq HQ
        go_wp2
        go_ret
        exact ⟨⟨m, rfl, by rw [HSL.out]; omega, fun _ => by omega, HN.out, fun _ => HQ2.out⟩, HD.out⟩
      · have hq2 : qa q s.data.toList m = false := by simpa using hq
        have HQ2 := hide hq2
        rw [hq2]
        clear hq hq2 HQ
        go_wp2
        go_roundw
        case rel => exact ⟨m + 1, by go_num, by omega, by omega, hide (fun j h1 h2 => by by_cases e : j = m; · { rw [e]; exact HQ2.out }; · { exact HN.out j h1 (by omega) }), HD⟩
        case measure => simp [intOf]; omega
    · have hm2 : ¬ (m : Int) < (s.size : Int) := by omega
      go_wp2
      go_ret
      refine ⟨⟨s.size, rfl, by rw [HSL.out]; exact Nat.le_refl _, fun h => by rw [HSL.out] at h; exact h, fun j h1 h2 => HN.out j h1 (by omega), fun h => by rw [HSL.out] at h; omega⟩, HB.out⟩

theorem end_any {pv : Value} {q : Int → Int → Bool} {w : World} (hT : Tb pv q w) (s : ByteArray) (hs : s.size ≤ 9223372036854775806) :
    Calls Try.prog 50 #[pv, .string s] w fun e w' => (∃ k : Nat, e = .returned (.int .i64 k) ∧ EndP q s.data.toList k) ∧ Below w.heap.size w w' :=
  (end_dr hT s hs).mono fun _ _ h => ⟨h.1, h.2.below⟩

theorem whole_dr {pv : Value} {q : Int → Int → Bool} {w : World} (hT : Tb pv q w) (s : ByteArray) (hs : s.size ≤ 9223372036854775806) :
    Calls Try.prog 34 #[pv, .string s] w fun e w' => e = .returned (.bool (decide ((pcs q s.data.toList).length < 2))) ∧ Drn w w' := by
  have HE := hide (end_dr hT s hs)
  have hsl : s.data.toList.length = s.size := by simp
  have HSL := hide hsl
  clear hT hsl
  go_enter Try.func34, Try.ntmps34
  go_wp2_with fail
  refine (unhide HE).mono ?_
  rintro e w1 ⟨⟨k, rfl, hk⟩, hb⟩
  have HK := hide hk
  have hle : k ≤ s.size := by have := hk.le; rw [HSL.out] at this; exact this
  have hiff : (pcs q s.data.toList).length < 2 ↔ k = s.size := by
    rw [pcs_len]
    by_cases h0 : s.data.toList.length = 0
    · rw [h0]
      simp only [cnt]
      constructor
      · intro _; rw [HSL.out] at h0; omega
      · intro _; omega
    · rw [cnt_one _ _ (by omega)]
      constructor
      · intro h
        rcases Nat.lt_or_ge k s.size with h1 | h1
        · have h2 := hk.yes (by rw [HSL.out]; exact h1)
          rw [h k (hk.pos (by omega)) (by rw [HSL.out]; exact h1)] at h2
          cases h2
        · omega
      · intro h
        have := hk.no
        rw [h, ← HSL.out] at this
        exact this
  have HI := hide hiff
  clear hk hiff HE
  by_cases e : k = s.size
  · have HT := hide (HI.out.2 e)
    have hd : ((k : Int) == (s.size : Int)) = true := by simp; omega
    go_wp2
    go_ret
    exact ⟨by simp [HT.out, e], hb⟩
  · have HT := hide (fun h => e (HI.out.1 h))
    have hd : ((k : Int) == (s.size : Int)) = false := by simp; omega
    go_wp2
    go_ret
    exact ⟨by rw [decide_eq_false HT.out]; first | rfl | simp [e], hb⟩

theorem whole_any {pv : Value} {q : Int → Int → Bool} {w : World} (hT : Tb pv q w) (s : ByteArray) (hs : s.size ≤ 9223372036854775806) :
    Calls Try.prog 34 #[pv, .string s] w fun e w' => e = .returned (.bool (decide ((pcs q s.data.toList).length < 2))) ∧ Below w.heap.size w w' :=
  (whole_dr hT s hs).mono fun _ _ h => ⟨h.1, h.2.below⟩

/-- Is it cut between two texts? -/
def btw (q : Int → Int → Bool) (a b : List UInt8) : Bool := decide (a ≠ []) && (decide (b ≠ []) && q ((a.getLastD 0).toNat : Int) ((b.headD 0).toNat : Int))
theorem ba_size (s : ByteArray) : s.toList.length = s.size := by rw [ByteArray.toList_eq, Array.length_toList]; rfl
theorem ba_ne {s : ByteArray} (h : 0 < s.size) : s.toList.isEmpty = false := by
  rw [← Bool.not_eq_true, List.isEmpty_iff_length_eq_zero, ba_size]
  omega
theorem ba_nil {a : ByteArray} (h : a.size = 0) : a = ⟨#[]⟩ := by
  obtain ⟨l⟩ := a
  have : l.size = 0 := h
  rw [Array.size_eq_zero_iff.1 this]
set_option maxRecDepth 20000 in
set_option maxHeartbeats 4000000 in
theorem between_dr {pv : Value} {q : Int → Int → Bool} {w : World} (hT : Tb pv q w) (a b : ByteArray) (ha : a.size ≤ 9223372036854775806) :
    Calls Try.prog 35 #[pv, .string a, .string b] w fun e w' => e = .returned (.bool (btw q a.data.toList b.data.toList)) ∧ Drn w w' := by
  have HT := hide hT
  clear hT
  by_cases h0 : a.size = 0
  · obtain rfl := ba_nil h0
    have hr : btw q (⟨#[]⟩ : ByteArray).data.toList b.data.toList = false := by simp [btw]
    rw [hr]
    go_enter Try.func35, Try.ntmps35
    go_wp2
    go_quiet (fail)
    have HD : Hid (Drn w (w.drewN nq)) := hide ⟨nq, rfl⟩
    generalize w.drewN nq = wd at *
    go_wp2
    go_ret
    exact ⟨rfl, HD.out⟩
  by_cases h1 : b.size = 0
  · obtain rfl := ba_nil h1
    have hr : btw q a.data.toList (⟨#[]⟩ : ByteArray).data.toList = false := by simp [btw]
    rw [hr]
    have hne := ba_ne (show 0 < a.size by omega)
    go_enter Try.func35, Try.ntmps35
    go_wp2
    go_quiet (fail)
    have HD : Hid (Drn w (w.drewN nq)) := hide ⟨nq, rfl⟩
    generalize w.drewN nq = wd at *
    go_wp2
    go_ret
    exact ⟨rfl, HD.out⟩
  obtain ⟨k, hkm⟩ : ∃ k, k + 1 = a.size := ⟨a.size - 1, by omega⟩
  have hks : k < a.size := by omega
  have hb0 : 0 < b.size := by omega
  have hr : btw q a.data.toList b.data.toList = q (a[k].toNat : Int) (b[0].toNat : Int) := by
    have e1 : a.data.toList.getLastD 0 = a[k] := by
      rw [← at_getD a k hks, List.getLastD_eq_getLast?, List.getLast?_eq_getElem?, List.getD_eq_getElem?_getD]
      congr 2
      simp
      omega
    have e2 : b.data.toList.headD 0 = b[0] := by
      rw [← at_getD b 0 hb0, List.getD_eq_getElem?_getD, List.headD_eq_head?_getD, List.head?_eq_getElem?]
    have e3 : a.data.toList ≠ [] := fun e => by have : a.data.toList.length = 0 := by rw [e]; rfl
                                                have h2 : a.data.toList.length = a.size := by simp
                                                omega
    have e4 : b.data.toList ≠ [] := fun e => by have : b.data.toList.length = 0 := by rw [e]; rfl
                                                have h2 : b.data.toList.length = b.size := by simp
                                                omega
    unfold btw
    rw [e1, e2, decide_eq_true e3, decide_eq_true e4]
    rfl
  rw [hr]
  have HC := hide (fun (n : Nat) => cutsT (HT.out.drewN n) a[k] b[0])
  have hne := ba_ne (show 0 < a.size by omega)
  have hne2 := ba_ne hb0
  have hk2 : (k : Int) < (a.size : Int) := by omega
  have hk0 : (0 : Int) ≤ (k : Int) := by omega
  have hb2 : (0 : Int) < (b.size : Int) := by omega
  have hwr : IntKind.i64.wrap ((a.size : Int) - 1) = (k : Int) := by rw [IntKind.wrap_i64]; omega
  clear hr hkm
  go_enter Try.func35, Try.ntmps35
  go_wp2
  go_quiet ((go_at_call 30; exact Calls.quiet_of_same (HC.out _)))
  have HD : Hid (Drn w (w.drewN nq)) := hide ⟨nq, rfl⟩
  clear HC
  generalize w.drewN nq = wd at *
  go_wp2
  go_ret
  exact ⟨rfl, HD.out⟩

theorem between_any {pv : Value} {q : Int → Int → Bool} {w : World} (hT : Tb pv q w) (a b : ByteArray) (ha : a.size ≤ 9223372036854775806) :
    Calls Try.prog 35 #[pv, .string a, .string b] w fun e w' => e = .returned (.bool (btw q a.data.toList b.data.toList)) ∧ Below w.heap.size w w' :=
  (between_dr hT a b ha).mono fun _ _ h => ⟨h.1, h.2.below⟩

end Go.Proofs.Ytlfffalfnnmliaa
