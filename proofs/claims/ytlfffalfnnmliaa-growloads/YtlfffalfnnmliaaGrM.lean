/- Tables of tokens that are told by their bytes: the plain mathematics. -/
import Derived.Test.YtlfffalfnnmliaaChP
import Derived.Test.YtlfffalfnnmliaaTkGr
namespace Go.Proofs.Ytlfffalfnnmliaa
open Go.RowKit Go.Maps
set_option linter.unusedVariables false
set_option linter.unusedSimpArgs false

/-- What is made of some bytes, if it is two. -/
def tkP (tx : List ByteArray) (mg : List (Int × Int)) (s : ByteArray) : Int × Int := (gI (made mg tx.length s) 0, gI (made mg tx.length s) 1)
/-- The error's number. -/
def tkC (tx : List ByteArray) (mg : List (Int × Int)) (s : ByteArray) : Int := if (made mg tx.length s).length = 2 then addC tx (tkP tx mg s) else 2
def tkT (tx : List ByteArray) (mg : List (Int × Int)) (s : ByteArray) : List ByteArray := if (made mg tx.length s).length = 2 then nextT tx (tkP tx mg s) else tx
def tkM (tx : List ByteArray) (mg : List (Int × Int)) (s : ByteArray) : List (Int × Int) := if (made mg tx.length s).length = 2 then nextM tx mg (tkP tx mg s) else mg
theorem tk_rch {tx : List ByteArray} {mg : List (Int × Int)} (h : Rch tx mg) (s : ByteArray) : Rch (tkT tx mg s) (tkM tx mg s) := by
  unfold tkT tkM
  split
  · exact h.next _
  · exact h
theorem two_form {l : List Int} (h : l.length = 2) : l = [gI l 0, gI l 1] := by
  match l, h with
  | [a, b], _ => rfl
theorem tk_ok {tx : List ByteArray} {mg : List (Int × Int)} (hk : Tok tx mg) {s : ByteArray} (h : tkC tx mg s = 0) : made mg tx.length s = [(tkP tx mg s).1, (tkP tx mg s).2] ∧ addC tx (tkP tx mg s) = 0 ∧ tkT tx mg s = tx ++ [s] ∧ tkM tx mg s = mg ++ [tkP tx mg s] := by
  unfold tkC at h
  split at h
  · rename_i hl
    have h2 := two_form hl
    have h3 : addS tx (tkP tx mg s) = s := by
      have ht := made_txt hk tx.length s
      rw [h2] at ht
      simp only [txt, List.append_nil] at ht
      unfold addS tkP
      apply ByteArray.ext
      apply Array.ext'
      simp only
      rw [← ht]
      simp
    refine ⟨h2, h, ?_, ?_⟩
    · unfold tkT nextT
      rw [if_pos hl, if_pos h, h3]
    · unfold tkM nextM
      rw [if_pos hl, if_pos h]
  · omega

def gT (l : List ByteArray) (i : Nat) : ByteArray := l.getD i ⟨#[]⟩
/-- The table behind the first k texts. -/
def imS (l : List ByteArray) : Nat → List ByteArray × List (Int × Int)
  | 0 => (tb 256, [])
  | k + 1 => (tkT (imS l k).1 (imS l k).2 (gT l k), tkM (imS l k).1 (imS l k).2 (gT l k))
def imC (l : List ByteArray) (k : Nat) : Int := tkC (imS l k).1 (imS l k).2 (gT l k)
theorem imS_rch (l : List ByteArray) : ∀ k, Rch (imS l k).1 (imS l k).2
  | 0 => Rch.begin
  | k + 1 => tk_rch (imS_rch l k) _
theorem gT_take (l : List ByteArray) {k : Nat} (h : k < l.length) : l.take (k + 1) = l.take k ++ [gT l k] := by
  rw [List.take_succ_eq_append_getElem h]
  unfold gT
  rw [List.getD_eq_getElem?_getD, List.getElem?_eq_getElem h]
  rfl
theorem imS_text (l : List ByteArray) : ∀ k, k ≤ l.length → (∀ j, j < k → imC l j = 0) → (imS l k).1 = tb 256 ++ l.take k ∧ (imS l k).2.length = k
  | 0, _, _ => ⟨by simp [imS], rfl⟩
  | k + 1, h, hok => by
    obtain ⟨h1, h2⟩ := imS_text l k (by omega) (fun j hj => hok j (by omega))
    obtain ⟨_, _, h3, h4⟩ := tk_ok (imS_rch l k).tok (hok k (by omega))
    refine ⟨?_, ?_⟩
    · show tkT _ _ _ = _
      rw [h3, h1, gT_take l (by omega), List.append_assoc]
    · show (tkM _ _ _).length = _
      rw [h4, List.length_append, h2]
      rfl
/-- Merges so far are the first ones. -/
theorem imS_pre (l : List ByteArray) (n : Nat) (hn : n ≤ l.length) (hok : ∀ j, j < n → imC l j = 0) : ∀ k, k ≤ n → (imS l k).2 = (imS l n).2.take k := by
  have step : ∀ d k, k + d = n → (imS l k).2 = (imS l n).2.take k := by
    intro d
    induction d with
    | zero =>
      intro k hk
      obtain rfl : k = n := by omega
      have := (imS_text l k hn hok).2
      rw [List.take_of_length_le (by omega)]
    | succ d ih =>
      intro k hk
      have h1 := ih (k + 1) (by omega)
      obtain ⟨_, _, _, h4⟩ := tk_ok (imS_rch l k).tok (hok k (by omega))
      have h5 : (imS l (k + 1)).2 = (imS l k).2 ++ [tkP (imS l k).1 (imS l k).2 (gT l k)] := h4
      have h6 := (imS_text l k (by omega) (fun j hj => hok j (by omega))).2
      have h7 := congrArg (List.take k) h1
      rw [h5, List.take_take, Nat.min_eq_left (by omega), List.take_left' h6] at h7
      exact h7
  intro k hk
  exact step (n - k) k (by omega)
theorem enc_congr {a b : List (Int × Int)} {l : List Int} : ∀ n, (∀ j, j < n → gm a j = gm b j) → enc a n l = enc b n l
  | 0, _ => rfl
  | n + 1, h => by rw [enc, enc, h n (by omega), enc_congr n (fun j hj => h j (by omega))]
theorem enc_one (mg : List (Int × Int)) (k : Nat) (X : List Int) (x : Int) (h : enc mg k X = [x]) : ∀ n, k ≤ n → enc mg n X = [x]
  | 0, hn => by obtain rfl : k = 0 := by omega
                exact h
  | n + 1, hn => by
    by_cases e : k = n + 1
    · subst e; exact h
    · rw [enc, enc_one mg k X x h n (by omega)]
      rfl
/-- Of each token's bytes that token is made. -/
theorem im_alone (l : List ByteArray) (hok : ∀ j, j < l.length → imC l j = 0) (k : Nat) (hk : k < l.length) : made (imS l l.length).2 (imS l l.length).1.length (gT l k) = [256 + (k : Int)] := by
  have hR := imS_rch l l.length
  obtain ⟨ht, hlen⟩ := imS_text l l.length (Nat.le_refl _) hok
  obtain ⟨hm, _, _, h4⟩ := tk_ok (imS_rch l k).tok (hok k hk)
  have h5 : (imS l (k + 1)).2 = (imS l k).2 ++ [tkP (imS l k).1 (imS l k).2 (gT l k)] := h4
  have h6 := (imS_text l k (by omega) (fun j hj => hok j (by omega))).2
  have p1 := imS_pre l l.length (Nat.le_refl _) hok k (by omega)
  have p2 := imS_pre l l.length (Nat.le_refl _) hok (k + 1) (by omega)
  generalize (imS l l.length).2 = mg at *
  have hgk : gm mg k = tkP (imS l k).1 (imS l k).2 (gT l k) := by
    have e1 : gm ((imS l k).2 ++ [tkP (imS l k).1 (imS l k).2 (gT l k)]) k = tkP (imS l k).1 (imS l k).2 (gT l k) := by
      unfold gm
      rw [List.getD_eq_getElem?_getD, List.getElem?_append_right (by omega), h6]
      simp
    rw [← e1, ← h5, p2]
    unfold gm
    rw [List.getD_eq_getElem?_getD, List.getD_eq_getElem?_getD, List.getElem?_take_of_lt (by omega)]
  have hg : ∀ j, j < k → gm mg j = gm (imS l k).2 j := by
    intro j hj
    rw [p1]
    unfold gm
    rw [List.getD_eq_getElem?_getD, List.getD_eq_getElem?_getD, List.getElem?_take_of_lt hj]
  unfold made at hm ⊢
  rw [rnds_all (imS_rch l k).tok, h6] at hm
  rw [rnds_all hR.tok, hlen]
  refine enc_one mg (k + 1) _ _ ?_ l.length (by omega)
  rw [enc, enc_congr k hg, hm, hgk]
  simp [scan]

end Go.Proofs.Ytlfffalfnnmliaa
