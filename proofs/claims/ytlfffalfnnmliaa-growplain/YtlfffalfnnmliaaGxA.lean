/- Tables of tokens that are told by their bytes: the plain mathematics. Texts in memory, for tables that are told by their bytes; the law's Texts and few. Contracts of package grow: take. -/
import Derived.Test.YtlfffalfnnmliaaChP
import Derived.Test.YtlfffalfnnmliaaTkGr
import Derived.Test.YtlfffalfnnmliaaTkR
import Derived.BigQuiet
import Derived.Lib.AppendZeros
import Derived.Deep.AppendLies
import Derived.Laws.OwnMore
import Derived.Test.YtlfffalfnnmliaaChI
import Derived.Test.YtlfffalfnnmliaaChK
import Derived.Deep.RegionWith
namespace Go.Proofs.Ytlfffalfnnmliaa
open Go.RowKit Go.Maps
set_option linter.unusedVariables false
set_option linter.unusedSimpArgs false

/-- What is made of some bytes, if it is two. -/
def tkP (tx : List ByteArray) (mg : List (Int × Int)) (s : ByteArray) : Int × Int := (gI (made mg tx.length s) 0, gI (made mg tx.length s) 1)
/-- The error's number. -/
def tkC (tx : List ByteArray) (mg : List (Int × Int)) (s : ByteArray) : Int := if (made mg tx.length s).length = 2 then addC tx (tkP tx mg s) else 2
def tkT (tx : List ByteArray) (mg : List (Int × Int)) (s : ByteArray) : List ByteArray := if (made mg tx.length s).length = 2 then nextT tx (tkP tx mg s) else tx
def tkM (tx : List ByteArray) (mg : List (Int × Int)) (s : ByteArray) : List (Int × Int) := if (made mg tx.length s).length = 2 then nextM tx mg (tkP tx mg s) else mg
theorem tk_rch {tx : List ByteArray} {mg : List (Int × Int)} (h : Rch tx mg) (s : ByteArray) : Rch (tkT tx mg s) (tkM tx mg s) := by
  unfold tkT tkM
  split
  · exact h.next _
  · exact h
theorem two_form {l : List Int} (h : l.length = 2) : l = [gI l 0, gI l 1] := by
  match l, h with
  | [a, b], _ => rfl
theorem tk_ok {tx : List ByteArray} {mg : List (Int × Int)} (hk : Tok tx mg) {s : ByteArray} (h : tkC tx mg s = 0) : made mg tx.length s = [(tkP tx mg s).1, (tkP tx mg s).2] ∧ addC tx (tkP tx mg s) = 0 ∧ tkT tx mg s = tx ++ [s] ∧ tkM tx mg s = mg ++ [tkP tx mg s] := by
  unfold tkC at h
  split at h
  · rename_i hl
    have h2 := two_form hl
    have h3 : addS tx (tkP tx mg s) = s := by
      have ht := made_txt hk tx.length s
      rw [h2] at ht
      simp only [txt, List.append_nil] at ht
      unfold addS tkP
      apply ByteArray.ext
      apply Array.ext'
      simp only
      rw [← ht]
      simp
    refine ⟨h2, h, ?_, ?_⟩
    · unfold tkT nextT
      rw [if_pos hl, if_pos h, h3]
    · unfold tkM nextM
      rw [if_pos hl, if_pos h]
  · omega

def gT (l : List ByteArray) (i : Nat) : ByteArray := l.getD i ⟨#[]⟩
/-- The table behind the first k texts. -/
def imS (l : List ByteArray) : Nat → List ByteArray × List (Int × Int)
  | 0 => (tb 256, [])
  | k + 1 => (tkT (imS l k).1 (imS l k).2 (gT l k), tkM (imS l k).1 (imS l k).2 (gT l k))
def imC (l : List ByteArray) (k : Nat) : Int := tkC (imS l k).1 (imS l k).2 (gT l k)
theorem imS_rch (l : List ByteArray) : ∀ k, Rch (imS l k).1 (imS l k).2
  | 0 => Rch.begin
  | k + 1 => tk_rch (imS_rch l k) _
theorem gT_take (l : List ByteArray) {k : Nat} (h : k < l.length) : l.take (k + 1) = l.take k ++ [gT l k] := by
  rw [List.take_succ_eq_append_getElem h]
  unfold gT
  rw [List.getD_eq_getElem?_getD, List.getElem?_eq_getElem h]
  rfl
theorem imS_text (l : List ByteArray) : ∀ k, k ≤ l.length → (∀ j, j < k → imC l j = 0) → (imS l k).1 = tb 256 ++ l.take k ∧ (imS l k).2.length = k
  | 0, _, _ => ⟨by simp [imS], rfl⟩
  | k + 1, h, hok => by
    obtain ⟨h1, h2⟩ := imS_text l k (by omega) (fun j hj => hok j (by omega))
    obtain ⟨_, _, h3, h4⟩ := tk_ok (imS_rch l k).tok (hok k (by omega))
    refine ⟨?_, ?_⟩
    · show tkT _ _ _ = _
      rw [h3, h1, gT_take l (by omega), List.append_assoc]
    · show (tkM _ _ _).length = _
      rw [h4, List.length_append, h2]
      rfl
/-- Merges so far are the first ones. -/
theorem imS_pre (l : List ByteArray) (n : Nat) (hn : n ≤ l.length) (hok : ∀ j, j < n → imC l j = 0) : ∀ k, k ≤ n → (imS l k).2 = (imS l n).2.take k := by
  have step : ∀ d k, k + d = n → (imS l k).2 = (imS l n).2.take k := by
    intro d
    induction d with
    | zero =>
      intro k hk
      obtain rfl : k = n := by omega
      have := (imS_text l k hn hok).2
      rw [List.take_of_length_le (by omega)]
    | succ d ih =>
      intro k hk
      have h1 := ih (k + 1) (by omega)
      obtain ⟨_, _, _, h4⟩ := tk_ok (imS_rch l k).tok (hok k (by omega))
      have h5 : (imS l (k + 1)).2 = (imS l k).2 ++ [tkP (imS l k).1 (imS l k).2 (gT l k)] := h4
      have h6 := (imS_text l k (by omega) (fun j hj => hok j (by omega))).2
      have h7 := congrArg (List.take k) h1
      rw [h5, List.take_take, Nat.min_eq_left (by omega), List.take_left' h6] at h7
      exact h7
  intro k hk
  exact step (n - k) k (by omega)
theorem enc_congr {a b : List (Int × Int)} {l : List Int} : ∀ n, (∀ j, j < n → gm a j = gm b j) → enc a n l = enc b n l
  | 0, _ => rfl
  | n + 1, h => by rw [enc, enc, h n (by omega), enc_congr n (fun j hj => h j (by omega))]
theorem enc_one (mg : List (Int × Int)) (k : Nat) (X : List Int) (x : Int) (h : enc mg k X = [x]) : ∀ n, k ≤ n → enc mg n X = [x]
  | 0, hn => by obtain rfl : k = 0 := by omega
                exact h
  | n + 1, hn => by
    by_cases e : k = n + 1
    · subst e; exact h
    · rw [enc, enc_one mg k X x h n (by omega)]
      rfl
/-- Of each token's bytes that token is made. -/
theorem im_alone (l : List ByteArray) (hok : ∀ j, j < l.length → imC l j = 0) (k : Nat) (hk : k < l.length) : made (imS l l.length).2 (imS l l.length).1.length (gT l k) = [256 + (k : Int)] := by
  have hR := imS_rch l l.length
  obtain ⟨ht, hlen⟩ := imS_text l l.length (Nat.le_refl _) hok
  obtain ⟨hm, _, _, h4⟩ := tk_ok (imS_rch l k).tok (hok k hk)
  have h5 : (imS l (k + 1)).2 = (imS l k).2 ++ [tkP (imS l k).1 (imS l k).2 (gT l k)] := h4
  have h6 := (imS_text l k (by omega) (fun j hj => hok j (by omega))).2
  have p1 := imS_pre l l.length (Nat.le_refl _) hok k (by omega)
  have p2 := imS_pre l l.length (Nat.le_refl _) hok (k + 1) (by omega)
  generalize (imS l l.length).2 = mg at *
  have hgk : gm mg k = tkP (imS l k).1 (imS l k).2 (gT l k) := by
    have e1 : gm ((imS l k).2 ++ [tkP (imS l k).1 (imS l k).2 (gT l k)]) k = tkP (imS l k).1 (imS l k).2 (gT l k) := by
      unfold gm
      rw [List.getD_eq_getElem?_getD, List.getElem?_append_right (by omega), h6]
      simp
    rw [← e1, ← h5, p2]
    unfold gm
    rw [List.getD_eq_getElem?_getD, List.getD_eq_getElem?_getD, List.getElem?_take_of_lt (by omega)]
  have hg : ∀ j, j < k → gm mg j = gm (imS l k).2 j := by
    intro j hj
    rw [p1]
    unfold gm
    rw [List.getD_eq_getElem?_getD, List.getD_eq_getElem?_getD, List.getElem?_take_of_lt hj]
  unfold made at hm ⊢
  rw [rnds_all (imS_rch l k).tok, h6] at hm
  rw [rnds_all hR.tok, hlen]
  refine enc_one mg (k + 1) _ _ ?_ l.length (by omega)
  rw [enc, enc_congr k hg, hm, hgk]
  simp [scan]

end Go.Proofs.Ytlfffalfnnmliaa

namespace Go.Proofs.Ytlfffalfnnmliaa
open Go.RowKit
set_option linter.unusedVariables false
set_option linter.unusedSimpArgs false

theorem info_textG : (Try.prog.info? 9).map (fun i => (i.zero, i.size, i.bytes)) = some (some (.string ⟨#[]⟩), 1, 16) := by kernel_rfl
/-- Texts that are read. -/
def RdT (w : World) (ao : Option Addr) (n : Nat) (l : List ByteArray) : Prop := l.length = n ∧ (n = 0 ∨ ∃ b off, ao = some ⟨b, off, none⟩ ∧ b < w.heap.size ∧ ∀ i, i < n → w.cell? ⟨b, off + i, none⟩ = some (.string (gT l i)))
theorem RdT.kept {w w' : World} {ao : Option Addr} {n : Nat} {l : List ByteArray} (h : RdT w ao n l) (hb : Below w.heap.size w w') : RdT w' ao n l := by
  refine ⟨h.1, ?_⟩
  rcases h.2 with h0 | ⟨b, off, rfl, hlt, hc⟩
  · exact Or.inl h0
  · exact Or.inr ⟨b, off, rfl, Nat.lt_of_lt_of_le hlt hb.size, fun i hi => (hb.cell hlt).trans (hc i hi)⟩
theorem RdT.take {w : World} {ao : Option Addr} {n : Nat} {l : List ByteArray} (h : RdT w ao n l) {m : Nat} (hm : m ≤ n) : RdT w ao m (l.take m) := by
  refine ⟨by rw [List.length_take, h.1]; omega, ?_⟩
  rcases h.2 with h0 | ⟨b, off, rfl, hlt, hc⟩
  · exact Or.inl (by omega)
  · refine Or.inr ⟨b, off, rfl, hlt, fun i hi => ?_⟩
    rw [hc i (by omega)]
    congr 2
    unfold gT
    rw [List.getD_eq_getElem?_getD, List.getD_eq_getElem?_getD, List.getElem?_take_of_lt hi]

set_option maxRecDepth 20000 in
set_option maxHeartbeats 4000000 in
/-- The same texts twice. -/
theorem texts_same (w : World) (a1 a2 : Option Addr) (n c1 c2 : Nat) (l : List ByteArray) (ha : RdT w a1 n l) (hb : RdT w a2 n l) (hn : n ≤ 1000000) :
    Calls Try.prog 15 #[.slice a1 n c1, .slice a2 n c2] w fun e w' => e = .returned (.bool true) ∧ Below w.heap.size w w' := by
  have HA := hide ha
  have HB := hide hb
  clear ha hb
  go_enter Try.func15, Try.ntmps15
  go_wp2
  go_loopw [5] (fun i wr => ∃ (k : Nat), i = .int .i64 k ∧ k ≤ n ∧ Hid (Below w.heap.size w wr)) (fun i _ => n - (intOf i).toNat)
  case atStart => exact ⟨0, rfl, Nat.zero_le _, hide (Below.refl _ _)⟩
  case round =>
    obtain ⟨k, rfl, hk, HBl⟩ := hrel
    by_cases hlt : k < n
    · have hk0 : (0 : Int) ≤ (k : Int) := by omega
      have hk1 : (k : Int) < (n : Int) := by omega
      rcases (HA.out.kept HBl.out).2 with h0 | ⟨b, off, rfl, hgl, hc⟩
      · omega
      rcases (HB.out.kept HBl.out).2 with h0 | ⟨b', off', rfl, hgl', hc'⟩
      · omega
      have c0 := hc k hlt
      have c0' := hc' k hlt
      clear hc hc'
      generalize gT l k = x at *
      go_wp2
      go_quiet (fail)
      have HD : Hid (Below w.heap.size w (wr.drewN nq)) := hide (HBl.out.trans ⟨rfl, rfl, rfl, Nat.le_refl _, fun _ _ => rfl⟩)
      clear c0 c0'
      generalize wr.drewN nq = wd at *
      go_wp2
      exact ⟨⟨k + 1, by go_num, by omega, HD⟩, by simp [intOf]; omega⟩
    · obtain rfl : k = n := by omega
      go_wp2
      go_ret
      exact ⟨rfl, HBl.out⟩

/-- A text more. -/
theorem appS (w : World) (base : Nat) (ao : Option Addr) (n cap : Nat) (l : List ByteArray) (x : ByteArray) (h : w.ownsRow base 9 1 (.slice ao n cap) n (l.map Value.string)) (hn : n ≤ 1000000) (hb : base ≤ w.heap.size) :
    ∃ g cap1 w1, (Builtin.append_ #[22, 22] 22 #[.slice ao n cap, .slice (some ⟨w.heap.size, 0, none⟩) 1 1]).run Try.prog (w.alloc (.cells #[.string x] 9)) = .ok (.slice (some ⟨g, 0, none⟩) (n + 1) cap1) w1 ∧ w1.ownsRow base 9 1 (.slice (some ⟨g, 0, none⟩) (n + 1) cap1) (n + 1) ((l ++ [x]).map Value.string) ∧ Below base w w1 := by
  obtain ⟨i0, hi, hz0, hz1, hz2⟩ := info_parts info_textG
  obtain ⟨g, cap1, w1, hrun, hown, hgrow, _, _⟩ := run_append_lies (P := Try.prog) (w.alloc (.cells #[.string x] 9)) 22 22 base 9 i0 _ 1 16 Try.underlying22 hi hz0 hz1 hz2 rfl (by omega) (.slice ao n cap) n (l.map Value.string) (h.alloc _) ⟨w.heap.size, 0, none⟩ 1 1 [.string x] rfl (World.news_of_block (heap_alloc_new w _)) (by simp [Value.oneCell']) (by omega) (by unfold maxLen; omega) (by omega) (by simp; omega) (w.heap.size + 1) (by simp)
  have e : (l ++ [x]).map Value.string = l.map Value.string ++ [.string x] := by simp
  refine ⟨g, cap1, w1, hrun, by rw [e]; exact hown, ?_⟩
  have h1 : Below base w (w.alloc (.cells #[.string x] 9)) := ((Below.refl _ _).alloc (Nat.le_refl _) _).mono hb
  exact h1.trans ⟨hgrow.os, hgrow.tape, hgrow.output, hgrow.size, fun k hk => hgrow.block k (by simp; omega) (fun e => by have := (h.lt k e.symm).1; omega)⟩
theorem RdT.row {w : World} {base : Nat} {ao : Option Addr} {n cap : Nat} {l : List ByteArray} (h : w.ownsRow base 9 1 (.slice ao n cap) n (l.map Value.string)) (hl : l.length = n) : RdT w ao n l := by
  refine ⟨hl, ?_⟩
  rcases Nat.eq_zero_or_pos n with h0 | h0
  · exact Or.inl h0
  obtain ⟨g, cap', e, hb, hg⟩ := h.form h0
  simp only [Value.slice.injEq] at e
  obtain ⟨rfl, -, rfl⟩ := e
  refine Or.inr ⟨g, 0, rfl, hg, fun i hi => ?_⟩
  rw [Nat.zero_add, h.cellAt i (by omega)]
  have : i < l.length := by omega
  simp [gT, this]

/-- Few texts, and none is long. -/
def fewP (l : List ByteArray) : Prop := l.length ≤ 40 ∧ ∀ x ∈ l, x.size ≤ 100
set_option maxRecDepth 20000 in
set_option maxHeartbeats 4000000 in
theorem few_any (w : World) (ao : Option Addr) (n cap : Nat) (l : List ByteArray) (h : RdT w ao n l) (hn : n ≤ 9223372036854775807) :
    Calls Try.prog 9 #[.slice ao n cap] w fun e w' => ((e = .returned (.bool true) ∧ fewP l) ∨ (e = .returned (.bool false) ∧ ¬ fewP l)) ∧ w' = w := by
  have HL := hide h.1
  have HR := hide h
  clear h
  go_enter Try.func9, Try.ntmps9
  go_wp2
  go_loop [3] (fun i => ∃ (k : Nat), i = .int .i64 k ∧ k ≤ n ∧ Hid (∀ j, j < k → (gT l j).size ≤ 100)) (fun i => n - (intOf i).toNat)
  case atStart => exact ⟨0, rfl, Nat.zero_le _, hide (fun j hj => by omega)⟩
  case round =>
    obtain ⟨k, rfl, hk, HK⟩ := hrel
    by_cases hlt : k < n
    · have hk0 : (0 : Int) ≤ (k : Int) := by omega
      have hk1 : (k : Int) < (n : Int) := by omega
      rcases HR.out.2 with h0 | ⟨b, off, rfl, hbl, hcc⟩
      · omega
      have c0 := hcc k hlt
      have HM : Hid (gT l k ∈ l) := hide (by unfold gT; rw [List.getD_eq_getElem?_getD, List.getElem?_eq_getElem (by rw [HL.out]; exact hlt)]; exact List.getElem_mem _)
      have HN : Hid ((gT l k).size ≤ 100 → ∀ j, j < k + 1 → (gT l j).size ≤ 100) := hide (fun h j hj => by by_cases e : j = k; · { rw [e]; exact h }; · { exact HK.out j (by omega) })
      clear hcc
      generalize gT l k = x at *
      by_cases hx : 100 < x.size
      · have hx1 : (100 : Int) < (x.size : Int) := by omega
        go_wp2
        go_ret
        exact ⟨Or.inr ⟨rfl, fun h => by have := h.2 _ HM.out; omega⟩, rfl⟩
      · have hx1 : ¬ (100 : Int) < (x.size : Int) := by omega
        have HF := hide (HN.out (by omega))
        go_wp2
        go_round
        case rel => exact ⟨k + 1, by go_num, by omega, HF⟩
        case measure => simp [intOf]; omega
    · obtain rfl : k = n := by omega
      have HALL : Hid (∀ x ∈ l, x.size ≤ 100) := hide (fun x hx => by
        obtain ⟨j, hj, e⟩ := List.getElem_of_mem hx
        have := HK.out j (by rw [← HL.out]; exact hj)
        unfold gT at this
        rw [List.getD_eq_getElem?_getD, List.getElem?_eq_getElem hj] at this
        rw [← e]
        exact this)
      by_cases h40 : k ≤ 40
      · have h1 : (k : Int) ≤ 40 := by omega
        go_wp2
        go_ret
        exact ⟨Or.inl ⟨by simp [h40], by rw [HL.out]; exact h40, HALL.out⟩, rfl⟩
      · have h1 : ¬ (k : Int) ≤ 40 := by omega
        go_wp2
        go_ret
        exact ⟨Or.inr ⟨by first | (simp; done) | (simp; omega), fun h => h40 (by rw [← HL.out]; exact h.1)⟩, rfl⟩

end Go.Proofs.Ytlfffalfnnmliaa

namespace Go.Proofs.Ytlfffalfnnmliaa
open Go.RowKit Go.Maps
set_option linter.unusedVariables false
set_option linter.unusedSimpArgs false
attribute [local go_sem ↓] Go.wp_at_zero Go.wp_at_succ

section
variable {F : List Nat} {p : Nat} {v0 v1 : Value} {b2 b3 : Nat} {tx : List ByteArray} {mg : List (Int × Int)} {w : World}
set_option maxRecDepth 20000 in
set_option maxHeartbeats 4000000 in
theorem take_any (h : TAt F p v0 v1 b2 b3 tx mg (lgs tx) w) (hk : Tok tx mg) (base : Nat) (hF : ∀ k ∈ F, base ≤ k) (hb : base ≤ w.heap.size) (s : ByteArray) (hs : s.size ≤ 100000) :
    Calls Try.prog 37 #[.pointer (some ⟨p, 0, none⟩), .string s] w fun e w' => e = .returned (.int .i64 (tkC tx mg s)) ∧ (∃ F' v0' v1', TAt F' p v0' v1' b2 b3 (tkT tx mg s) (tkM tx mg s) (lgs (tkT tx mg s)) w' ∧ (∀ k ∈ F', base ≤ k)) ∧ Below base w w' := by
  have HE := hide (encode_any w h hk s hs)
  have HT := hide h
  have HK := hide hk
  have HFB := hide hF
  have HML := hide (made_len mg tx.length s)
  have HTC : Hid (tkC tx mg s = if (made mg tx.length s).length = 2 then addC tx (tkP tx mg s) else 2) := hide rfl
  have HTT : Hid (tkT tx mg s = if (made mg tx.length s).length = 2 then nextT tx (tkP tx mg s) else tx) := hide rfl
  have HTM : Hid (tkM tx mg s = if (made mg tx.length s).length = 2 then nextM tx mg (tkP tx mg s) else mg) := hide rfl
  have HTP : Hid (tkP tx mg s = (gI (made mg tx.length s) 0, gI (made mg tx.length s) 1)) := hide rfl
  clear h hk hF
  generalize made mg tx.length s = A at *
  generalize tkP tx mg s = P at *
  generalize tkT tx mg s = T' at *
  generalize tkM tx mg s = M' at *
  generalize tkC tx mg s = C' at *
  go_enter Try.func37, Try.ntmps37
  go_wp2_with fail
  refine (unhide HE).mono ?_
  rintro e w1 ⟨⟨v, rfl, hv⟩, hb1⟩
  obtain ⟨av, cv, hvv⟩ := row_form hv
  subst hvv
  have HT1 := hide (HT.out.keptB hb1)
  have HB1 := hide hb1
  have HR := hide hv
  clear hv hb1 HE
  by_cases h2 : A.length = 2
  · have HC2 : Hid (C' = addC tx P) := hide (by rw [HTC.out, if_pos h2])
    have HT2 : Hid (T' = nextT tx P) := hide (by rw [HTT.out, if_pos h2])
    have HM2 : Hid (M' = nextM tx mg P) := hide (by rw [HTM.out, if_pos h2])
    obtain ⟨g, cg, hvg, hgl, c0⟩ := row_at HR.out (show 0 < A.length by omega)
    obtain ⟨g', cg', hvg', -, c1⟩ := row_at HR.out (show 1 < A.length by omega)
    simp only [Value.slice.injEq] at hvg hvg'
    obtain ⟨rfl, _, rfl⟩ := hvg
    obtain ⟨hgg, _, _⟩ := hvg'
    simp at hgg
    subst hgg
    have hp1 : gI A 0 = P.1 := by rw [HTP.out]
    have hp2 : gI A 1 = P.2 := by rw [HTP.out]
    rw [hp1] at c0
    rw [hp2] at c1
    have HAD : Hid (Calls Try.prog 45 #[.pointer (some ⟨p, 0, none⟩), .agg #[.int .i64 P.1, .int .i64 P.2]] w1.drew fun e w' => (∃ zz : Int, e = .returned (.tuple #[.int .i64 zz, .int .i64 C'])) ∧ ∃ F' v0' v1', TAt F' p v0' v1' b2 b3 T' M' (lgs T') w' ∧ (∀ k ∈ F', base ≤ k) ∧ Below base w w') := hide ((add_any (HT1.out.keptB (below_drew' w1)) HK.out P).mono (by
      rintro e w2 ⟨rfl, F2, v2, v3, hT2, hFr2, hN2⟩
      rw [HC2.out, HT2.out, HM2.out]
      refine ⟨⟨_, rfl⟩, F2, v2, v3, hT2, fun k hk => ?_, ?_⟩
      · rcases hN2 k hk with h | h
        · exact HFB.out k h
        · have h1 : w.heap.size ≤ w1.heap.size := HB1.out.size
          have h3 : w1.drew.heap.size = w1.heap.size := rfl
          omega
      · have h1 : w.heap.size ≤ w1.heap.size := HB1.out.size
        exact (HB1.out.mono hb).trans ((below_drew' w1).mono (by omega) |>.trans (hFr2.below (by show base ≤ w1.heap.size; omega) HFB.out))))
    rw [h2]
    clear hp1 hp2 HTP HTC HTT HTM HR HML
    obtain ⟨P1, P2⟩ := P
    simp only at c0 c1
    go_wp2
    go_region_with (go_at_call 45; refine (unhide HAD).mono ?_; rintro e w2 ⟨⟨zz, rfl⟩, hQ⟩; have HQ := hide hQ; clear hQ)
    all_goals
      go_wp2
      go_ret
      obtain ⟨F2, v2, v3, hT2, hF2, hB2⟩ := HQ.out
      exact ⟨rfl, ⟨F2, v2, v3, hT2, hF2⟩, hB2⟩
  · have HC2 : Hid (C' = 2) := hide (by rw [HTC.out, if_neg h2])
    have HT2 : Hid (T' = tx) := hide (by rw [HTT.out, if_neg h2])
    have HM2 : Hid (M' = mg) := hide (by rw [HTM.out, if_neg h2])
    have h2d : ((A.length : Int) == 2) = false := by simp; omega
    have h2e : ((A.length : Int) != 2) = true := by simp; omega
    clear HTP HTC HTT HTM HR HML
    generalize A.length = N at *
    go_wp2
    go_ret
    refine ⟨by rw [HC2.out]; rfl, ⟨F, v0, v1, ?_, HFB.out⟩, HB1.out.mono hb⟩
    rw [HT2.out, HM2.out]
    exact HT1.out
end

end Go.Proofs.Ytlfffalfnnmliaa
