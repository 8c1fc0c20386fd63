/- Where a text's lines end: plain mathematics. -/
import Derived.Test.YthneahkiegobaaaDoorSpN
namespace Go.Proofs.YthneahkiegobaaaDoor
set_option linter.unusedVariables false
set_option linter.unusedSimpArgs false

def endsR (off : Nat) : List UInt8 → List Nat
  | [] => []
  | b :: r => if b = 10 then (off + 1) :: endsR (off + 1) r else endsR (off + 1) r
theorem ends_append : ∀ (a b : List UInt8) (off : Nat), endsR off (a ++ b) = endsR off a ++ endsR (off + a.length) b
  | [], b, off => by simp [endsR]
  | x :: a, b, off => by
    have ih := ends_append a b (off + 1)
    simp only [List.cons_append, endsR, List.length_cons]
    rw [ih, show off + (a.length + 1) = off + 1 + a.length by omega]
    split <;> simp
theorem ends_plain : ∀ (a : List UInt8) (off : Nat), (∀ c ∈ a, c ≠ 10) → endsR off a = []
  | [], _, _ => rfl
  | x :: a, off, h => by
    simp only [endsR]
    rw [if_neg (h x List.mem_cons_self)]
    exact ends_plain a (off + 1) (fun c hc => h c (List.mem_cons_of_mem _ hc))
theorem ends_txt (l : List UInt8) (ls : List (List UInt8)) (off : Nat) (h : ∀ c ∈ l, c ≠ 10) : endsR off (txt (l :: ls)) = (off + l.length + 1) :: endsR (off + l.length + 1) (txt ls) := by
  have e : txt (l :: ls) = l ++ ([10] ++ txt ls) := by simp [txt]
  rw [e, ends_append, ends_plain l off h, ends_append]
  simp [endsR]
theorem ends_len : ∀ (ls : List (List UInt8)) (off : Nat), (∀ l ∈ ls, ∀ c ∈ l, c ≠ 10) → (endsR off (txt ls)).length = ls.length
  | [], _, _ => rfl
  | l :: ls, off, h => by
    rw [ends_txt l ls off (h l List.mem_cons_self), List.length_cons, ends_len ls _ (fun x hx => h x (List.mem_cons_of_mem _ hx)), List.length_cons]
theorem ends_get : ∀ (ls : List (List UInt8)) (off j : Nat), (∀ l ∈ ls, ∀ c ∈ l, c ≠ 10) → j < ls.length → (endsR off (txt ls)).getD j 0 = off + (txt (ls.take (j + 1))).length
  | [], _, _, _, hj => by cases hj
  | l :: ls, off, 0, h, _ => by
    rw [ends_txt l ls off (h l List.mem_cons_self)]
    simp [txt]
    omega
  | l :: ls, off, j + 1, h, hj => by
    rw [ends_txt l ls off (h l List.mem_cons_self), List.getD_cons_succ, ends_get ls _ j (fun x hx => h x (List.mem_cons_of_mem _ hx)) (by simpa using hj)]
    simp [txt]
    omega
theorem ends_snoc (t : List UInt8) (k : Nat) (h : k < t.length) : endsR 0 (t.take (k + 1)) = if t[k] = 10 then endsR 0 (t.take k) ++ [k + 1] else endsR 0 (t.take k) := by
  rw [List.take_succ_eq_append_getElem h, ends_append]
  have hl : (t.take k).length = k := by rw [List.length_take]; omega
  simp only [endsR, hl, Nat.zero_add]
  split <;> simp
theorem ends_le : ∀ (t : List UInt8) (off : Nat), (endsR off t).length ≤ t.length
  | [], _ => by simp [endsR]
  | x :: a, off => by
    have := ends_le a (off + 1)
    simp only [endsR]
    split <;> simp <;> omega

def wNothing : List UInt8 := [110, 111, 116, 104, 105, 110, 103]
theorem txt_take_len (ls : List (List UInt8)) (n : Nat) : (txt (ls.take n)).length ≤ (txt ls).length := by
  have e : txt ls = txt (ls.take n) ++ txt (ls.drop n) := by rw [← txt_append, List.take_append_drop]
  rw [e, List.length_append]
  omega
theorem txt_prefix (ls : List (List UInt8)) (n : Nat) : (txt ls).take (txt (ls.take n)).length = txt (ls.take n) := by
  have e : txt ls = txt (ls.take n) ++ txt (ls.drop n) := by rw [← txt_append, List.take_append_drop]
  rw [e, List.take_left' rfl]
theorem take_ok {s : Sp} (h : s.Right) (n : Nat) (hn : n ≤ s.lines.length) : ∃ r, runL rd0 (s.lines.take n) = (r, true) ∧ r.n = n ∧ r.sp.Right := by
  obtain ⟨k, hk⟩ := run_lines h
  have h1 : (runL rd0 (s.lines.take n)).2 = true := runL_left (s.lines.take n) (s.lines.drop n) rd0 (by rw [List.take_append_drop, hk])
  obtain ⟨i1, i2⟩ := runL_sound (s.lines.take n) rd0 rd0_inv
  obtain ⟨j1, j2⟩ := i2 h1
  refine ⟨(runL rd0 (s.lines.take n)).1, ?_, ?_, i1.right⟩
  · rw [← h1]
  · rw [j2, List.length_take]
    show 0 + _ = _
    omega
theorem plain_take {s : Sp} (h : s.Right) (n : Nat) : ∀ l ∈ s.lines.take n, ∀ c ∈ l, c ≠ 10 := fun l hl => lines_plain h l (List.mem_of_mem_take hl)
theorem parse_none : parseP [] = (Sp.zero, 1, 2) := by
  unfold parseP parseC
  simp [cutL, runL, rd0]
theorem parse_take {s : Sp} (h : s.Right) (hl : s.text.length ≤ 60000) (n : Nat) (hn : n ≤ s.lines.length) (h0 : n ≠ 0) : ∃ s', parseP (txt (s.lines.take n)) = (s', 0, 0) ∧ s'.Right := by
  obtain ⟨r, h1, h2, h3⟩ := take_ok h n hn
  have hc := txt_cut (s.lines.take n) [] (plain_take h n) (fun c hc => by cases hc)
  rw [List.append_nil] at hc
  refine ⟨r.sp, ?_, h3⟩
  unfold parseP
  rw [if_neg (by have := txt_take_len s.lines n; unfold Sp.text at hl; omega), hc, List.dropLast_concat]
  unfold parseC
  rw [h1]
  simp only
  rw [if_pos ⟨trivial, by simp, by omega⟩]
theorem read_nothing (r : Rd) : readL r wNothing = none := by
  unfold readL
  have hc : cutL 32 wNothing = [wNothing] := by decide
  rw [hc]
  simp only [List.headD_cons, List.drop_one, List.tail_cons]
  unfold readW
  have hk : kindL wNothing = 6 := by decide
  rw [hk]
  split
  · simp [takeL]
  · rfl
theorem parse_nothing {s : Sp} (h : s.Right) (hl : s.text.length ≤ 59000) (n : Nat) (hn : n ≤ s.lines.length) : parseP (txt (s.lines.take n) ++ (wNothing ++ [10])) = (Sp.zero, n + 1, 2) := by
  obtain ⟨r, h1, h2, h3⟩ := take_ok h n hn
  have e : txt (s.lines.take n) ++ (wNothing ++ [10]) = txt (s.lines.take n ++ [wNothing]) := by rw [txt_append]; simp [txt]
  have hc := txt_cut (s.lines.take n ++ [wNothing]) [] (by
    intro l hl'
    rw [List.mem_append, List.mem_singleton] at hl'
    rcases hl' with hl' | rfl
    · exact plain_take h n l hl'
    · decide) (fun c hc => by cases hc)
  rw [List.append_nil] at hc
  rw [e]
  have hlen : (txt (s.lines.take n ++ [wNothing])).length ≤ 60000 := by
    rw [txt_append, List.length_append]
    have := txt_take_len s.lines n
    have h8 : (txt [wNothing]).length = 8 := by decide
    unfold Sp.text at hl
    omega
  unfold parseP
  rw [if_neg (by omega), hc, List.dropLast_concat]
  unfold parseC
  have hr : runL rd0 (s.lines.take n ++ [wNothing]) = (r, false) := by
    rw [runL_append _ _ _ (by rw [h1]), h1]
    show (match readL r wNothing with | none => (r, false) | some r' => runL r' []) = _
    rw [read_nothing]
  rw [hr]
  simp only
  rw [if_neg (fun e => by cases e.1), h2]
theorem line_ne {s : Sp} (l : List UInt8) (h : l ∈ s.lines) : l ≠ [] := by
  simp only [Sp.lines, Sp.body, List.mem_cons, List.mem_append, List.mem_map] at h
  rcases h with rfl | ⟨x, _, rfl⟩ | ⟨x, _, rfl⟩ | ⟨x, _, rfl⟩ | ⟨x, _, rfl⟩ | ⟨x, _, rfl⟩ <;> simp [lV, lM, lT, lS, lC, lJ, ln, wVocab, wMerge, wToken, wSpecial, wClass, wJoin]
theorem parse_open {s : Sp} (h : s.Right) (hl : s.text.length ≤ 60000) (n : Nat) (hn : n < s.lines.length) : parseP (txt (s.lines.take n) ++ s.lines.getD n []) = (Sp.zero, n + 1, 2) := by
  obtain ⟨r, h1, h2, h3⟩ := take_ok h n (by omega)
  have hm : s.lines.getD n [] ∈ s.lines := by
    rw [List.getD_eq_getElem?_getD, List.getElem?_eq_getElem hn]
    exact List.getElem_mem hn
  have hc := txt_cut (s.lines.take n) (s.lines.getD n []) (plain_take h n) (lines_plain h _ hm)
  have hlen : (txt (s.lines.take n) ++ s.lines.getD n []).length ≤ 60000 := by
    have e : txt (s.lines.take (n + 1)) = txt (s.lines.take n) ++ (s.lines.getD n [] ++ [10]) := by
      rw [List.take_succ_eq_append_getElem hn, txt_append]
      simp [txt, List.getD_eq_getElem?_getD, hn]
    have h4 := txt_take_len s.lines (n + 1)
    rw [e, List.length_append, List.length_append] at h4
    rw [List.length_append]
    unfold Sp.text at hl
    omega
  unfold parseP
  rw [if_neg (by omega), hc, List.dropLast_concat]
  unfold parseC
  rw [h1]
  simp only
  rw [if_neg (fun e => line_ne _ hm (by simpa using e.2.1)), h2]
end Go.Proofs.YthneahkiegobaaaDoor
