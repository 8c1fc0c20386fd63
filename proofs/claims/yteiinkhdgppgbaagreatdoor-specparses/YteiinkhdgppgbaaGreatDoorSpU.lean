/- A vocabulary as a text: the document's way to read a line (what is gathered with it is right, and its last line is just it) tells the same as the reader's. -/
import Derived.Test.YteiinkhdgppgbaaGreatDoorSpN
namespace Go.Proofs.YteiinkhdgppgbaaGreatDoor
set_option linter.unusedVariables false
set_option linter.unusedSimpArgs false

def atW (ws : List (List UInt8)) (i : Nat) : Int := if ws.length ≤ i then -1 else if (parseS (ws.getD i []) maxId).2 = true then (parseS (ws.getD i []) maxId).1 else -1
def hexW (ws : List (List UInt8)) (i : Nat) : ByteArray := if ws.length ≤ i then ⟨#[]⟩ else if (unhx (ws.getD i [])).2 = true then (unhx (ws.getD i [])).1 else ⟨#[]⟩
/-- The kind of a line. -/
def kd (line : List UInt8) : Nat := kindL ((cutL 32 line).headD [])
/-- What is gathered with a line. -/
def gat (s : Sp) (line : List UInt8) : Sp :=
  if kd line = 0 then { s with ranked := decide (line = lV true) }
  else if kd line = 1 then { s with merges := s.merges ++ [(atW (cutL 32 line) 1, atW (cutL 32 line) 2)] }
  else if kd line = 2 then { s with tokens := s.tokens ++ [hexW (cutL 32 line) 1] }
  else if kd line = 3 then { s with specials := s.specials ++ [(atW (cutL 32 line) 1, hexW (cutL 32 line) 2)] }
  else if kd line = 4 then { s with classes := s.classes ++ [(atW (cutL 32 line) 1, atW (cutL 32 line) 2, atW (cutL 32 line) 3)] }
  else if kd line = 5 then { s with joins := s.joins ++ [(atW (cutL 32 line) 1, atW (cutL 32 line) 2)] }
  else s
theorem gat_0 {s : Sp} {line : List UInt8} (h : kd line = 0) : gat s line = { s with ranked := decide (line = lV true) } := by unfold gat; rw [if_pos h]
theorem gat_1 {s : Sp} {line : List UInt8} (h : kd line = 1) : gat s line = { s with merges := s.merges ++ [(atW (cutL 32 line) 1, atW (cutL 32 line) 2)] } := by unfold gat; rw [if_neg (by omega), if_pos h]
theorem gat_2 {s : Sp} {line : List UInt8} (h : kd line = 2) : gat s line = { s with tokens := s.tokens ++ [hexW (cutL 32 line) 1] } := by unfold gat; rw [if_neg (by omega), if_neg (by omega), if_pos h]
theorem gat_3 {s : Sp} {line : List UInt8} (h : kd line = 3) : gat s line = { s with specials := s.specials ++ [(atW (cutL 32 line) 1, hexW (cutL 32 line) 2)] } := by unfold gat; rw [if_neg (by omega), if_neg (by omega), if_neg (by omega), if_pos h]
theorem gat_4 {s : Sp} {line : List UInt8} (h : kd line = 4) : gat s line = { s with classes := s.classes ++ [(atW (cutL 32 line) 1, atW (cutL 32 line) 2, atW (cutL 32 line) 3)] } := by unfold gat; rw [if_neg (by omega), if_neg (by omega), if_neg (by omega), if_neg (by omega), if_pos h]
theorem gat_5 {s : Sp} {line : List UInt8} (h : kd line = 5) : gat s line = { s with joins := s.joins ++ [(atW (cutL 32 line) 1, atW (cutL 32 line) 2)] } := by unfold gat; rw [if_neg (by omega), if_neg (by omega), if_neg (by omega), if_neg (by omega), if_neg (by omega), if_pos h]
theorem gat_6 {s : Sp} {line : List UInt8} (h : 6 ≤ kd line) : gat s line = s := by unfold gat; rw [if_neg (by omega), if_neg (by omega), if_neg (by omega), if_neg (by omega), if_neg (by omega), if_neg (by omega)]
theorem gat_of_read {r r' : Rd} {line : List UInt8} (h : readL r line = some r') : r'.sp = gat r.sp line := by
  unfold readL readW at h
  split at h
  case isFalse => cases h
  rw [Option.map_eq_some_iff] at h
  obtain ⟨s, hs, rfl⟩ := h
  show s = _
  have hcl := cut_ln line
  have hne := cut_ne 32 line
  unfold gat kd
  unfold unhx at *
  cases hc : cutL 32 line with
  | nil => exact absurd hc hne
  | cons f ws =>
    rw [hc] at hs hcl
    simp only [List.headD_cons, List.drop_one, List.tail_cons] at hs hcl ⊢
    obtain ⟨k, hk⟩ : ∃ k, kindL f = k := ⟨_, rfl⟩
    rw [hk] at hs
    simp only [hk]
    rcases kind_of hk with ⟨rfl, rfl⟩ | ⟨rfl, rfl⟩ | ⟨rfl, rfl⟩ | ⟨rfl, rfl⟩ | ⟨rfl, rfl⟩ | ⟨rfl, rfl⟩ | rfl
    · match ws, hs with
      | [x], hs =>
        unfold takeL at hs
        simp only at hs
        rw [if_pos rfl]
        by_cases h1 : x = wRanks
        · rw [if_pos h1] at hs
          subst h1
          cases hs
          rw [decide_eq_true (show line = lV true from hcl.symm)]
        · rw [if_neg h1] at hs
          by_cases h2 : x = wMerges
          · rw [if_pos h2] at hs
            subst h2
            cases hs
            rw [decide_eq_false]
            rw [← hcl]
            decide
          · rw [if_neg h2] at hs
            cases hs
      | [], hs => cases hs
      | _ :: _ :: _, hs => simp [takeL] at hs
    · match ws, hs with
      | [a, b], hs =>
        unfold takeL at hs
        simp only at hs
        split at hs
        case isFalse => cases hs
        rename_i hcc
        cases hs
        obtain ⟨hn1, hn2, hn3⟩ := hcc
        simp only [allN, List.all_cons, List.all_nil, Bool.and_true, Bool.and_eq_true] at hn1
        simp [atW, hn1.1, hn1.2]
      | [], hs => cases hs
      | [_], hs => simp [takeL] at hs
      | _ :: _ :: _ :: _, hs => simp [takeL] at hs
    · match ws, hs with
      | [a], hs =>
        unfold takeL at hs
        simp only at hs
        split at hs
        case isFalse => cases hs
        rename_i hcc
        cases hs
        obtain ⟨hn1, hn2, hn3⟩ := hcc
        simp [hexW, hn1]
      | [], hs => cases hs
      | _ :: _ :: _, hs => simp [takeL] at hs
    · match ws, hs with
      | [a, b], hs =>
        unfold takeL at hs
        simp only at hs
        split at hs
        case isFalse => cases hs
        rename_i hcc
        cases hs
        obtain ⟨hn1, hn2, hn3⟩ := hcc
        simp [atW, hexW, hn1.1, hn1.2]
      | [], hs => cases hs
      | [_], hs => simp [takeL] at hs
      | _ :: _ :: _ :: _, hs => simp [takeL] at hs
    · match ws, hs with
      | [a, b, c], hs =>
        unfold takeL at hs
        simp only at hs
        split at hs
        case isFalse => cases hs
        rename_i hcc
        cases hs
        obtain ⟨hn1, hn2, hn3⟩ := hcc
        simp only [allN, List.all_cons, List.all_nil, Bool.and_true, Bool.and_eq_true] at hn1
        simp [atW, hn1.1, hn1.2.1, hn1.2.2]
      | [], hs => cases hs
      | [_], hs => simp [takeL] at hs
      | [_, _], hs => simp [takeL] at hs
      | _ :: _ :: _ :: _ :: _, hs => simp [takeL] at hs
    · match ws, hs with
      | [a, b], hs =>
        unfold takeL at hs
        simp only at hs
        split at hs
        case isFalse => cases hs
        rename_i hcc
        cases hs
        obtain ⟨hn1, hn2, hn3⟩ := hcc
        simp only [allN, List.all_cons, List.all_nil, Bool.and_true, Bool.and_eq_true] at hn1
        simp [atW, hn1.1, hn1.2]
      | [], hs => cases hs
      | [_], hs => simp [takeL] at hs
      | _ :: _ :: _ :: _, hs => simp [takeL] at hs
    · simp [takeL] at hs

theorem kd_V (r : Bool) : kd (lV r) = 0 := by unfold kd; rw [(lV_line r).2]; exact kV
theorem kd_M {m : Int × Int} (h : okM m = true) : kd (lM m) = 1 := by unfold kd; rw [(lM_line h).2]; exact kM
theorem kd_T (t : ByteArray) : kd (lT t) = 2 := by unfold kd; rw [(lT_line t).2]; exact kT
theorem kd_S {s : Int × ByteArray} (h : okS s = true) : kd (lS s) = 3 := by unfold kd; rw [(lS_line h).2]; exact kS
theorem kd_C {c : Int × Int × Int} (h : okC c = true) : kd (lC c) = 4 := by unfold kd; rw [(lC_line h).2]; exact kC
theorem kd_J {j : Int × Int} (h : okJ j = true) : kd (lJ j) = 5 := by unfold kd; rw [(lJ_line h).2]; exact kJ
theorem last_case {A B : List (List UInt8)} {e line : List UInt8} (hB : ∀ l ∈ B, kd l ≠ kd line) (hl : (A ++ e :: B).getLast? = some line) : B = [] ∧ e = line := by
  rcases List.eq_nil_or_concat B with rfl | ⟨B', b, rfl⟩
  · rw [List.getLast?_append] at hl
    simp at hl
    exact ⟨rfl, hl⟩
  · exfalso
    rw [List.getLast?_append] at hl
    have : (e :: (B' ++ [b])).getLast? = some b := by
      rw [← List.cons_append, List.getLast?_append]; simp
    simp only [List.concat_eq_append] at *
    rw [this] at hl
    simp at hl
    subst hl
    exact hB b (by simp) rfl

theorem read_of_acc {r : Rd} {ls : List (List UInt8)} {line : List UInt8} (hi : r.Inv) (hrun : runL rd0 ls = (r, true)) (hR : (gat r.sp line).Right) (hlen : (gat r.sp line).lines.length = r.n + 1) (hx : (gat r.sp line).lines.getLast? = some line) : ∃ r', readL r line = some r' := by
  have hdone : r.done = ls := by
    have := (runL_sound ls rd0 rd0_inv).2 (by rw [hrun])
    rw [hrun] at this
    simpa [Rd.done, rd0] using this.1
  have key : (gat r.sp line).lines = r.done ++ [line] := by
    by_cases hn : r.n = 0
    · obtain ⟨hz, _⟩ := hi.zero hn
      have hd : r.done = [] := by unfold Rd.done; rw [if_pos hn]
      rw [hd, List.nil_append]
      rw [hn] at hlen
      generalize (gat r.sp line).lines = X at *
      match X, hlen with
      | [y], _ => simp at hx; rw [hx]
    · have hd : r.done = r.sp.lines := by unfold Rd.done; rw [if_neg hn]
      have hl0 := hi.len hn
      rw [hd]
      have hkl : ∀ k, kd line = k → (k = 0 ∨ k = 1 ∨ k = 2 ∨ k = 3 ∨ k = 4 ∨ k = 5 ∨ k = 6) := fun k hk => by
        rcases kind_of hk with ⟨h, _⟩ | ⟨h, _⟩ | ⟨h, _⟩ | ⟨h, _⟩ | ⟨h, _⟩ | ⟨h, _⟩ | h <;> omega
      obtain ⟨k, hk⟩ : ∃ k, kd line = k := ⟨_, rfl⟩
      rcases hkl k hk with rfl | rfl | rfl | rfl | rfl | rfl | rfl
      · exfalso
        rw [gat_0 hk] at hlen
        have : r.sp.lines.length = r.n + 1 := hlen
        omega
      · rw [gat_1 hk] at hR hlen hx ⊢
        generalize (atW (cutL 32 line) 1, atW (cutL 32 line) 2) = e at *
        have e1 : Sp.lines ({ r.sp with merges := r.sp.merges ++ [e] } : Sp) = (lV r.sp.ranked :: r.sp.merges.map lM) ++ lM e :: (r.sp.tokens.map lT ++ (r.sp.specials.map lS ++ (r.sp.classes.map lC ++ r.sp.joins.map lJ))) := by simp [Sp.lines, Sp.body]
        have e2 : r.sp.lines = (lV r.sp.ranked :: r.sp.merges.map lM) ++ (r.sp.tokens.map lT ++ (r.sp.specials.map lS ++ (r.sp.classes.map lC ++ r.sp.joins.map lJ))) := by simp [Sp.lines, Sp.body]
        rw [e1] at hx
        obtain ⟨hB, he⟩ := last_case (fun l hl => by
          rw [hk]
          simp only [List.mem_append, List.mem_map] at hl
          rcases hl with ⟨x, hx, rfl⟩ | ⟨x, hx, rfl⟩ | ⟨x, hx, rfl⟩ | ⟨x, hx, rfl⟩
          · rw [kd_T]; omega
          · rw [kd_S (hR.asp x hx)]; omega
          · rw [kd_C (hR.ac x hx)]; omega
          · rw [kd_J (hR.aj x hx)]; omega) hx
        rw [e1, e2, hB, he]
        simp
      · rw [gat_2 hk] at hR hlen hx ⊢
        generalize hexW (cutL 32 line) 1 = e at *
        have e1 : Sp.lines ({ r.sp with tokens := r.sp.tokens ++ [e] } : Sp) = (lV r.sp.ranked :: (r.sp.merges.map lM ++ r.sp.tokens.map lT)) ++ lT e :: (r.sp.specials.map lS ++ (r.sp.classes.map lC ++ r.sp.joins.map lJ)) := by simp [Sp.lines, Sp.body]
        have e2 : r.sp.lines = (lV r.sp.ranked :: (r.sp.merges.map lM ++ r.sp.tokens.map lT)) ++ (r.sp.specials.map lS ++ (r.sp.classes.map lC ++ r.sp.joins.map lJ)) := by simp [Sp.lines, Sp.body]
        rw [e1] at hx
        obtain ⟨hB, he⟩ := last_case (fun l hl => by
          rw [hk]
          simp only [List.mem_append, List.mem_map] at hl
          rcases hl with ⟨x, hx, rfl⟩ | ⟨x, hx, rfl⟩ | ⟨x, hx, rfl⟩
          · rw [kd_S (hR.asp x hx)]; omega
          · rw [kd_C (hR.ac x hx)]; omega
          · rw [kd_J (hR.aj x hx)]; omega) hx
        rw [e1, e2, hB, he]
        simp
      · rw [gat_3 hk] at hR hlen hx ⊢
        generalize (atW (cutL 32 line) 1, hexW (cutL 32 line) 2) = e at *
        have e1 : Sp.lines ({ r.sp with specials := r.sp.specials ++ [e] } : Sp) = (lV r.sp.ranked :: (r.sp.merges.map lM ++ (r.sp.tokens.map lT ++ r.sp.specials.map lS))) ++ lS e :: (r.sp.classes.map lC ++ r.sp.joins.map lJ) := by simp [Sp.lines, Sp.body]
        have e2 : r.sp.lines = (lV r.sp.ranked :: (r.sp.merges.map lM ++ (r.sp.tokens.map lT ++ r.sp.specials.map lS))) ++ (r.sp.classes.map lC ++ r.sp.joins.map lJ) := by simp [Sp.lines, Sp.body]
        rw [e1] at hx
        obtain ⟨hB, he⟩ := last_case (fun l hl => by
          rw [hk]
          simp only [List.mem_append, List.mem_map] at hl
          rcases hl with ⟨x, hx, rfl⟩ | ⟨x, hx, rfl⟩
          · rw [kd_C (hR.ac x hx)]; omega
          · rw [kd_J (hR.aj x hx)]; omega) hx
        rw [e1, e2, hB, he]
        simp
      · rw [gat_4 hk] at hR hlen hx ⊢
        generalize (atW (cutL 32 line) 1, atW (cutL 32 line) 2, atW (cutL 32 line) 3) = e at *
        have e1 : Sp.lines ({ r.sp with classes := r.sp.classes ++ [e] } : Sp) = (lV r.sp.ranked :: (r.sp.merges.map lM ++ (r.sp.tokens.map lT ++ (r.sp.specials.map lS ++ r.sp.classes.map lC)))) ++ lC e :: r.sp.joins.map lJ := by simp [Sp.lines, Sp.body]
        have e2 : r.sp.lines = (lV r.sp.ranked :: (r.sp.merges.map lM ++ (r.sp.tokens.map lT ++ (r.sp.specials.map lS ++ r.sp.classes.map lC)))) ++ r.sp.joins.map lJ := by simp [Sp.lines, Sp.body]
        rw [e1] at hx
        obtain ⟨hB, he⟩ := last_case (fun l hl => by
          rw [hk]
          simp only [List.mem_map] at hl
          obtain ⟨x, hx, rfl⟩ := hl
          rw [kd_J (hR.aj x hx)]; omega) hx
        rw [e1, e2, hB, he]
        simp
      · rw [gat_5 hk] at hR hlen hx ⊢
        generalize (atW (cutL 32 line) 1, atW (cutL 32 line) 2) = e at *
        have e1 : Sp.lines ({ r.sp with joins := r.sp.joins ++ [e] } : Sp) = (lV r.sp.ranked :: (r.sp.merges.map lM ++ (r.sp.tokens.map lT ++ (r.sp.specials.map lS ++ (r.sp.classes.map lC ++ r.sp.joins.map lJ))))) ++ lJ e :: [] := by simp [Sp.lines, Sp.body]
        have e2 : r.sp.lines = lV r.sp.ranked :: (r.sp.merges.map lM ++ (r.sp.tokens.map lT ++ (r.sp.specials.map lS ++ (r.sp.classes.map lC ++ r.sp.joins.map lJ)))) := by simp [Sp.lines, Sp.body]
        rw [e1] at hx
        obtain ⟨_, he⟩ := last_case (fun l hl => by cases hl) hx
        rw [e1, e2, he]
      · exfalso
        rw [gat_6 (by omega)] at hlen
        omega
  obtain ⟨k, hk⟩ := run_lines hR
  rw [key, hdone, runL_append _ _ _ (by rw [hrun]), hrun] at hk
  unfold runL at hk
  cases h : readL r line with
  | none => rw [h] at hk; simp at hk
  | some r' => exact ⟨r', rfl⟩
/-- One line, as the document reads it. -/
theorem step_same {r : Rd} {ls : List (List UInt8)} {line : List UInt8} (hi : r.Inv) (hrun : runL rd0 ls = (r, true)) :
    ((gat r.sp line).Right ∧ (gat r.sp line).lines.length = r.n + 1 ∧ (gat r.sp line).lines.getLast? = some line ∧ ∃ r', readL r line = some r' ∧ r'.sp = gat r.sp line ∧ r'.Inv ∧ runL rd0 (ls ++ [line]) = (r', true) ∧ r'.n = r.n + 1) ∨
    (¬ ((gat r.sp line).Right ∧ (gat r.sp line).lines.length = r.n + 1 ∧ (gat r.sp line).lines.getLast? = some line) ∧ readL r line = none) := by
  cases h : readL r line with
  | none =>
    right
    refine ⟨fun ⟨h1, h2, h3⟩ => ?_, rfl⟩
    obtain ⟨r', hr⟩ := read_of_acc hi hrun h1 h2 h3
    rw [h] at hr
    cases hr
  | some r' =>
    left
    have hg := gat_of_read h
    obtain ⟨i1, i2, i3⟩ := readL_sound hi h
    have hd : r'.done = r'.sp.lines := by unfold Rd.done; rw [if_neg (by omega)]
    rw [← hg]
    refine ⟨i1.right, by rw [i1.len (by omega), i3], by rw [← hd, i2, List.getLast?_append]; simp, r', rfl, rfl, i1, ?_, i3⟩
    rw [runL_append _ _ _ (by rw [hrun]), hrun]
    unfold runL
    rw [h]
    rfl
end Go.Proofs.YteiinkhdgppgbaaGreatDoor
