/- A vocabulary as a text: the plain mathematics. -/
import Derived.Test.YtfjcfkkcdbojlaaGreatQa2
import Derived.Test.YtfjcfkkcdbojlaaGreatQa4
import Derived.Test.YtfjcfkkcdbojlaaGreatQa5
namespace Go.Proofs.YtfjcfkkcdbojlaaGreat.Wf
set_option linter.unusedVariables false
set_option linter.unusedSimpArgs false

/-- A spec, as plain data. -/
structure Sp where
  ranked : Bool
  merges : List (Int × Int)
  tokens : List ByteArray
  specials : List (Int × ByteArray)
  classes : List (Int × Int × Int)
  joins : List (Int × Int)

def Sp.zero : Sp := ⟨false, [], [], [], [], []⟩
def okM (m : Int × Int) : Bool := decide (0 ≤ m.1 ∧ m.1 ≤ 999 ∧ 0 ≤ m.2 ∧ m.2 ≤ 999)
def okT (t : ByteArray) : Bool := decide (2 ≤ t.size ∧ t.size ≤ 64)
def okS (s : Int × ByteArray) : Bool := decide (0 ≤ s.1 ∧ s.1 ≤ 1073741824 ∧ 1 ≤ s.2.size ∧ s.2.size ≤ 64)
def okC (c : Int × Int × Int) : Bool := decide (0 ≤ c.1 ∧ c.1 ≤ c.2.1 ∧ c.2.1 ≤ 255 ∧ 0 ≤ c.2.2 ∧ c.2.2 ≤ 15)
def okJ (j : Int × Int) : Bool := decide (0 ≤ j.1 ∧ j.1 ≤ 15 ∧ 0 ≤ j.2 ∧ j.2 ≤ 15)
def roomM (r : Bool) : Nat := if r then 0 else 744
def roomT (r : Bool) : Nat := if r then 744 else 0
/-- Is it right? -/
structure Sp.Right (s : Sp) : Prop where
  nm : s.merges.length ≤ roomM s.ranked
  am : ∀ x ∈ s.merges, okM x = true
  nt : s.tokens.length ≤ roomT s.ranked
  atk : ∀ x ∈ s.tokens, okT x = true
  ns : s.specials.length ≤ 32
  asp : ∀ x ∈ s.specials, okS x = true
  nc : s.classes.length ≤ 64
  ac : ∀ x ∈ s.classes, okC x = true
  nj : s.joins.length ≤ 64
  aj : ∀ x ∈ s.joins, okJ x = true

def wVocab : List UInt8 := [118, 111, 99, 97, 98]
def wMerge : List UInt8 := [109, 101, 114, 103, 101]
def wToken : List UInt8 := [116, 111, 107, 101, 110]
def wSpecial : List UInt8 := [115, 112, 101, 99, 105, 97, 108]
def wClass : List UInt8 := [99, 108, 97, 115, 115]
def wJoin : List UInt8 := [106, 111, 105, 110]
def wMerges : List UInt8 := [109, 101, 114, 103, 101, 115]
def wRanks : List UInt8 := [114, 97, 110, 107, 115]

/-- Words with one blank between. -/
def ln (f : List UInt8) (ws : List (List UInt8)) : List UInt8 := f ++ ws.flatMap (fun w => 32 :: w)
/-- Lines, each ended. -/
def txt (ls : List (List UInt8)) : List UInt8 := ls.flatMap (fun l => l ++ [10])
def hexb (s : ByteArray) : List UInt8 := (hexS s).data.toList
def lV (r : Bool) : List UInt8 := ln wVocab [if r then wRanks else wMerges]
def lM (m : Int × Int) : List UInt8 := ln wMerge [Lib.itoa m.1, Lib.itoa m.2]
def lT (t : ByteArray) : List UInt8 := ln wToken [hexb t]
def lS (s : Int × ByteArray) : List UInt8 := ln wSpecial [Lib.itoa s.1, hexb s.2]
def lC (c : Int × Int × Int) : List UInt8 := ln wClass [Lib.itoa c.1, Lib.itoa c.2.1, Lib.itoa c.2.2]
def lJ (j : Int × Int) : List UInt8 := ln wJoin [Lib.itoa j.1, Lib.itoa j.2]
def Sp.body (s : Sp) : List (List UInt8) := s.merges.map lM ++ (s.tokens.map lT ++ (s.specials.map lS ++ (s.classes.map lC ++ s.joins.map lJ)))
def Sp.lines (s : Sp) : List (List UInt8) := lV s.ranked :: s.body
def Sp.text (s : Sp) : List UInt8 := txt s.lines

/-! The reader. -/
def kindL (w : List UInt8) : Nat := if w = wVocab then 0 else if w = wMerge then 1 else if w = wToken then 2 else if w = wSpecial then 3 else if w = wClass then 4 else if w = wJoin then 5 else 6
def maxId : Int := 1073741824
def nums (ws : List (List UInt8)) : List Int := ws.map (fun w => (parseS w maxId).1)
def allN (ws : List (List UInt8)) : Bool := ws.all (fun w => (parseS w maxId).2)
def unhx (w : List UInt8) : ByteArray × Bool := unhexS ⟨w.toArray⟩
structure Rd where
  sp : Sp
  n : Nat
  k : Nat
def takeL (s : Sp) (k : Nat) (ws : List (List UInt8)) : Option Sp :=
  match k, ws with
  | 0, [x] => if x = wRanks then some { s with ranked := true } else if x = wMerges then some { s with ranked := false } else none
  | 1, [a, b] => if allN [a, b] = true ∧ s.merges.length < roomM s.ranked ∧ okM ((parseS a maxId).1, (parseS b maxId).1) = true then some { s with merges := s.merges ++ [((parseS a maxId).1, (parseS b maxId).1)] } else none
  | 2, [x] => if (unhx x).2 = true ∧ s.tokens.length < roomT s.ranked ∧ okT (unhx x).1 = true then some { s with tokens := s.tokens ++ [(unhx x).1] } else none
  | 3, [a, x] => if ((parseS a maxId).2 = true ∧ (unhx x).2 = true) ∧ s.specials.length < 32 ∧ okS ((parseS a maxId).1, (unhx x).1) = true then some { s with specials := s.specials ++ [((parseS a maxId).1, (unhx x).1)] } else none
  | 4, [a, b, c] => if allN [a, b, c] = true ∧ s.classes.length < 64 ∧ okC ((parseS a maxId).1, (parseS b maxId).1, (parseS c maxId).1) = true then some { s with classes := s.classes ++ [((parseS a maxId).1, (parseS b maxId).1, (parseS c maxId).1)] } else none
  | 5, [a, b] => if allN [a, b] = true ∧ s.joins.length < 64 ∧ okJ ((parseS a maxId).1, (parseS b maxId).1) = true then some { s with joins := s.joins ++ [((parseS a maxId).1, (parseS b maxId).1)] } else none
  | _, _ => none
def folL (n k0 k : Nat) : Bool := if n = 0 then decide (k = 0) else decide (k ≠ 0) && decide (k0 ≤ k)
def readW (r : Rd) (f : List UInt8) (ws : List (List UInt8)) : Option Rd :=
  if folL r.n r.k (kindL f) = true then (takeL r.sp (kindL f) ws).map (fun s => ⟨s, r.n + 1, kindL f⟩) else none
def readL (r : Rd) (line : List UInt8) : Option Rd := readW r ((cutL 32 line).headD []) ((cutL 32 line).drop 1)
def runL (r : Rd) : List (List UInt8) → Rd × Bool
  | [] => (r, true)
  | l :: ls => match readL r l with
    | none => (r, false)
    | some r' => runL r' ls
def rd0 : Rd := ⟨Sp.zero, 0, 0⟩
/-- What is told of lines that were cut, the last one apart. -/
def parseC (ls : List (List UInt8)) (x : List UInt8) : Sp × Nat × Int :=
  let q := runL rd0 ls
  if q.2 = true ∧ x = [] ∧ q.1.n ≠ 0 then (q.1.sp, 0, 0) else (Sp.zero, q.1.n + 1, 2)
def parseP (t : List UInt8) : Sp × Nat × Int :=
  if 60000 < t.length then (Sp.zero, 0, 3) else parseC (cutL 10 t).dropLast ((cutL 10 t).getLastD [])

/-! Cutting. -/
theorem cut_ne (c : UInt8) (s : List UInt8) : cutL c s ≠ [] := by
  intro h
  have h1 := cut_len (c := c) s
  rw [h] at h1
  simp at h1
theorem cut_ln : ∀ (s : List UInt8), ln ((cutL 32 s).headD []) ((cutL 32 s).drop 1) = s
  | [] => rfl
  | b :: l => by
    have ih := cut_ln l
    have hn := cut_ne 32 l
    simp only [cutL]
    by_cases h : b = 32
    · subst h
      rw [if_pos rfl]
      cases hx : cutL 32 l with
      | nil => exact absurd hx hn
      | cons x r =>
        rw [hx] at ih
        simpa [ln] using ih
    · rw [if_neg h]
      cases hx : cutL 32 l with
      | nil => exact absurd hx hn
      | cons x r =>
        rw [hx] at ih
        simpa [ln] using ih
theorem ln_cut : ∀ (ws : List (List UInt8)) (f : List UInt8), (∀ x ∈ f, x ≠ 32) → (∀ w ∈ ws, ∀ x ∈ w, x ≠ 32) → cutL 32 (ln f ws) = f :: ws
  | [], f, hf, _ => by simpa [ln] using cut_end f hf
  | w :: ws, f, hf, hw => by
    have ih := ln_cut ws w (hw w List.mem_cons_self) (fun v hv => hw v (List.mem_cons_of_mem _ hv))
    have h1 := cut_mid (c := 32) (ln w ws) f hf
    have h2 : ln f (w :: ws) = f ++ 32 :: ln w ws := by simp [ln]
    rw [h2, h1, ih]
theorem cut_txt : ∀ (s : List UInt8), txt (cutL 10 s).dropLast ++ (cutL 10 s).getLastD [] = s
  | [] => rfl
  | b :: l => by
    have ih := cut_txt l
    have hn := cut_ne 10 l
    simp only [cutL]
    cases hx : cutL 10 l with
    | nil => exact absurd hx hn
    | cons x r =>
      rw [hx] at ih
      by_cases h : b = 10
      · subst h
        rw [if_pos rfl]
        cases r <;> simp [txt] at ih ⊢ <;> exact ih
      · rw [if_neg h]
        cases r <;> simp [txt] at ih ⊢ <;> exact ih
theorem txt_cut : ∀ (ls : List (List UInt8)) (x : List UInt8), (∀ l ∈ ls, ∀ c ∈ l, c ≠ 10) → (∀ c ∈ x, c ≠ 10) → cutL 10 (txt ls ++ x) = ls ++ [x]
  | [], x, _, hx => by simpa [txt] using cut_end x hx
  | l :: ls, x, hl, hx => by
    have ih := txt_cut ls x (fun v hv => hl v (List.mem_cons_of_mem _ hv)) hx
    have h1 := cut_mid (c := 10) (txt ls ++ x) l (hl l List.mem_cons_self)
    have h2 : txt (l :: ls) ++ x = l ++ 10 :: (txt ls ++ x) := by simp [txt]
    rw [h2, h1, ih]
    rfl
theorem txt_append (a b : List (List UInt8)) : txt (a ++ b) = txt a ++ txt b := by simp [txt]

/-! Words have no blanks and no newlines. -/
def Plain (l : List UInt8) : Prop := ∀ x ∈ l, x ≠ 32 ∧ x ≠ 10
theorem itoa_plain (n : Int) (h : 0 ≤ n) : Plain (Lib.itoa n) := by
  intro x hx
  rw [Lib.itoa, if_neg (by omega)] at hx
  have := dec_isD _ x hx
  unfold IsD at this
  constructor <;> (rintro rfl; revert this; decide)
theorem hx_plain (n : Nat) (h : n < 16) : hx n ≠ 32 ∧ hx n ≠ 10 := by
  have : ∀ n : Fin 16, hx n.1 ≠ 32 ∧ hx n.1 ≠ 10 := by decide
  exact this ⟨n, h⟩
theorem hexb_plain (s : ByteArray) : Plain (hexb s) := by
  intro x hx
  unfold hexb hexS at hx
  split at hx
  · simp at hx
    subst hx
    decide
  · simp only [hexL, List.mem_flatMap] at hx
    obtain ⟨c, _, hc⟩ := hx
    have hlt := c.toNat_lt
    simp only [hex2, List.mem_cons, List.not_mem_nil, or_false] at hc
    rcases hc with rfl | rfl
    · exact hx_plain _ (by omega)
    · exact hx_plain _ (by omega)
theorem ln_line (f : List UInt8) (ws : List (List UInt8)) (hf : Plain f) (hw : ∀ w ∈ ws, Plain w) : (∀ c ∈ ln f ws, c ≠ 10) ∧ cutL 32 (ln f ws) = f :: ws := by
  refine ⟨?_, ln_cut ws f (fun x hx => (hf x hx).1) (fun w hw' x hx => (hw w hw' x hx).1)⟩
  intro c hc
  simp only [ln, List.mem_append, List.mem_flatMap, List.mem_cons] at hc
  rcases hc with hc | ⟨w, hw', rfl | hc⟩
  · exact (hf c hc).2
  · decide
  · exact (hw w hw' c hc).2

/-! Numbers and bytes, told and read. -/
theorem parse_itoa (n : Int) (h0 : 0 ≤ n) (h1 : n ≤ maxId) : parseS (Lib.itoa n) maxId = (n, true) := by
  obtain ⟨k, rfl⟩ := Int.eq_ofNat_of_zero_le h0
  have hi : Lib.itoa (k : Int) = Lib.decDigits k := by rw [Lib.itoa, if_neg (by omega), Int.toNat_natCast]
  unfold maxId at h1
  have hg : Good (Lib.decDigits k) maxId := by
    refine ⟨dec_ne _, dec_isD _, fun hl => dec_head _ ?_, ?_, ?_⟩
    · have := dec_one _ hl
      omega
    · rw [dec_val]; omega
    · rw [dec_val]; unfold maxId; omega
  rw [hi, parseS_good _ _ hg, dec_val]
theorem parse_ok {w : List UInt8} (h : (parseS w maxId).2 = true) : Lib.itoa (parseS w maxId).1 = w ∧ 0 ≤ (parseS w maxId).1 ∧ (parseS w maxId).1 ≤ maxId := by
  unfold parseS at h ⊢
  split at h
  · rename_i n hn
    split at h
    · rename_i h2
      rw [if_pos h2]
      exact ⟨h2.2.2, h2.1, h2.2.1⟩
    · cases h
  · cases h
theorem unhx_hexb (s : ByteArray) : unhx (hexb s) = (s, true) := by
  unfold unhx hexb
  exact unhex_hex s
theorem hexb_unhx {w : List UInt8} (h : (unhx w).2 = true) : hexb (unhx w).1 = w := by
  unfold unhx at h ⊢
  unfold hexb
  rw [hex_unhex _ h]
end Go.Proofs.YtfjcfkkcdbojlaaGreat.Wf
