/- A vocabulary as a text: the plain mathematics. A vocabulary as a text: what is read is printed as it was, what is printed is read as it was. -/
import Derived.Test.YtdpmjaelbjjanaaGreatQa2
import Derived.Test.YtdpmjaelbjjanaaGreatQa3
import Derived.Test.YtdpmjaelbjjanaaGreatQa4
namespace Go.Proofs.YtdpmjaelbjjanaaGreat.Wf
set_option linter.unusedVariables false
set_option linter.unusedSimpArgs false

/-- A spec, as plain data. -/
structure Sp where
  ranked : Bool
  merges : List (Int × Int)
  tokens : List ByteArray
  specials : List (Int × ByteArray)
  classes : List (Int × Int × Int)
  joins : List (Int × Int)

def Sp.zero : Sp := ⟨false, [], [], [], [], []⟩
def okM (m : Int × Int) : Bool := decide (0 ≤ m.1 ∧ m.1 ≤ 999 ∧ 0 ≤ m.2 ∧ m.2 ≤ 999)
def okT (t : ByteArray) : Bool := decide (2 ≤ t.size ∧ t.size ≤ 64)
def okS (s : Int × ByteArray) : Bool := decide (0 ≤ s.1 ∧ s.1 ≤ 1073741824 ∧ 1 ≤ s.2.size ∧ s.2.size ≤ 64)
def okC (c : Int × Int × Int) : Bool := decide (0 ≤ c.1 ∧ c.1 ≤ c.2.1 ∧ c.2.1 ≤ 255 ∧ 0 ≤ c.2.2 ∧ c.2.2 ≤ 15)
def okJ (j : Int × Int) : Bool := decide (0 ≤ j.1 ∧ j.1 ≤ 15 ∧ 0 ≤ j.2 ∧ j.2 ≤ 15)
def roomM (r : Bool) : Nat := if r then 0 else 744
def roomT (r : Bool) : Nat := if r then 744 else 0
/-- Is it right? -/
structure Sp.Right (s : Sp) : Prop where
  nm : s.merges.length ≤ roomM s.ranked
  am : ∀ x ∈ s.merges, okM x = true
  nt : s.tokens.length ≤ roomT s.ranked
  atk : ∀ x ∈ s.tokens, okT x = true
  ns : s.specials.length ≤ 32
  asp : ∀ x ∈ s.specials, okS x = true
  nc : s.classes.length ≤ 64
  ac : ∀ x ∈ s.classes, okC x = true
  nj : s.joins.length ≤ 64
  aj : ∀ x ∈ s.joins, okJ x = true

def wVocab : List UInt8 := [118, 111, 99, 97, 98]
def wMerge : List UInt8 := [109, 101, 114, 103, 101]
def wToken : List UInt8 := [116, 111, 107, 101, 110]
def wSpecial : List UInt8 := [115, 112, 101, 99, 105, 97, 108]
def wClass : List UInt8 := [99, 108, 97, 115, 115]
def wJoin : List UInt8 := [106, 111, 105, 110]
def wMerges : List UInt8 := [109, 101, 114, 103, 101, 115]
def wRanks : List UInt8 := [114, 97, 110, 107, 115]

/-- Words with one blank between. -/
def ln (f : List UInt8) (ws : List (List UInt8)) : List UInt8 := f ++ ws.flatMap (fun w => 32 :: w)
/-- Lines, each ended. -/
def txt (ls : List (List UInt8)) : List UInt8 := ls.flatMap (fun l => l ++ [10])
def hexb (s : ByteArray) : List UInt8 := (hexS s).data.toList
def lV (r : Bool) : List UInt8 := ln wVocab [if r then wRanks else wMerges]
def lM (m : Int × Int) : List UInt8 := ln wMerge [Lib.itoa m.1, Lib.itoa m.2]
def lT (t : ByteArray) : List UInt8 := ln wToken [hexb t]
def lS (s : Int × ByteArray) : List UInt8 := ln wSpecial [Lib.itoa s.1, hexb s.2]
def lC (c : Int × Int × Int) : List UInt8 := ln wClass [Lib.itoa c.1, Lib.itoa c.2.1, Lib.itoa c.2.2]
def lJ (j : Int × Int) : List UInt8 := ln wJoin [Lib.itoa j.1, Lib.itoa j.2]
def Sp.body (s : Sp) : List (List UInt8) := s.merges.map lM ++ (s.tokens.map lT ++ (s.specials.map lS ++ (s.classes.map lC ++ s.joins.map lJ)))
def Sp.lines (s : Sp) : List (List UInt8) := lV s.ranked :: s.body
def Sp.text (s : Sp) : List UInt8 := txt s.lines

/-! The reader. -/
def kindL (w : List UInt8) : Nat := if w = wVocab then 0 else if w = wMerge then 1 else if w = wToken then 2 else if w = wSpecial then 3 else if w = wClass then 4 else if w = wJoin then 5 else 6
def maxId : Int := 1073741824
def nums (ws : List (List UInt8)) : List Int := ws.map (fun w => (parseS w maxId).1)
def allN (ws : List (List UInt8)) : Bool := ws.all (fun w => (parseS w maxId).2)
def unhx (w : List UInt8) : ByteArray × Bool := unhexS ⟨w.toArray⟩
structure Rd where
  sp : Sp
  n : Nat
  k : Nat
def takeL (s : Sp) (k : Nat) (ws : List (List UInt8)) : Option Sp :=
  match k, ws with
  | 0, [x] => if x = wRanks then some { s with ranked := true } else if x = wMerges then some { s with ranked := false } else none
  | 1, [a, b] => if allN [a, b] = true ∧ s.merges.length < roomM s.ranked ∧ okM ((parseS a maxId).1, (parseS b maxId).1) = true then some { s with merges := s.merges ++ [((parseS a maxId).1, (parseS b maxId).1)] } else none
  | 2, [x] => if (unhx x).2 = true ∧ s.tokens.length < roomT s.ranked ∧ okT (unhx x).1 = true then some { s with tokens := s.tokens ++ [(unhx x).1] } else none
  | 3, [a, x] => if ((parseS a maxId).2 = true ∧ (unhx x).2 = true) ∧ s.specials.length < 32 ∧ okS ((parseS a maxId).1, (unhx x).1) = true then some { s with specials := s.specials ++ [((parseS a maxId).1, (unhx x).1)] } else none
  | 4, [a, b, c] => if allN [a, b, c] = true ∧ s.classes.length < 64 ∧ okC ((parseS a maxId).1, (parseS b maxId).1, (parseS c maxId).1) = true then some { s with classes := s.classes ++ [((parseS a maxId).1, (parseS b maxId).1, (parseS c maxId).1)] } else none
  | 5, [a, b] => if allN [a, b] = true ∧ s.joins.length < 64 ∧ okJ ((parseS a maxId).1, (parseS b maxId).1) = true then some { s with joins := s.joins ++ [((parseS a maxId).1, (parseS b maxId).1)] } else none
  | _, _ => none
def folL (n k0 k : Nat) : Bool := if n = 0 then decide (k = 0) else decide (k ≠ 0) && decide (k0 ≤ k)
def readW (r : Rd) (f : List UInt8) (ws : List (List UInt8)) : Option Rd :=
  if folL r.n r.k (kindL f) = true then (takeL r.sp (kindL f) ws).map (fun s => ⟨s, r.n + 1, kindL f⟩) else none
def readL (r : Rd) (line : List UInt8) : Option Rd := readW r ((cutL 32 line).headD []) ((cutL 32 line).drop 1)
def runL (r : Rd) : List (List UInt8) → Rd × Bool
  | [] => (r, true)
  | l :: ls => match readL r l with
    | none => (r, false)
    | some r' => runL r' ls
def rd0 : Rd := ⟨Sp.zero, 0, 0⟩
/-- What is told of lines that were cut, the last one apart. -/
def parseC (ls : List (List UInt8)) (x : List UInt8) : Sp × Nat × Int :=
  let q := runL rd0 ls
  if q.2 = true ∧ x = [] ∧ q.1.n ≠ 0 then (q.1.sp, 0, 0) else (Sp.zero, q.1.n + 1, 2)
def parseP (t : List UInt8) : Sp × Nat × Int :=
  if 60000 < t.length then (Sp.zero, 0, 3) else parseC (cutL 10 t).dropLast ((cutL 10 t).getLastD [])

/-! Cutting. -/
theorem cut_ne (c : UInt8) (s : List UInt8) : cutL c s ≠ [] := by
  intro h
  have h1 := cut_len (c := c) s
  rw [h] at h1
  simp at h1
theorem cut_ln : ∀ (s : List UInt8), ln ((cutL 32 s).headD []) ((cutL 32 s).drop 1) = s
  | [] => rfl
  | b :: l => by
    have ih := cut_ln l
    have hn := cut_ne 32 l
    simp only [cutL]
    by_cases h : b = 32
    · subst h
      rw [if_pos rfl]
      cases hx : cutL 32 l with
      | nil => exact absurd hx hn
      | cons x r =>
        rw [hx] at ih
        simpa [ln] using ih
    · rw [if_neg h]
      cases hx : cutL 32 l with
      | nil => exact absurd hx hn
      | cons x r =>
        rw [hx] at ih
        simpa [ln] using ih
theorem ln_cut : ∀ (ws : List (List UInt8)) (f : List UInt8), (∀ x ∈ f, x ≠ 32) → (∀ w ∈ ws, ∀ x ∈ w, x ≠ 32) → cutL 32 (ln f ws) = f :: ws
  | [], f, hf, _ => by simpa [ln] using cut_end f hf
  | w :: ws, f, hf, hw => by
    have ih := ln_cut ws w (hw w List.mem_cons_self) (fun v hv => hw v (List.mem_cons_of_mem _ hv))
    have h1 := cut_mid (c := 32) (ln w ws) f hf
    have h2 : ln f (w :: ws) = f ++ 32 :: ln w ws := by simp [ln]
    rw [h2, h1, ih]
theorem cut_txt : ∀ (s : List UInt8), txt (cutL 10 s).dropLast ++ (cutL 10 s).getLastD [] = s
  | [] => rfl
  | b :: l => by
    have ih := cut_txt l
    have hn := cut_ne 10 l
    simp only [cutL]
    cases hx : cutL 10 l with
    | nil => exact absurd hx hn
    | cons x r =>
      rw [hx] at ih
      by_cases h : b = 10
      · subst h
        rw [if_pos rfl]
        cases r <;> simp [txt] at ih ⊢ <;> exact ih
      · rw [if_neg h]
        cases r <;> simp [txt] at ih ⊢ <;> exact ih
theorem txt_cut : ∀ (ls : List (List UInt8)) (x : List UInt8), (∀ l ∈ ls, ∀ c ∈ l, c ≠ 10) → (∀ c ∈ x, c ≠ 10) → cutL 10 (txt ls ++ x) = ls ++ [x]
  | [], x, _, hx => by simpa [txt] using cut_end x hx
  | l :: ls, x, hl, hx => by
    have ih := txt_cut ls x (fun v hv => hl v (List.mem_cons_of_mem _ hv)) hx
    have h1 := cut_mid (c := 10) (txt ls ++ x) l (hl l List.mem_cons_self)
    have h2 : txt (l :: ls) ++ x = l ++ 10 :: (txt ls ++ x) := by simp [txt]
    rw [h2, h1, ih]
    rfl
theorem txt_append (a b : List (List UInt8)) : txt (a ++ b) = txt a ++ txt b := by simp [txt]

/-! Words have no blanks and no newlines. -/
def Plain (l : List UInt8) : Prop := ∀ x ∈ l, x ≠ 32 ∧ x ≠ 10
theorem itoa_plain (n : Int) (h : 0 ≤ n) : Plain (Lib.itoa n) := by
  intro x hx
  rw [Lib.itoa, if_neg (by omega)] at hx
  have := dec_isD _ x hx
  unfold IsD at this
  constructor <;> (rintro rfl; revert this; decide)
theorem hx_plain (n : Nat) (h : n < 16) : hx n ≠ 32 ∧ hx n ≠ 10 := by
  have : ∀ n : Fin 16, hx n.1 ≠ 32 ∧ hx n.1 ≠ 10 := by decide
  exact this ⟨n, h⟩
theorem hexb_plain (s : ByteArray) : Plain (hexb s) := by
  intro x hx
  unfold hexb hexS at hx
  split at hx
  · simp at hx
    subst hx
    decide
  · simp only [hexL, List.mem_flatMap] at hx
    obtain ⟨c, _, hc⟩ := hx
    have hlt := c.toNat_lt
    simp only [hex2, List.mem_cons, List.not_mem_nil, or_false] at hc
    rcases hc with rfl | rfl
    · exact hx_plain _ (by omega)
    · exact hx_plain _ (by omega)
theorem ln_line (f : List UInt8) (ws : List (List UInt8)) (hf : Plain f) (hw : ∀ w ∈ ws, Plain w) : (∀ c ∈ ln f ws, c ≠ 10) ∧ cutL 32 (ln f ws) = f :: ws := by
  refine ⟨?_, ln_cut ws f (fun x hx => (hf x hx).1) (fun w hw' x hx => (hw w hw' x hx).1)⟩
  intro c hc
  simp only [ln, List.mem_append, List.mem_flatMap, List.mem_cons] at hc
  rcases hc with hc | ⟨w, hw', rfl | hc⟩
  · exact (hf c hc).2
  · decide
  · exact (hw w hw' c hc).2

/-! Numbers and bytes, told and read. -/
theorem parse_itoa (n : Int) (h0 : 0 ≤ n) (h1 : n ≤ maxId) : parseS (Lib.itoa n) maxId = (n, true) := by
  obtain ⟨k, rfl⟩ := Int.eq_ofNat_of_zero_le h0
  have hi : Lib.itoa (k : Int) = Lib.decDigits k := by rw [Lib.itoa, if_neg (by omega), Int.toNat_natCast]
  unfold maxId at h1
  have hg : Good (Lib.decDigits k) maxId := by
    refine ⟨dec_ne _, dec_isD _, fun hl => dec_head _ ?_, ?_, ?_⟩
    · have := dec_one _ hl
      omega
    · rw [dec_val]; omega
    · rw [dec_val]; unfold maxId; omega
  rw [hi, parseS_good _ _ hg, dec_val]
theorem parse_ok {w : List UInt8} (h : (parseS w maxId).2 = true) : Lib.itoa (parseS w maxId).1 = w ∧ 0 ≤ (parseS w maxId).1 ∧ (parseS w maxId).1 ≤ maxId := by
  unfold parseS at h ⊢
  split at h
  · rename_i n hn
    split at h
    · rename_i h2
      rw [if_pos h2]
      exact ⟨h2.2.2, h2.1, h2.2.1⟩
    · cases h
  · cases h
theorem unhx_hexb (s : ByteArray) : unhx (hexb s) = (s, true) := by
  unfold unhx hexb
  exact unhex_hex s
theorem hexb_unhx {w : List UInt8} (h : (unhx w).2 = true) : hexb (unhx w).1 = w := by
  unfold unhx at h ⊢
  unfold hexb
  rw [hex_unhex _ h]
end Go.Proofs.YtdpmjaelbjjanaaGreat.Wf

namespace Go.Proofs.YtdpmjaelbjjanaaGreat.Wf
set_option linter.unusedVariables false
set_option linter.unusedSimpArgs false

theorem kind_of {w : List UInt8} {k : Nat} (h : kindL w = k) : (k = 0 ∧ w = wVocab) ∨ (k = 1 ∧ w = wMerge) ∨ (k = 2 ∧ w = wToken) ∨ (k = 3 ∧ w = wSpecial) ∨ (k = 4 ∧ w = wClass) ∨ (k = 5 ∧ w = wJoin) ∨ k = 6 := by
  subst h
  unfold kindL
  by_cases h0 : w = wVocab
  · simp [h0]
  by_cases h1 : w = wMerge
  · simp [h1, show wMerge ≠ wVocab by decide]
  by_cases h2 : w = wToken
  · simp [h2, show wToken ≠ wVocab by decide, show wToken ≠ wMerge by decide]
  by_cases h3 : w = wSpecial
  · simp [h3, show wSpecial ≠ wVocab by decide, show wSpecial ≠ wMerge by decide, show wSpecial ≠ wToken by decide]
  by_cases h4 : w = wClass
  · simp [h4, show wClass ≠ wVocab by decide, show wClass ≠ wMerge by decide, show wClass ≠ wToken by decide, show wClass ≠ wSpecial by decide]
  by_cases h5 : w = wJoin
  · simp [h5, show wJoin ≠ wVocab by decide, show wJoin ≠ wMerge by decide, show wJoin ≠ wToken by decide, show wJoin ≠ wSpecial by decide, show wJoin ≠ wClass by decide]
  · simp [h0, h1, h2, h3, h4, h5]
theorem kV : kindL wVocab = 0 := by decide
theorem kM : kindL wMerge = 1 := by decide
theorem kT : kindL wToken = 2 := by decide
theorem kS : kindL wSpecial = 3 := by decide
theorem kC : kindL wClass = 4 := by decide
theorem kJ : kindL wJoin = 5 := by decide

/-- What holds of a reader's state. -/
structure Rd.Inv (r : Rd) : Prop where
  zero : r.n = 0 → r.sp = Sp.zero ∧ r.k = 0
  right : r.sp.Right
  len : r.n ≠ 0 → r.sp.lines.length = r.n
  l1 : r.k < 1 → r.sp.merges = []
  l2 : r.k < 2 → r.sp.tokens = []
  l3 : r.k < 3 → r.sp.specials = []
  l4 : r.k < 4 → r.sp.classes = []
  l5 : r.k < 5 → r.sp.joins = []
theorem zero_right : Sp.zero.Right := by
  refine ⟨by simp [Sp.zero], ?_, by simp [Sp.zero], ?_, by simp [Sp.zero], ?_, by simp [Sp.zero], ?_, by simp [Sp.zero], ?_⟩ <;> (intro x hx; simp [Sp.zero] at hx)
theorem rd0_inv : rd0.Inv := ⟨fun _ => ⟨rfl, rfl⟩, zero_right, fun h => absurd rfl h, fun _ => rfl, fun _ => rfl, fun _ => rfl, fun _ => rfl, fun _ => rfl⟩

def Rd.done (r : Rd) : List (List UInt8) := if r.n = 0 then [] else r.sp.lines
theorem mem_snoc {α : Type} {p : α → Prop} {l : List α} {a : α} (h : ∀ x ∈ l, p x) (ha : p a) : ∀ x ∈ l ++ [a], p x := by
  intro x hx
  rw [List.mem_append, List.mem_singleton] at hx
  rcases hx with hx | rfl
  · exact h x hx
  · exact ha

theorem readW_sound {r r' : Rd} {f : List UInt8} {ws : List (List UInt8)} (hi : r.Inv) (h : readW r f ws = some r') : r'.Inv ∧ r'.done = r.done ++ [ln f ws] ∧ r'.n = r.n + 1 := by
  unfold readW at h
  split at h
  case isFalse => cases h
  rename_i hf
  obtain ⟨k, hk⟩ : ∃ k, kindL f = k := ⟨_, rfl⟩
  rw [hk] at h hf
  rw [Option.map_eq_some_iff] at h
  obtain ⟨s, hs, rfl⟩ := h
  unfold folL at hf
  by_cases hn : r.n = 0
  · rw [if_pos hn] at hf
    have hk0 : k = 0 := of_decide_eq_true hf
    subst hk0
    obtain ⟨hz, hz2⟩ := hi.zero hn
    rcases kind_of hk with ⟨_, rfl⟩ | ⟨h, _⟩ | ⟨h, _⟩ | ⟨h, _⟩ | ⟨h, _⟩ | ⟨h, _⟩ | h <;> first | omega | skip
    have hd : r.done = [] := by unfold Rd.done; rw [if_pos hn]
    rw [hd, hn]
    rw [hz] at hs
    match ws, hs with
    | [x], hs =>
      unfold takeL at hs
      simp only at hs
      by_cases h1 : x = wRanks
      · rw [if_pos h1] at hs
        cases hs
        subst h1
        refine ⟨⟨fun h => by simp at h, ?_, fun _ => rfl, fun _ => rfl, fun _ => rfl, fun _ => rfl, fun _ => rfl, fun _ => rfl⟩, rfl, rfl⟩
        refine ⟨by simp [Sp.zero], ?_, by simp [Sp.zero], ?_, by simp [Sp.zero], ?_, by simp [Sp.zero], ?_, by simp [Sp.zero], ?_⟩ <;> (intro x hx; simp [Sp.zero] at hx)
      · rw [if_neg h1] at hs
        by_cases h2 : x = wMerges
        · rw [if_pos h2] at hs
          cases hs
          subst h2
          refine ⟨⟨fun h => by simp at h, zero_right, fun _ => rfl, fun _ => rfl, fun _ => rfl, fun _ => rfl, fun _ => rfl, fun _ => rfl⟩, rfl, rfl⟩
        · rw [if_neg h2] at hs
          cases hs
    | [], hs => cases hs
    | _ :: _ :: _, hs => simp [takeL] at hs
  · rw [if_neg hn, Bool.and_eq_true, decide_eq_true_eq, decide_eq_true_eq] at hf
    obtain ⟨hk0, hkr⟩ := hf
    have hd : r.done = r.sp.lines := by unfold Rd.done; rw [if_neg hn]
    have hd' : Rd.done ⟨s, r.n + 1, k⟩ = s.lines := by unfold Rd.done; rw [if_neg (Nat.succ_ne_zero _)]
    have hlen := hi.len hn
    have hR := hi.right
    rw [hd, hd']
    rcases kind_of hk with ⟨h, _⟩ | ⟨rfl, rfl⟩ | ⟨rfl, rfl⟩ | ⟨rfl, rfl⟩ | ⟨rfl, rfl⟩ | ⟨rfl, rfl⟩ | rfl
    · exact absurd h hk0
    · match ws, hs with
      | [a, b], hs =>
        unfold takeL at hs
        simp only at hs
        split at hs
        case isFalse => cases hs
        rename_i hc
        cases hs
        obtain ⟨hn1, hn2, hn3⟩ := hc
        simp only [allN, List.all_cons, List.all_nil, Bool.and_true, Bool.and_eq_true] at hn1
        have e2 := hi.l2 (by omega)
        have e3 := hi.l3 (by omega)
        have e4 := hi.l4 (by omega)
        have e5 := hi.l5 (by omega)
        have hl : Sp.lines { r.sp with merges := r.sp.merges ++ [((parseS a maxId).1, (parseS b maxId).1)] } = r.sp.lines ++ [ln wMerge [a, b]] := by
          simp [Sp.lines, Sp.body, e2, e3, e4, e5, lM, (parse_ok hn1.1).1, (parse_ok hn1.2).1]
        refine ⟨⟨fun h => by simp at h, ?_, fun _ => ?_, fun h => by simp at h, fun _ => e2, fun _ => e3, fun _ => e4, fun _ => e5⟩, hl, rfl⟩
        · exact { hR with nm := by rw [List.length_append]; exact hn2, am := mem_snoc hR.am hn3 }
        · show (Sp.lines _).length = _
          rw [hl, List.length_append, hlen]; rfl
      | [], hs => cases hs
      | [_], hs => simp [takeL] at hs
      | _ :: _ :: _ :: _, hs => simp [takeL] at hs
    · match ws, hs with
      | [a], hs =>
        unfold takeL at hs
        simp only at hs
        split at hs
        case isFalse => cases hs
        rename_i hc
        cases hs
        obtain ⟨hn1, hn2, hn3⟩ := hc
        have e3 := hi.l3 (by omega)
        have e4 := hi.l4 (by omega)
        have e5 := hi.l5 (by omega)
        have hl : Sp.lines { r.sp with tokens := r.sp.tokens ++ [(unhx a).1] } = r.sp.lines ++ [ln wToken [a]] := by
          simp [Sp.lines, Sp.body, e3, e4, e5, lT, hexb_unhx hn1]
        refine ⟨⟨fun h => by simp at h, ?_, fun _ => ?_, fun h => by simp at h, fun h => by simp at h, fun _ => e3, fun _ => e4, fun _ => e5⟩, hl, rfl⟩
        · exact { hR with nt := by rw [List.length_append]; exact hn2, atk := mem_snoc hR.atk hn3 }
        · show (Sp.lines _).length = _
          rw [hl, List.length_append, hlen]; rfl
      | [], hs => cases hs
      | _ :: _ :: _, hs => simp [takeL] at hs
    · match ws, hs with
      | [a, b], hs =>
        unfold takeL at hs
        simp only at hs
        split at hs
        case isFalse => cases hs
        rename_i hc
        cases hs
        obtain ⟨hn1, hn2, hn3⟩ := hc
        have e4 := hi.l4 (by omega)
        have e5 := hi.l5 (by omega)
        have hl : Sp.lines { r.sp with specials := r.sp.specials ++ [((parseS a maxId).1, (unhx b).1)] } = r.sp.lines ++ [ln wSpecial [a, b]] := by
          simp [Sp.lines, Sp.body, e4, e5, lS, hexb_unhx hn1.2, (parse_ok hn1.1).1]
        refine ⟨⟨fun h => by simp at h, ?_, fun _ => ?_, fun h => by simp at h, fun h => by simp at h, fun h => by simp at h, fun _ => e4, fun _ => e5⟩, hl, rfl⟩
        · exact { hR with ns := by rw [List.length_append]; exact hn2, asp := mem_snoc hR.asp hn3 }
        · show (Sp.lines _).length = _
          rw [hl, List.length_append, hlen]; rfl
      | [], hs => cases hs
      | [_], hs => simp [takeL] at hs
      | _ :: _ :: _ :: _, hs => simp [takeL] at hs
    · match ws, hs with
      | [a, b, c], hs =>
        unfold takeL at hs
        simp only at hs
        split at hs
        case isFalse => cases hs
        rename_i hc
        cases hs
        obtain ⟨hn1, hn2, hn3⟩ := hc
        simp only [allN, List.all_cons, List.all_nil, Bool.and_true, Bool.and_eq_true] at hn1
        have e5 := hi.l5 (by omega)
        have hl : Sp.lines { r.sp with classes := r.sp.classes ++ [((parseS a maxId).1, (parseS b maxId).1, (parseS c maxId).1)] } = r.sp.lines ++ [ln wClass [a, b, c]] := by
          simp [Sp.lines, Sp.body, e5, lC, (parse_ok hn1.1).1, (parse_ok hn1.2.1).1, (parse_ok hn1.2.2).1]
        refine ⟨⟨fun h => by simp at h, ?_, fun _ => ?_, fun h => by simp at h, fun h => by simp at h, fun h => by simp at h, fun h => by simp at h, fun _ => e5⟩, hl, rfl⟩
        · exact { hR with nc := by rw [List.length_append]; exact hn2, ac := mem_snoc hR.ac hn3 }
        · show (Sp.lines _).length = _
          rw [hl, List.length_append, hlen]; rfl
      | [], hs => cases hs
      | [_], hs => simp [takeL] at hs
      | [_, _], hs => simp [takeL] at hs
      | _ :: _ :: _ :: _ :: _, hs => simp [takeL] at hs
    · match ws, hs with
      | [a, b], hs =>
        unfold takeL at hs
        simp only at hs
        split at hs
        case isFalse => cases hs
        rename_i hc
        cases hs
        obtain ⟨hn1, hn2, hn3⟩ := hc
        simp only [allN, List.all_cons, List.all_nil, Bool.and_true, Bool.and_eq_true] at hn1
        have hl : Sp.lines { r.sp with joins := r.sp.joins ++ [((parseS a maxId).1, (parseS b maxId).1)] } = r.sp.lines ++ [ln wJoin [a, b]] := by
          simp [Sp.lines, Sp.body, lJ, (parse_ok hn1.1).1, (parse_ok hn1.2).1]
        refine ⟨⟨fun h => by simp at h, ?_, fun _ => ?_, fun h => by simp at h, fun h => by simp at h, fun h => by simp at h, fun h => by simp at h, fun h => by simp at h⟩, hl, rfl⟩
        · exact { hR with nj := by rw [List.length_append]; exact hn2, aj := mem_snoc hR.aj hn3 }
        · show (Sp.lines _).length = _
          rw [hl, List.length_append, hlen]; rfl
      | [], hs => cases hs
      | [_], hs => simp [takeL] at hs
      | _ :: _ :: _ :: _, hs => simp [takeL] at hs
    · simp [takeL] at hs
theorem readL_sound {r r' : Rd} {l : List UInt8} (hi : r.Inv) (h : readL r l = some r') : r'.Inv ∧ r'.done = r.done ++ [l] ∧ r'.n = r.n + 1 := by
  have := readW_sound hi h
  rwa [cut_ln] at this
theorem runL_sound : ∀ (ls : List (List UInt8)) (r : Rd), r.Inv → (runL r ls).1.Inv ∧ ((runL r ls).2 = true → (runL r ls).1.done = r.done ++ ls ∧ (runL r ls).1.n = r.n + ls.length)
  | [], r, hi => ⟨hi, fun _ => by simp [runL]⟩
  | l :: ls, r, hi => by
    unfold runL
    cases h : readL r l with
    | none => exact ⟨hi, fun h => by cases h⟩
    | some r' =>
      obtain ⟨h1, h2, h3⟩ := readL_sound hi h
      obtain ⟨i1, i2⟩ := runL_sound ls r' h1
      refine ⟨i1, fun ht => ?_⟩
      obtain ⟨j1, j2⟩ := i2 ht
      refine ⟨by rw [j1, h2]; simp, by rw [j2, h3, List.length_cons]; omega⟩

/-- What is read is right, and printed as it was. -/
theorem parseP_sound {t : List UInt8} {s : Sp} {n : Nat} (h : parseP t = (s, n, 0)) : s.Right ∧ s.text = t ∧ n = 0 := by
  unfold parseP at h
  split at h
  · cases h
  · unfold parseC at h
    simp only at h
    split at h
    · rename_i hc
      obtain ⟨h1, h2, h3⟩ := hc
      obtain ⟨i1, i2⟩ := runL_sound (cutL 10 t).dropLast rd0 rd0_inv
      obtain ⟨j1, j2⟩ := i2 h1
      cases h
      refine ⟨i1.right, ?_, rfl⟩
      have hd : (runL rd0 (cutL 10 t).dropLast).1.done = (runL rd0 (cutL 10 t).dropLast).1.sp.lines := by unfold Rd.done; rw [if_neg h3]
      rw [hd] at j1
      show txt _ = _
      rw [j1]
      have := cut_txt t
      rw [h2, List.append_nil] at this
      simpa [Rd.done, rd0] using this
    · cases h

/-! The other way. -/
theorem runL_append : ∀ (a b : List (List UInt8)) (r : Rd), (runL r a).2 = true → runL r (a ++ b) = runL (runL r a).1 b
  | [], b, r, _ => rfl
  | l :: a, b, r, h => by
    have e : ∀ c, runL r (l :: c) = match readL r l with | none => (r, false) | some r' => runL r' c := fun c => rfl
    rw [List.cons_append, e, e]
    rw [e] at h
    cases hx : readL r l with
    | none => rw [hx] at h; cases h
    | some r' =>
      rw [hx] at h
      exact runL_append a b r' h
theorem runL_left : ∀ (a b : List (List UInt8)) (r : Rd), (runL r (a ++ b)).2 = true → (runL r a).2 = true
  | [], b, r, _ => rfl
  | l :: a, b, r, h => by
    unfold runL
    rw [List.cons_append] at h
    unfold runL at h
    cases hx : readL r l with
    | none => rw [hx] at h; cases h
    | some r' =>
      rw [hx] at h
      exact runL_left a b r' h
theorem plain_w : Plain wVocab ∧ Plain wMerge ∧ Plain wToken ∧ Plain wSpecial ∧ Plain wClass ∧ Plain wJoin ∧ Plain wMerges ∧ Plain wRanks := by
  refine ⟨?_, ?_, ?_, ?_, ?_, ?_, ?_, ?_⟩ <;> (unfold Plain; decide)
theorem lV_line (r : Bool) : (∀ c ∈ lV r, c ≠ 10) ∧ cutL 32 (lV r) = [wVocab, if r then wRanks else wMerges] := by
  refine ln_line _ _ plain_w.1 ?_
  intro w hw
  rw [List.mem_singleton] at hw
  subst hw
  cases r
  · exact plain_w.2.2.2.2.2.2.1
  · exact plain_w.2.2.2.2.2.2.2
theorem two_plain {a b : List UInt8} (ha : Plain a) (hb : Plain b) : ∀ w ∈ [a, b], Plain w := by
  intro w hw
  simp only [List.mem_cons, List.not_mem_nil, or_false] at hw
  rcases hw with rfl | rfl
  · exact ha
  · exact hb
theorem lM_line {m : Int × Int} (h : okM m = true) : (∀ c ∈ lM m, c ≠ 10) ∧ cutL 32 (lM m) = [wMerge, Lib.itoa m.1, Lib.itoa m.2] := by
  have := of_decide_eq_true h
  exact ln_line _ _ plain_w.2.1 (two_plain (itoa_plain _ (by omega)) (itoa_plain _ (by omega)))
theorem lT_line (t : ByteArray) : (∀ c ∈ lT t, c ≠ 10) ∧ cutL 32 (lT t) = [wToken, hexb t] := by
  refine ln_line _ _ plain_w.2.2.1 ?_
  intro w hw
  rw [List.mem_singleton] at hw
  subst hw
  exact hexb_plain t
theorem lS_line {s : Int × ByteArray} (h : okS s = true) : (∀ c ∈ lS s, c ≠ 10) ∧ cutL 32 (lS s) = [wSpecial, Lib.itoa s.1, hexb s.2] := by
  have := of_decide_eq_true h
  exact ln_line _ _ plain_w.2.2.2.1 (two_plain (itoa_plain _ (by omega)) (hexb_plain _))
theorem lC_line {c : Int × Int × Int} (h : okC c = true) : (∀ x ∈ lC c, x ≠ 10) ∧ cutL 32 (lC c) = [wClass, Lib.itoa c.1, Lib.itoa c.2.1, Lib.itoa c.2.2] := by
  have := of_decide_eq_true h
  refine ln_line _ _ plain_w.2.2.2.2.1 ?_
  intro w hw
  simp only [List.mem_cons, List.not_mem_nil, or_false] at hw
  rcases hw with rfl | rfl | rfl <;> exact itoa_plain _ (by omega)
theorem lJ_line {j : Int × Int} (h : okJ j = true) : (∀ c ∈ lJ j, c ≠ 10) ∧ cutL 32 (lJ j) = [wJoin, Lib.itoa j.1, Lib.itoa j.2] := by
  have := of_decide_eq_true h
  exact ln_line _ _ plain_w.2.2.2.2.2.1 (two_plain (itoa_plain _ (by omega)) (itoa_plain _ (by omega)))

theorem run_merges : ∀ (l : List (Int × Int)) (r : Rd), r.n ≠ 0 → r.k ≤ 1 → (∀ x ∈ l, okM x = true) → r.sp.merges.length + l.length ≤ roomM r.sp.ranked →
    ∃ k, k ≤ 1 ∧ runL r (l.map lM) = (⟨{ r.sp with merges := r.sp.merges ++ l }, r.n + l.length, k⟩, true)
  | [], r, _, hk, _, _ => ⟨r.k, hk, by simp [runL]⟩
  | m :: l, r, hn, hk, ho, hl => by
    have hm := ho m List.mem_cons_self
    have hb := of_decide_eq_true hm
    have hr : readL r (lM m) = some ⟨{ r.sp with merges := r.sp.merges ++ [m] }, r.n + 1, 1⟩ := by
      have p1 := parse_itoa m.1 (by omega) (by unfold maxId; omega)
      have p2 := parse_itoa m.2 (by omega) (by unfold maxId; omega)
      simp only [List.length_cons] at hl
      unfold readL
      rw [(lM_line hm).2]
      simp only [List.headD_cons, List.drop_one, List.tail_cons]
      unfold readW
      rw [kM, if_pos (by unfold folL; rw [if_neg hn]; simpa using hk)]
      unfold takeL
      simp only [allN, p1, p2, List.all_cons, List.all_nil, Bool.and_true]
      rw [if_pos ⟨trivial, by omega, hm⟩]
      rfl
    obtain ⟨k, h1, h2⟩ := run_merges l ⟨{ r.sp with merges := r.sp.merges ++ [m] }, r.n + 1, 1⟩ (Nat.succ_ne_zero _) (Nat.le_refl _) (fun x hx => ho x (List.mem_cons_of_mem _ hx)) (by simp at hl ⊢; omega)
    refine ⟨k, h1, ?_⟩
    rw [List.map_cons]
    unfold runL
    rw [hr]
    simp only
    rw [h2]
    simp [Nat.add_assoc, Nat.add_comm 1]
theorem run_tokens : ∀ (l : List ByteArray) (r : Rd), r.n ≠ 0 → r.k ≤ 2 → (∀ x ∈ l, okT x = true) → r.sp.tokens.length + l.length ≤ roomT r.sp.ranked →
    ∃ k, k ≤ 2 ∧ runL r (l.map lT) = (⟨{ r.sp with tokens := r.sp.tokens ++ l }, r.n + l.length, k⟩, true)
  | [], r, _, hk, _, _ => ⟨r.k, hk, by simp [runL]⟩
  | m :: l, r, hn, hk, ho, hl => by
    have hm := ho m List.mem_cons_self
    have hr : readL r (lT m) = some ⟨{ r.sp with tokens := r.sp.tokens ++ [m] }, r.n + 1, 2⟩ := by
      simp only [List.length_cons] at hl
      unfold readL
      rw [(lT_line m).2]
      simp only [List.headD_cons, List.drop_one, List.tail_cons]
      unfold readW
      rw [kT, if_pos (by unfold folL; rw [if_neg hn]; simpa using hk)]
      unfold takeL
      simp only [unhx_hexb]
      rw [if_pos ⟨trivial, by omega, hm⟩]
      rfl
    obtain ⟨k, h1, h2⟩ := run_tokens l ⟨{ r.sp with tokens := r.sp.tokens ++ [m] }, r.n + 1, 2⟩ (Nat.succ_ne_zero _) (Nat.le_refl _) (fun x hx => ho x (List.mem_cons_of_mem _ hx)) (by simp at hl ⊢; omega)
    refine ⟨k, h1, ?_⟩
    rw [List.map_cons]
    unfold runL
    rw [hr]
    simp only
    rw [h2]
    simp [Nat.add_assoc, Nat.add_comm 1]
theorem run_specials : ∀ (l : List (Int × ByteArray)) (r : Rd), r.n ≠ 0 → r.k ≤ 3 → (∀ x ∈ l, okS x = true) → r.sp.specials.length + l.length ≤ 32 →
    ∃ k, k ≤ 3 ∧ runL r (l.map lS) = (⟨{ r.sp with specials := r.sp.specials ++ l }, r.n + l.length, k⟩, true)
  | [], r, _, hk, _, _ => ⟨r.k, hk, by simp [runL]⟩
  | m :: l, r, hn, hk, ho, hl => by
    have hm := ho m List.mem_cons_self
    have hb := of_decide_eq_true hm
    have hr : readL r (lS m) = some ⟨{ r.sp with specials := r.sp.specials ++ [m] }, r.n + 1, 3⟩ := by
      have p1 := parse_itoa m.1 (by omega) (by unfold maxId; omega)
      simp only [List.length_cons] at hl
      unfold readL
      rw [(lS_line hm).2]
      simp only [List.headD_cons, List.drop_one, List.tail_cons]
      unfold readW
      rw [kS, if_pos (by unfold folL; rw [if_neg hn]; simpa using hk)]
      unfold takeL
      simp only [p1, unhx_hexb]
      rw [if_pos ⟨⟨trivial, trivial⟩, by omega, hm⟩]
      rfl
    obtain ⟨k, h1, h2⟩ := run_specials l ⟨{ r.sp with specials := r.sp.specials ++ [m] }, r.n + 1, 3⟩ (Nat.succ_ne_zero _) (Nat.le_refl _) (fun x hx => ho x (List.mem_cons_of_mem _ hx)) (by simp at hl ⊢; omega)
    refine ⟨k, h1, ?_⟩
    rw [List.map_cons]
    unfold runL
    rw [hr]
    simp only
    rw [h2]
    simp [Nat.add_assoc, Nat.add_comm 1]
theorem run_classes : ∀ (l : List (Int × Int × Int)) (r : Rd), r.n ≠ 0 → r.k ≤ 4 → (∀ x ∈ l, okC x = true) → r.sp.classes.length + l.length ≤ 64 →
    ∃ k, k ≤ 4 ∧ runL r (l.map lC) = (⟨{ r.sp with classes := r.sp.classes ++ l }, r.n + l.length, k⟩, true)
  | [], r, _, hk, _, _ => ⟨r.k, hk, by simp [runL]⟩
  | m :: l, r, hn, hk, ho, hl => by
    have hm := ho m List.mem_cons_self
    have hb := of_decide_eq_true hm
    have hr : readL r (lC m) = some ⟨{ r.sp with classes := r.sp.classes ++ [m] }, r.n + 1, 4⟩ := by
      have p1 := parse_itoa m.1 (by omega) (by unfold maxId; omega)
      have p2 := parse_itoa m.2.1 (by omega) (by unfold maxId; omega)
      have p3 := parse_itoa m.2.2 (by omega) (by unfold maxId; omega)
      simp only [List.length_cons] at hl
      unfold readL
      rw [(lC_line hm).2]
      simp only [List.headD_cons, List.drop_one, List.tail_cons]
      unfold readW
      rw [kC, if_pos (by unfold folL; rw [if_neg hn]; simpa using hk)]
      unfold takeL
      simp only [allN, p1, p2, p3, List.all_cons, List.all_nil, Bool.and_true]
      rw [if_pos ⟨trivial, by omega, hm⟩]
      rfl
    obtain ⟨k, h1, h2⟩ := run_classes l ⟨{ r.sp with classes := r.sp.classes ++ [m] }, r.n + 1, 4⟩ (Nat.succ_ne_zero _) (Nat.le_refl _) (fun x hx => ho x (List.mem_cons_of_mem _ hx)) (by simp at hl ⊢; omega)
    refine ⟨k, h1, ?_⟩
    rw [List.map_cons]
    unfold runL
    rw [hr]
    simp only
    rw [h2]
    simp [Nat.add_assoc, Nat.add_comm 1]
theorem run_joins : ∀ (l : List (Int × Int)) (r : Rd), r.n ≠ 0 → r.k ≤ 5 → (∀ x ∈ l, okJ x = true) → r.sp.joins.length + l.length ≤ 64 →
    ∃ k, k ≤ 5 ∧ runL r (l.map lJ) = (⟨{ r.sp with joins := r.sp.joins ++ l }, r.n + l.length, k⟩, true)
  | [], r, _, hk, _, _ => ⟨r.k, hk, by simp [runL]⟩
  | m :: l, r, hn, hk, ho, hl => by
    have hm := ho m List.mem_cons_self
    have hb := of_decide_eq_true hm
    have hr : readL r (lJ m) = some ⟨{ r.sp with joins := r.sp.joins ++ [m] }, r.n + 1, 5⟩ := by
      have p1 := parse_itoa m.1 (by omega) (by unfold maxId; omega)
      have p2 := parse_itoa m.2 (by omega) (by unfold maxId; omega)
      simp only [List.length_cons] at hl
      unfold readL
      rw [(lJ_line hm).2]
      simp only [List.headD_cons, List.drop_one, List.tail_cons]
      unfold readW
      rw [kJ, if_pos (by unfold folL; rw [if_neg hn]; simpa using hk)]
      unfold takeL
      simp only [allN, p1, p2, List.all_cons, List.all_nil, Bool.and_true]
      rw [if_pos ⟨trivial, by omega, hm⟩]
      rfl
    obtain ⟨k, h1, h2⟩ := run_joins l ⟨{ r.sp with joins := r.sp.joins ++ [m] }, r.n + 1, 5⟩ (Nat.succ_ne_zero _) (Nat.le_refl _) (fun x hx => ho x (List.mem_cons_of_mem _ hx)) (by simp at hl ⊢; omega)
    refine ⟨k, h1, ?_⟩
    rw [List.map_cons]
    unfold runL
    rw [hr]
    simp only
    rw [h2]
    simp [Nat.add_assoc, Nat.add_comm 1]

/-- A right spec's lines are read as it. -/
theorem run_lines {s : Sp} (h : s.Right) : ∃ k, runL rd0 s.lines = (⟨s, s.lines.length, k⟩, true) := by
  have h0 : readL rd0 (lV s.ranked) = some ⟨{ Sp.zero with ranked := s.ranked }, 1, 0⟩ := by
    unfold readL
    rw [(lV_line s.ranked).2]
    simp only [List.headD_cons, List.drop_one, List.tail_cons]
    unfold readW
    rw [kV, if_pos (by decide)]
    unfold takeL
    simp only
    cases s.ranked
    · rw [if_neg (by decide), if_pos (by decide)]; rfl
    · rw [if_pos (by decide)]; rfl
  obtain ⟨k1, g1, h1⟩ := run_merges s.merges ⟨{ Sp.zero with ranked := s.ranked }, 1, 0⟩ (by simp) (by simp) h.am (by simpa [Sp.zero] using h.nm)
  obtain ⟨k2, g2, h2⟩ := run_tokens s.tokens (runL ⟨{ Sp.zero with ranked := s.ranked }, 1, 0⟩ (s.merges.map lM)).1 (by rw [h1]; simp) (by rw [h1]; simp; omega) h.atk (by rw [h1]; simpa [Sp.zero] using h.nt)
  obtain ⟨k3, g3, h3⟩ := run_specials s.specials (runL (runL ⟨{ Sp.zero with ranked := s.ranked }, 1, 0⟩ (s.merges.map lM)).1 (s.tokens.map lT)).1 (by rw [h2, h1]; simp) (by rw [h2]; simp; omega) h.asp (by rw [h2, h1]; simpa [Sp.zero] using h.ns)
  obtain ⟨k4, g4, h4⟩ := run_classes s.classes (runL (runL (runL ⟨{ Sp.zero with ranked := s.ranked }, 1, 0⟩ (s.merges.map lM)).1 (s.tokens.map lT)).1 (s.specials.map lS)).1 (by rw [h3, h2, h1]; simp) (by rw [h3]; simp; omega) h.ac (by rw [h3, h2, h1]; simpa [Sp.zero] using h.nc)
  obtain ⟨k5, g5, h5⟩ := run_joins s.joins (runL (runL (runL (runL ⟨{ Sp.zero with ranked := s.ranked }, 1, 0⟩ (s.merges.map lM)).1 (s.tokens.map lT)).1 (s.specials.map lS)).1 (s.classes.map lC)).1 (by rw [h4, h3, h2, h1]; simp) (by rw [h4]; simp; omega) h.aj (by rw [h4, h3, h2, h1]; simpa [Sp.zero] using h.nj)
  refine ⟨k5, ?_⟩
  unfold Sp.lines Sp.body
  show (match readL rd0 (lV s.ranked) with | none => _ | some r' => runL r' _) = _
  rw [h0]
  simp only
  rw [runL_append _ _ _ (by rw [h1]), runL_append _ _ _ (by rw [h2]), runL_append _ _ _ (by rw [h3]), runL_append _ _ _ (by rw [h4]), h5, h4, h3, h2, h1]
  simp [Sp.zero]
  omega
theorem lines_plain {s : Sp} (h : s.Right) : ∀ l ∈ s.lines, ∀ c ∈ l, c ≠ 10 := by
  intro l hl
  simp only [Sp.lines, Sp.body, List.mem_cons, List.mem_append, List.mem_map] at hl
  rcases hl with rfl | ⟨x, hx, rfl⟩ | ⟨x, hx, rfl⟩ | ⟨x, hx, rfl⟩ | ⟨x, hx, rfl⟩ | ⟨x, hx, rfl⟩
  · exact (lV_line _).1
  · exact (lM_line (h.am x hx)).1
  · exact (lT_line x).1
  · exact (lS_line (h.asp x hx)).1
  · exact (lC_line (h.ac x hx)).1
  · exact (lJ_line (h.aj x hx)).1
theorem parseP_text {s : Sp} (h : s.Right) (hl : s.text.length ≤ 60000) : parseP s.text = (s, 0, 0) := by
  obtain ⟨k, hk⟩ := run_lines h
  have hc := txt_cut s.lines [] (lines_plain h) (fun c hc => by cases hc)
  rw [List.append_nil] at hc
  unfold parseP
  rw [if_neg (by omega)]
  show parseC (cutL 10 (txt s.lines)).dropLast ((cutL 10 (txt s.lines)).getLastD []) = _
  rw [hc, List.dropLast_concat]
  unfold parseC
  rw [hk]
  simp only
  rw [if_pos ⟨trivial, by simp, by simp [Sp.lines]⟩]
end Go.Proofs.YtdpmjaelbjjanaaGreat.Wf
