/- A vocabulary as a text: the plain mathematics. A vocabulary as a text: what is read is printed as it was, what is printed is read as it was. -/
import Derived.Lib.SplitLaws
import Derived.Test.YtdpmjaelbjjanaaGreatZQa3
import Derived.Test.YtdpmjaelbjjanaaGreatZQa4
namespace Go.Proofs.YtdpmjaelbjjanaaGreat.Wf
set_option linter.unusedVariables false
set_option linter.unusedSimpArgs false

/-- A spec, as plain data. -/
structure Sp where
  ranked : Bool
  merges : List (Int × Int)
  tokens : List ByteArray
  specials : List (Int × ByteArray)
  classes : List (Int × Int × Int)
  joins : List (Int × Int)

def Sp.zero : Sp := ⟨false, [], [], [], [], []⟩
def okM (m : Int × Int) : Bool := decide (0 ≤ m.1 ∧ m.1 ≤ 999 ∧ 0 ≤ m.2 ∧ m.2 ≤ 999)
def okT (t : ByteArray) : Bool := decide (2 ≤ t.size ∧ t.size ≤ 64)
def okS (s : Int × ByteArray) : Bool := decide (0 ≤ s.1 ∧ s.1 ≤ 1073741824 ∧ 1 ≤ s.2.size ∧ s.2.size ≤ 64)
def okC (c : Int × Int × Int) : Bool := decide (0 ≤ c.1 ∧ c.1 ≤ c.2.1 ∧ c.2.1 ≤ 255 ∧ 0 ≤ c.2.2 ∧ c.2.2 ≤ 15)
def okJ (j : Int × Int) : Bool := decide (0 ≤ j.1 ∧ j.1 ≤ 15 ∧ 0 ≤ j.2 ∧ j.2 ≤ 15)
def roomM (r : Bool) : Nat := if r then 0 else 744
def roomT (r : Bool) : Nat := if r then 744 else 0
/-- Is it right? -/
structure Sp.Right (s : Sp) : Prop where
  nm : s.merges.length ≤ roomM s.ranked
  am : ∀ x ∈ s.merges, okM x = true
  nt : s.tokens.length ≤ roomT s.ranked
  atk : ∀ x ∈ s.tokens, okT x = true
  ns : s.specials.length ≤ 32
  asp : ∀ x ∈ s.specials, okS x = true
  nc : s.classes.length ≤ 64
  ac : ∀ x ∈ s.classes, okC x = true
  nj : s.joins.length ≤ 64
  aj : ∀ x ∈ s.joins, okJ x = true

def wVocab : List UInt8 := [118, 111, 99, 97, 98]
def wMerge : List UInt8 := [109, 101, 114, 103, 101]
def wToken : List UInt8 := [116, 111, 107, 101, 110]
def wSpecial : List UInt8 := [115, 112, 101, 99, 105, 97, 108]
def wClass : List UInt8 := [99, 108, 97, 115, 115]
def wJoin : List UInt8 := [106, 111, 105, 110]
def wMerges : List UInt8 := [109, 101, 114, 103, 101, 115]
def wRanks : List UInt8 := [114, 97, 110, 107, 115]

/-- Words with one blank between. -/
def ln (f : List UInt8) (ws : List (List UInt8)) : List UInt8 := f ++ ws.flatMap (fun w => 32 :: w)
/-- Lines, each ended. -/
def txt (ls : List (List UInt8)) : List UInt8 := ls.flatMap (fun l => l ++ [10])
def hexb (s : ByteArray) : List UInt8 := (hexS s).data.toList
def lV (r : Bool) : List UInt8 := ln wVocab [if r then wRanks else wMerges]
def lM (m : Int × Int) : List UInt8 := ln wMerge [Lib.itoa m.1, Lib.itoa m.2]
def lT (t : ByteArray) : List UInt8 := ln wToken [hexb t]
def lS (s : Int × ByteArray) : List UInt8 := ln wSpecial [Lib.itoa s.1, hexb s.2]
def lC (c : Int × Int × Int) : List UInt8 := ln wClass [Lib.itoa c.1, Lib.itoa c.2.1, Lib.itoa c.2.2]
def lJ (j : Int × Int) : List UInt8 := ln wJoin [Lib.itoa j.1, Lib.itoa j.2]
def Sp.body (s : Sp) : List (List UInt8) := s.merges.map lM ++ (s.tokens.map lT ++ (s.specials.map lS ++ (s.classes.map lC ++ s.joins.map lJ)))
def Sp.lines (s : Sp) : List (List UInt8) := lV s.ranked :: s.body
def Sp.text (s : Sp) : List UInt8 := txt s.lines

/-! The reader. -/
def kindL (w : List UInt8) : Nat := if w = wVocab then 0 else if w = wMerge then 1 else if w = wToken then 2 else if w = wSpecial then 3 else if w = wClass then 4 else if w = wJoin then 5 else 6
/-! Cutting. -/
theorem txt_append (a b : List (List UInt8)) : txt (a ++ b) = txt a ++ txt b := by simp [txt]

/-! Words have no blanks and no newlines. -/
/-! Numbers and bytes, told and read. -/
end Go.Proofs.YtdpmjaelbjjanaaGreat.Wf

namespace Go.Proofs.YtdpmjaelbjjanaaGreat.Wf
set_option linter.unusedVariables false
set_option linter.unusedSimpArgs false

theorem kC : kindL wClass = 4 := by decide
theorem kJ : kindL wJoin = 5 := by decide

/-! The other way. -/
end Go.Proofs.YtdpmjaelbjjanaaGreat.Wf
