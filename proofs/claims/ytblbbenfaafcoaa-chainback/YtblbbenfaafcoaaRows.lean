/-
  No cell of these rows narrows 'for every input' (looked for: loops, veiled, ifaces, maps, wideKeys, modest, calm, conditions, laid).
  DERIVED. THE GIVEN ROWS OF THIS SEAT. 6 by the template 'for every input the law returns true; each argument reads behind the call as it read before'; 0 by the template 'total and deterministic' (their statements: YtblbbenfaafcoaaTotals.lean).
  GIVEN WITH THE SEED: the statements are not yours to turn. If you find one false, say at which input.
  Laid BY PROGRAM, IN A SANDBOX (cutbox-rows.mjs): the forced cells as the released guide's own fill.sh prints them over the translation 06ad55c5e7643bce… (all of the seat's roots in one cut). By AI agents, Wed Nov 11 2026. No macro, syntax, notation, axiom, sorry.
-/
import Derived.Test.YtblbbenfaafcoaaChecked
import GoSem.Claim
import GoSem.ClaimJoined
import GoSem.ClaimMapViews
import Derived.JoinedTies
import Derived.KernelRfl
namespace Go.Proofs.Ytblbbenfaafcoaa
/- THE CELL 'sum', in the pinned program and in every row, IS THE sha256 OF THE DUMP (.gsa) THAT YtblbbenfaafcoaaProg.lean LOADS. Nothing in Lean hashes anything: it is a label: what it is worth is what the hold of that sum in a sandbox is worth. -/
noncomputable def Try.pinned : Pinned := { name := "ytblbbenfaafcoaa", sum := "06ad55c5e7643bcedc925309424b8e56b0714220bca2505ed1675137bb23b0cc", checked := Try.checked }
namespace Rows
def none {H : Type} : Left H := { results := [], args := [] }

/-- 'ligaturelaw04.TokenNews': WHATEVER THE INPUT: true; the input reads as it did. -/
def tokenNewsSpec : ChangeSpec := { name := "tokenNews", fn := fun _ => fun
  | [d] => { results := [.lit (.bool true)], args := [d] }
  | _ => none }
def tokenNewsRow : OpenClaim := { program := "ytblbbenfaafcoaa", sum := "06ad55c5e7643bcedc925309424b8e56b0714220bca2505ed1675137bb23b0cc", func := "ligature/ligaturelaw04.TokenNews", spec := "tokenNews", plainKeys := false, apart := false }
def TokenNewsSaid : Prop := tokenNewsRow.holds Try.pinned (OpenSpec.ofChange tokenNewsSpec)

/-- ITS FALSE NEIGHBOUR: 'it returns false'. Refute it at one input. -/
def tokenNewsWrong : ChangeSpec := { name := "tokenNews", fn := fun _ => fun
  | [d] => { results := [.lit (.bool false)], args := [d] }
  | _ => none }
def TokenNewsWrongFalsely : Prop := tokenNewsRow.holds Try.pinned (OpenSpec.ofChange tokenNewsWrong)

/-- 'ligaturelaw04.TokenAdds': WHATEVER THE INPUT: true; the input reads as it did. -/
def tokenAddsSpec : ChangeSpec := { name := "tokenAdds", fn := fun _ => fun
  | [d1, d2, d3, d4] => { results := [.lit (.bool true)], args := [d1, d2, d3, d4] }
  | _ => none }
def tokenAddsRow : OpenClaim := { program := "ytblbbenfaafcoaa", sum := "06ad55c5e7643bcedc925309424b8e56b0714220bca2505ed1675137bb23b0cc", func := "ligature/ligaturelaw04.TokenAdds", spec := "tokenAdds", plainKeys := false, apart := false }
def TokenAddsSaid : Prop := tokenAddsRow.holds Try.pinned (OpenSpec.ofChange tokenAddsSpec)

/-- ITS FALSE NEIGHBOUR: 'it returns false'. Refute it at one input. -/
def tokenAddsWrong : ChangeSpec := { name := "tokenAdds", fn := fun _ => fun
  | [d1, d2, d3, d4] => { results := [.lit (.bool false)], args := [d1, d2, d3, d4] }
  | _ => none }
def TokenAddsWrongFalsely : Prop := tokenAddsRow.holds Try.pinned (OpenSpec.ofChange tokenAddsWrong)

/-- 'ligaturelaw04.TokenMakes': WHATEVER THE INPUT: true; the input reads as it did. -/
def tokenMakesSpec : ChangeSpec := { name := "tokenMakes", fn := fun _ => fun
  | [d] => { results := [.lit (.bool true)], args := [d] }
  | _ => none }
def tokenMakesRow : OpenClaim := { program := "ytblbbenfaafcoaa", sum := "06ad55c5e7643bcedc925309424b8e56b0714220bca2505ed1675137bb23b0cc", func := "ligature/ligaturelaw04.TokenMakes", spec := "tokenMakes", plainKeys := false, apart := false }
def TokenMakesSaid : Prop := tokenMakesRow.holds Try.pinned (OpenSpec.ofChange tokenMakesSpec)

/-- ITS FALSE NEIGHBOUR: 'it returns false'. Refute it at one input. -/
def tokenMakesWrong : ChangeSpec := { name := "tokenMakes", fn := fun _ => fun
  | [d] => { results := [.lit (.bool false)], args := [d] }
  | _ => none }
def TokenMakesWrongFalsely : Prop := tokenMakesRow.holds Try.pinned (OpenSpec.ofChange tokenMakesWrong)

/-- 'ligaturelaw04.TokenNone': WHATEVER THE INPUT: true; the input reads as it did. -/
def tokenNoneSpec : ChangeSpec := { name := "tokenNone", fn := fun _ => fun
  | [d1, d2] => { results := [.lit (.bool true)], args := [d1, d2] }
  | _ => none }
def tokenNoneRow : OpenClaim := { program := "ytblbbenfaafcoaa", sum := "06ad55c5e7643bcedc925309424b8e56b0714220bca2505ed1675137bb23b0cc", func := "ligature/ligaturelaw04.TokenNone", spec := "tokenNone", plainKeys := false, apart := false }
def TokenNoneSaid : Prop := tokenNoneRow.holds Try.pinned (OpenSpec.ofChange tokenNoneSpec)

/-- ITS FALSE NEIGHBOUR: 'it returns false'. Refute it at one input. -/
def tokenNoneWrong : ChangeSpec := { name := "tokenNone", fn := fun _ => fun
  | [d1, d2] => { results := [.lit (.bool false)], args := [d1, d2] }
  | _ => none }
def TokenNoneWrongFalsely : Prop := tokenNoneRow.holds Try.pinned (OpenSpec.ofChange tokenNoneWrong)

/-- 'ligaturelaw05.ChainEncodes': WHATEVER THE INPUT: true; the input reads as it did. -/
def chainEncodesSpec : ChangeSpec := { name := "chainEncodes", fn := fun _ => fun
  | [d1, d2, d3] => { results := [.lit (.bool true)], args := [d1, d2, d3] }
  | _ => none }
def chainEncodesRow : OpenClaim := { program := "ytblbbenfaafcoaa", sum := "06ad55c5e7643bcedc925309424b8e56b0714220bca2505ed1675137bb23b0cc", func := "ligature/ligaturelaw05.ChainEncodes", spec := "chainEncodes", plainKeys := false, apart := false }
def ChainEncodesSaid : Prop := chainEncodesRow.holds Try.pinned (OpenSpec.ofChange chainEncodesSpec)

/-- ITS FALSE NEIGHBOUR: 'it returns false'. Refute it at one input. -/
def chainEncodesWrong : ChangeSpec := { name := "chainEncodes", fn := fun _ => fun
  | [d1, d2, d3] => { results := [.lit (.bool false)], args := [d1, d2, d3] }
  | _ => none }
def ChainEncodesWrongFalsely : Prop := chainEncodesRow.holds Try.pinned (OpenSpec.ofChange chainEncodesWrong)

/-- 'ligaturelaw05.ChainBack': WHATEVER THE INPUT: true; the input reads as it did. -/
def chainBackSpec : ChangeSpec := { name := "chainBack", fn := fun _ => fun
  | [d1, d2] => { results := [.lit (.bool true)], args := [d1, d2] }
  | _ => none }
def chainBackRow : OpenClaim := { program := "ytblbbenfaafcoaa", sum := "06ad55c5e7643bcedc925309424b8e56b0714220bca2505ed1675137bb23b0cc", func := "ligature/ligaturelaw05.ChainBack", spec := "chainBack", plainKeys := false, apart := false }
def ChainBackSaid : Prop := chainBackRow.holds Try.pinned (OpenSpec.ofChange chainBackSpec)

/-- ITS FALSE NEIGHBOUR: 'it returns false'. Refute it at one input. -/
def chainBackWrong : ChangeSpec := { name := "chainBack", fn := fun _ => fun
  | [d1, d2] => { results := [.lit (.bool false)], args := [d1, d2] }
  | _ => none }
def ChainBackWrongFalsely : Prop := chainBackRow.holds Try.pinned (OpenSpec.ofChange chainBackWrong)

/- THE SECOND FORM. 'bulk': how many values and letters a reading holds, each counted each time it is reached (what is shared counts as often as it is met; a slice's spare places count too). A statement '..UptoSaid' is the law's where the arguments, and the package variables that the reading takes, are together of bulk at most 1048576: NARROWER than '..Said'. Prove '..Said' where nothing that the law and all that it calls make is longer than what came in: it says more and counts as full. Else prove '..UptoSaid'. A law counts once. -/
mutual
def uptoBulk {H : Type} : DataW H → Nat
  | .lit (.string bytes) => bytes.length + 1
  | .lit _ => 1
  | .nil => 1
  | .ptr d => uptoBulk d + 1
  | .slice elems spare => uptoBulkAll elems + uptoBulkAll spare + 1
  | .agg parts => uptoBulkAll parts + 1
  | .iface _ d => uptoBulk d + 1
  | .map entries => uptoBulkEntries entries + 1
  | .held _ => 1
def uptoBulkAll {H : Type} : List (DataW H) → Nat
  | [] => 0
  | d :: r => uptoBulk d + uptoBulkAll r
def uptoBulkEntries {H : Type} : List (Lit × DataW H) → Nat
  | [] => 0
  | x :: r => uptoBulkEntry x + uptoBulkEntries r
def uptoBulkEntry {H : Type} : Lit × DataW H → Nat
  | (.string bytes, d) => bytes.length + uptoBulk d + 1
  | (_, d) => uptoBulk d + 1
 end
def uptoSmall : (H : Type) → List (DataW H) → Bool := fun _ ds => decide (uptoBulkAll ds ≤ 1048576)
def OpenSpec.upto (s : _root_.Go.ChangeSpec) : _root_.Go.OpenSpec := { _root_.Go.OpenSpec.ofChange s with cond := some uptoSmall }

/-- 'ligaturelaw04.TokenNews', WHERE WHAT IT READS IS OF BULK AT MOST 1048576: true; the input reads as it did. -/
def tokenNewsUptoRow : OpenClaim := { program := "ytblbbenfaafcoaa", sum := "06ad55c5e7643bcedc925309424b8e56b0714220bca2505ed1675137bb23b0cc", func := "ligature/ligaturelaw04.TokenNews", spec := "tokenNews", plainKeys := false, apart := false, narrowed := true }
def TokenNewsUptoSaid : Prop := tokenNewsUptoRow.holds Try.pinned (OpenSpec.upto tokenNewsSpec)

/-- 'ligaturelaw04.TokenAdds', WHERE WHAT IT READS IS OF BULK AT MOST 1048576: true; the input reads as it did. -/
def tokenAddsUptoRow : OpenClaim := { program := "ytblbbenfaafcoaa", sum := "06ad55c5e7643bcedc925309424b8e56b0714220bca2505ed1675137bb23b0cc", func := "ligature/ligaturelaw04.TokenAdds", spec := "tokenAdds", plainKeys := false, apart := false, narrowed := true }
def TokenAddsUptoSaid : Prop := tokenAddsUptoRow.holds Try.pinned (OpenSpec.upto tokenAddsSpec)

/-- 'ligaturelaw04.TokenMakes', WHERE WHAT IT READS IS OF BULK AT MOST 1048576: true; the input reads as it did. -/
def tokenMakesUptoRow : OpenClaim := { program := "ytblbbenfaafcoaa", sum := "06ad55c5e7643bcedc925309424b8e56b0714220bca2505ed1675137bb23b0cc", func := "ligature/ligaturelaw04.TokenMakes", spec := "tokenMakes", plainKeys := false, apart := false, narrowed := true }
def TokenMakesUptoSaid : Prop := tokenMakesUptoRow.holds Try.pinned (OpenSpec.upto tokenMakesSpec)

/-- 'ligaturelaw04.TokenNone', WHERE WHAT IT READS IS OF BULK AT MOST 1048576: true; the input reads as it did. -/
def tokenNoneUptoRow : OpenClaim := { program := "ytblbbenfaafcoaa", sum := "06ad55c5e7643bcedc925309424b8e56b0714220bca2505ed1675137bb23b0cc", func := "ligature/ligaturelaw04.TokenNone", spec := "tokenNone", plainKeys := false, apart := false, narrowed := true }
def TokenNoneUptoSaid : Prop := tokenNoneUptoRow.holds Try.pinned (OpenSpec.upto tokenNoneSpec)

/-- 'ligaturelaw05.ChainEncodes', WHERE WHAT IT READS IS OF BULK AT MOST 1048576: true; the input reads as it did. -/
def chainEncodesUptoRow : OpenClaim := { program := "ytblbbenfaafcoaa", sum := "06ad55c5e7643bcedc925309424b8e56b0714220bca2505ed1675137bb23b0cc", func := "ligature/ligaturelaw05.ChainEncodes", spec := "chainEncodes", plainKeys := false, apart := false, narrowed := true }
def ChainEncodesUptoSaid : Prop := chainEncodesUptoRow.holds Try.pinned (OpenSpec.upto chainEncodesSpec)

/-- 'ligaturelaw05.ChainBack', WHERE WHAT IT READS IS OF BULK AT MOST 1048576: true; the input reads as it did. -/
def chainBackUptoRow : OpenClaim := { program := "ytblbbenfaafcoaa", sum := "06ad55c5e7643bcedc925309424b8e56b0714220bca2505ed1675137bb23b0cc", func := "ligature/ligaturelaw05.ChainBack", spec := "chainBack", plainKeys := false, apart := false, narrowed := true }
def ChainBackUptoSaid : Prop := chainBackUptoRow.holds Try.pinned (OpenSpec.upto chainBackSpec)

end Rows
end Go.Proofs.Ytblbbenfaafcoaa
