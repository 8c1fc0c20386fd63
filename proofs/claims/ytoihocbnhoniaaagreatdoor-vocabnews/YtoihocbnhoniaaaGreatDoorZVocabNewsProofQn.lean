/- For any spec the statement VocabNews answers true (its vocabulary, or why there is none, and where, as a spec and as a text, are those of the document), and the argument reads afterwards as it read before; the listed package variables lie as the text of the program lays them. -/
import Derived.Test.YtoihocbnhoniaaaGreatDoorCards
import Derived.Test.YtoihocbnhoniaaaGreatDoorTie
import Derived.Test.YtoihocbnhoniaaaGreatDoorQn44
import Derived.Test.YtoihocbnhoniaaaGreatDoorQn45
import Derived.Test.YtoihocbnhoniaaaGreatDoorQn46
import Derived.SliceStrings
import Derived.WalkKit
import Derived.ProofKit
import Derived.OpenShut
import Derived.ShutString
import Derived.Deep.DeepHandedRow
import Derived.Lib.LaidTab
import Derived.Stop.LaidErr
import Derived.Deep.DeepWitnessRowRef
import Derived.ChangeOld
import Derived.Below
namespace Go.Proofs.YtoihocbnhoniaaaGreatDoor.vocabNews
open Go.ChangeShapes Go.WideShapes Go.ChangeAt Go.RowKit
open Go.ChangeMaps (open_string shut_string)
set_option linter.unusedVariables false

theorem own : ownKnob Tryz.prog.godebug = none := by kernel_rfl
theorem laidOut : laidOutB Tryz.prog = true := by kernel_rfl

set_option maxRecDepth 100000 in
theorem contract (H : Type) (enc : TypeId × Value → H) (W : World) (base : Nat) (args : Array Value) (ds gs : List (DataW H)) (before : List MemPlace)
    (hval : ∀ (j : Nat) t v, Tryz.f3.params[j]? = some t → args[j]? = some v → Value.okWide Tryz.prog W .any base t v)
    (hW : DataW.Whole enc Tryz.prog Tryz.f3.params.toList Rows.vocabNewsSpec.vars false W args.toList ds gs before) (hL : laidMetH Tryz.prog Rows.vocabNewsRow.laid W) (hS : W.ShapedOpen Tryz.prog) :
    Calls Tryz.prog 3 args W fun e W' => ∃ v, e = .returned v ∧ Rows.vocabNewsSpec.post enc Tryz.prog Tryz.f3 false true false false W args v W' := by
  have hW' := hW
  obtain ⟨p, q, hA0, hV, rfl, hfz, hnd⟩ := hW
  have hA : DataW.TrodAll enc Tryz.prog W 0 (fun _ => true) true Tryz.f3.params.toList args.toList ds p := hA0
  rw [Tryz.params3] at hA hval
  obtain ⟨v0, vs0, d0, ds0, p0, q0, hargs, rfl, rfl, h0, r0⟩ := trodAll_cons hA
  obtain ⟨rfl, rfl, rfl⟩ := trodAll_nil r0
  obtain rfl : args = #[v0] := by cases args; simp_all
  obtain ⟨rfl, rfl⟩ := trodVars_none hV
  have k0 := h0
  have lt0 : ∀ x ∈ p0, x.block < W.heap.size := by obtain ⟨m, hm⟩ := k0; exact DataW.trod_lt m _ _ _ hm
  obtain ⟨x0, s0, rfl, sp0⟩ := Wf.open_spec (hval 0 28 v0 rfl rfl) h0
  clear hA0
  have hE : Wf.Env W := Wf.env_of hL hS
  refine (vnews_walk x0 s0 W hE sp0).mono fun e W' ⟨he, bel⟩ => ?_
  subst he
  exact ⟨_, rfl, _, _, _, [], _, [], hW', trodAll_mk1 (shut_bool Tryz.underlying4 _), (trodAll_cons_mk (Below.trod laidOut (by kernel_rfl) (of_decide_eq_true (by kernel_rfl)) k0 bel lt0) trodAll_mk0), rfl, bel.frame _, fun h => by cases h⟩

def tab (zs : List Int) (k : IntKind) : Array Value := (zs.map (Value.int k)).toArray
def de32 : List Int := [0, 1, 28, 2, 29, 14, 24, 3, 30, 22, 20, 15, 25, 17, 4, 8, 31, 27, 13, 23, 21, 19, 16, 7, 26, 12, 18, 6, 11, 5, 10, 9]
def de64 : List Int := [0, 1, 56, 2, 57, 49, 28, 3, 61, 58, 42, 50, 38, 29, 17, 4, 62, 47, 59, 36, 45, 43, 51, 22, 53, 39, 33, 30, 24, 18, 12, 5, 63, 55, 48, 27, 60, 41, 37, 16, 46, 35, 44, 21, 52, 32, 23, 11, 54, 26, 40, 15, 34, 20, 31, 10, 25, 14, 19, 9, 13, 8, 7, 6]
def lay (cs : Array Value) : Obj → Obj
  | .cells _ t frozen => .cells cs t frozen
  | o => o
def lits : DataW Unit → List Value
  | .agg l => l.filterMap (fun | .lit (.int k n) => some (.int k n) | _ => none)
  | _ => []
def pairs : DataW Unit → List Value
  | .agg l => l.flatMap lits
  | _ => []
/-- A world for the witness: the settled one, the listed variables holding what their initialisers lay. -/
noncomputable def base0 (os : Os) : Array Obj := (World.holding Tryz.prog os ⟨#[], #[], []⟩).heap
def text (l : List UInt8) : Obj := .cells #[.string ⟨l.toArray⟩] 335 (0, 0)
noncomputable def laidWorld (os : Os) : World :=
  { World.holding Tryz.prog os ⟨#[], #[], []⟩ with heap := ((((((((((base0 os).modify 6 (lay (tab Lib.pow10Tab .u64))).modify 7 (lay (tab de32 .u8))).modify 8 (lay (tab de64 .u8))).modify 3 (lay (pairs Rows.laid_unicode_utf8_acceptRanges).toArray)).modify 2 (lay (lits Rows.laid_unicode_utf8_first).toArray)).modify 0 (lay #[.string (Wf.nameB 0), .string (Wf.nameB 1), .string (Wf.nameB 2), .string (Wf.nameB 3), .string (Wf.nameB 4), .string (Wf.nameB 5)])).modify 5 (lay #[.iface 333 (.pointer (some ⟨(base0 os).size, 0, none⟩))])).modify 4 (lay #[.iface 333 (.pointer (some ⟨(base0 os).size + 1, 0, none⟩))])).push (text [118, 97, 108, 117, 101, 32, 111, 117, 116, 32, 111, 102, 32, 114, 97, 110, 103, 101])).push (text [105, 110, 118, 97, 108, 105, 100, 32, 115, 121, 110, 116, 97, 120]) }
theorem laid_met (os : Os) : laidMet Tryz.prog Rows.vocabNewsRow.laid ((laidWorld os).forCall (fun _ _ => 0) ⟨#[], #[Value.agg Wf.Sv.zero.cs], []⟩).memory :=
  laidMet_of_run' 8 (by kernel_rfl) (by kernel_rfl)
theorem reads (os : Os) {H : Type} (enc : TypeId × Value → H) : ∃ places, DataW.whole enc Tryz.prog ((laidWorld os).forCall (fun _ _ => 0) ⟨#[], #[Value.agg Wf.Sv.zero.cs], []⟩).memory Tryz.f3.params.toList Rows.vocabNewsSpec.vars false #[Value.agg Wf.Sv.zero.cs].toList 8 = some ([.agg [.lit (.bool false), .nil, .nil, .nil, .nil, .nil]], [], places) :=
  ⟨[], by kernel_rfl⟩

set_option maxRecDepth 100000 in
theorem lifted (os : Os) (started : os.Started) (H : Type) (enc : TypeId × Value → H) (F : Stop.Interp) :
    ReturnsInHanded {} Tryz.checked os 3 .any ((OpenSpec.ofChange Rows.vocabNewsSpec).preRow enc Tryz.prog Tryz.f3 Rows.vocabNewsRow.domain false Rows.vocabNewsRow.laid) (((OpenSpec.ofChange Rows.vocabNewsSpec).at F).post enc Tryz.prog Tryz.f3 false true false false) := by
  obtain ⟨places, hx⟩ := reads os enc
  refine returnsInHanded_of_row (C := Tryz.checked) (s := OpenSpec.ofChange Rows.vocabNewsSpec) own started (by kernel_rfl) Tryz.func3
    (witness_row_atRef (enc := enc) (C := Tryz.checked) false (laidWorld os) #[Value.agg Wf.Sv.zero.cs] rfl (by kernel_rfl) (by kernel_rfl) (by kernel_rfl)
      (OpenSpec.preRow_of_cond 8 hx (by kernel_rfl) (fun k hk => by cases hk) (by kernel_rfl) (laid_met os))) ?_
  intro W base args ds gs before hval hW _ _ _ hL hS _
  exact contract H enc W base args ds gs before hval hW hL hS

theorem said : Rows.VocabNewsSaid :=
  OpenClaim.holds_of_cond 3 Tryz.f3 rfl rfl rfl rfl rfl rfl rfl ⟨rfl, rfl, rfl, rfl, rfl⟩ rfl rfl rfl rfl rfl (by kernel_rfl) Tryz.func3 (by kernel_rfl)
    (of_decide_eq_true (by kernel_rfl)) (by unfold Func.isWrapper; first | (rw [if_pos (by decide +kernel)]; kernel_rfl) | (rw [if_neg (by decide +kernel)]; exact ⟨rfl, rfl⟩))
    (fun os started H enc _ F => by rw [OpenClaim.pre_eq_preRow]; exact lifted os started H enc F)

theorem plain (f : FuncId) (fn : Func) (hf : Tryz.pinned.checked.prog.funcNamed "ligature/ligaturelaw10.VocabNews" = some f) (hfn : Tryz.pinned.checked.prog.funcs[f]? = some fn) :
    true = Tryz.pinned.checked.prog.looks [] ∧ ∀ (j : Nat) t, fn.params[j]? = some t → Tryz.pinned.checked.prog.wantsStandIn t = false := by
  obtain rfl : f = 3 := Option.some.inj ((show Tryz.prog.funcNamed "ligature/ligaturelaw10.VocabNews" = some 3 by kernel_rfl).symm.trans hf) |>.symm
  obtain rfl : fn = Tryz.f3 := (Option.some.inj (Tryz.func3.symm.trans hfn)).symm
  refine ⟨by kernel_rfl, fun j t ht => ?_⟩
  rw [Tryz.params3] at ht
  have hm := Array.mem_of_getElem? ht
  simp only [List.mem_toArray, List.mem_cons, List.not_mem_nil, or_false] at hm
  subst hm
  exact (show Tryz.prog.wantsStandIn 28 = false by kernel_rfl)

theorem card : Rows.VocabNewsCardSaid :=
  Claim7.holds_tied_plain_at .later [] _ _ _ _ said (fun _ h => by cases h) (by kernel_rfl) (fun _ h => by cases h) vocabNews_row_tie rfl ⟨rfl, rfl⟩ (by kernel_rfl) rfl plain (by kernel_rfl)
end Go.Proofs.YtoihocbnhoniaaaGreatDoor.vocabNews
namespace Go.Proofs.YtoihocbnhoniaaaGreatDoor
theorem vocabNews_holds : Rows.VocabNewsCardSaid := vocabNews.card
#print axioms vocabNews_holds
end Go.Proofs.YtoihocbnhoniaaaGreatDoor
