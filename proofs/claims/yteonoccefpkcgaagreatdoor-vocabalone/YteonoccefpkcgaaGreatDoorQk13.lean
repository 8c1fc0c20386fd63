/- Contracts of word.Cut and word.Lines. What the package variables hold; the names of the lines' kinds. -/
import Derived.Test.YteonoccefpkcgaaGreatDoorQk9
import Derived.Test.YteonoccefpkcgaaGreatDoorQk12
import Derived.Test.YteonoccefpkcgaaGreatDoorQk5
import Derived.Test.YteonoccefpkcgaaGreatDoorQk10
import Derived.WalkKit
import Derived.ProofKit
import Derived.BigQuiet
import Derived.Deep.RegionHeld3
namespace Go.Proofs.YteonoccefpkcgaaGreatDoor.Wf
open Go.RowKit
set_option linter.unusedVariables false
set_option linter.unusedSimpArgs false

/-- A split at one byte, as values. -/
theorem splitB_tv (c : UInt8) (s : ByteArray) : (Lib.splitB ⟨#[c]⟩ 0 (Lib.countB s ⟨#[c]⟩) s).map Value.string = tv (cutL c s.data.toList) := by
  have h := Lib.splitB_data ⟨#[c]⟩ 0 (Lib.countB s ⟨#[c]⟩) s
  have h2 : Lib.splitK [c] 0 (Lib.count s.data.toList [c]) s.data.toList = cutL c s.data.toList := split_cut c _
  have h3 : (Lib.splitB ⟨#[c]⟩ 0 (Lib.countB s ⟨#[c]⟩) s).map (·.data.toList) = cutL c s.data.toList := h.trans h2
  rw [← h3]
  unfold tv
  rw [List.map_map]
  refine List.map_congr_left fun x _ => ?_
  rfl
theorem countB_cut (c : UInt8) (s : ByteArray) : Lib.countB s ⟨#[c]⟩ + 1 = (cutL c s.data.toList).length := by
  rw [cut_len]
  show Lib.count s.data.toList [c] + 1 = _
  rw [Lib.count_one]

set_option maxRecDepth 20000 in
set_option maxHeartbeats 4000000 in
theorem cut_any (s : ByteArray) (m : Int) (w : World) (hs : s.size < 4294967281) (hm : w.cell? ⟨1, 0, none⟩ = some (.int .i64 m)) :
    Calls Tryz.prog 114 #[.string s] w fun e w' => e = .returned (.slice (some ⟨w.heap.size, 0, none⟩) ((cutL 32 s.data.toList).length : Nat) ((cutL 32 s.data.toList).length : Nat)) ∧ w' = w.alloc (.cells (tv (cutL 32 s.data.toList)).toArray 9) := by
  have K := Tryz.strings_Split s ⟨#[32]⟩ m w hs hm (by decide)
  rw [splitB_tv 32 s, countB_cut 32 s] at K
  go_enter Tryz.func114, Tryz.ntmps114
  go_wp2_with fail
  refine K.mono ?_
  rintro e w1 ⟨rfl, rfl⟩
  go_wp2
  go_ret
  exact ⟨rfl, rfl⟩

set_option maxRecDepth 20000 in
set_option maxHeartbeats 4000000 in
/-- A text's lines: the cut's pieces but the last, and whether that is empty. -/
theorem lines_any (s : ByteArray) (m : Int) (w : World) (hs : s.size < 4294967281) (hm : w.cell? ⟨1, 0, none⟩ = some (.int .i64 m)) (l : List (List UInt8)) (k : Nat) (x : List UInt8) (hl : cutL 10 s.data.toList = l ++ [x]) (hk : l.length = k) :
    Calls Tryz.prog 77 #[.string s] w fun e w' => e = .returned (.tuple #[.slice (some ⟨w.heap.size, 0, none⟩) k k, .bool x.isEmpty]) ∧ ∃ nq, w' = (w.alloc (.cells (tv (l ++ [x])).toArray 9)).drewN nq := by
  have K := Tryz.strings_Split s ⟨#[10]⟩ m w hs hm (by decide)
  have hc := countB_cut 10 s
  rw [hl, List.length_append, List.length_singleton, hk] at hc
  have hc2 : Lib.countB s ⟨#[10]⟩ = k := by omega
  have hle : k < 4294967296 := by
    have := Lib.countB_le ⟨#[10]⟩ (by decide) s.size s (Nat.le_refl _)
    omega
  rw [splitB_tv 10 s, hc2, hl] at K
  have hcell : (w.alloc (.cells (tv (l ++ [x])).toArray 9)).cell? ⟨w.heap.size, k, none⟩ = some (.string ⟨x.toArray⟩) := by
    simp [tv, ← hk]
  go_enter Tryz.func77, Tryz.ntmps77
  go_wp2_with fail
  refine K.mono ?_
  rintro e w1 ⟨rfl, rfl⟩
  generalize hW : w.alloc (.cells (tv (l ++ [x])).toArray 9) = w1 at hcell ⊢
  have k0 : (0 : Int) ≤ (k : Int) := by omega
  have k1 : (k : Int) ≤ ((k + 1 : Nat) : Int) := by omega
  have k2 : (k : Int) ≤ (k : Int) + 1 := by omega
  have k3 : (k : Int) < (k : Int) + 1 := by omega
  have k4 : (k : Int) < ((k + 1 : Nat) : Int) := by omega
  have k5 : (k : Int) ≤ (k : Int) := by omega
  have k6 : k < k + 1 := by omega
  have k7 : k ≤ k + 1 := by omega
  go_wp2
  go_quiet (fail)
  go_wp2
  go_ret2
  exact ⟨rfl, nq, by rw [hW]⟩
end Go.Proofs.YteonoccefpkcgaaGreatDoor.Wf

namespace Go.Proofs.YteonoccefpkcgaaGreatDoor.Wf
open Go.RowKit
set_option linter.unusedVariables false
set_option linter.unusedSimpArgs false

def nameB (k : Nat) : ByteArray := match k with
  | 0 => ⟨wVocab.toArray⟩
  | 1 => ⟨wMerge.toArray⟩
  | 2 => ⟨wToken.toArray⟩
  | 3 => ⟨wSpecial.toArray⟩
  | 4 => ⟨wClass.toArray⟩
  | _ => ⟨wJoin.toArray⟩
/-- What the package variables hold. -/
structure Env (w : World) : Prop where
  tens : Tens w
  errs : Errs w
  names : ∀ k, k < 6 → w.cell? ⟨0, k, none⟩ = some (.string (nameB k))
  maxl : ∃ m : Int, w.cell? ⟨1, 0, none⟩ = some (.int .i64 m)
theorem Env.kept {w w' : World} (h : Env w) (hb : Below w.heap.size w w') : Env w' := by
  refine ⟨tens_below h.tens hb, errs_below h.errs hb, fun k hk => ?_, ?_⟩
  · have := h.names k hk
    exact (bcell hb (World.block_lt_of_cell? w _ this)).trans this
  · obtain ⟨m, hm⟩ := h.maxl
    exact ⟨m, (bcell hb (World.block_lt_of_cell? w _ hm)).trans hm⟩
theorem ReadsS.kept {w w' : World} {ao : Option Addr} {n : Nat} {ss : List ByteArray} (h : ReadsS w ao n ss) (hb : Below w.heap.size w w') : ReadsS w' ao n ss := by
  refine ⟨h.1, ?_⟩
  rcases h.2 with h0 | ⟨b, off, rfl, hc⟩
  · exact Or.inl h0
  · exact Or.inr ⟨b, off, rfl, fun i hi => (bcell hb (World.block_lt_of_cell? w _ (hc i hi))).trans (hc i hi)⟩
end Go.Proofs.YteonoccefpkcgaaGreatDoor.Wf
