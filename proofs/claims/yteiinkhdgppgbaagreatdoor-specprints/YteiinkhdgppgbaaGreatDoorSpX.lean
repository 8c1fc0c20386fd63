/- Contracts: the writer's line and head. -/
import Derived.Test.YteiinkhdgppgbaaGreatDoorSpW
import Derived.Test.YteiinkhdgppgbaaGreatDoorSpT
import Derived.Test.YteiinkhdgppgbaaGreatDoorWordI
import Derived.Test.YteiinkhdgppgbaaGreatDoorWordO
import Derived.Deep.RegionHeld3
namespace Go.Proofs.YteiinkhdgppgbaaGreatDoor
open Go.RowKit
set_option linter.unusedVariables false
set_option linter.unusedSimpArgs false

def nameB (k : Nat) : ByteArray := match k with
  | 0 => ⟨wVocab.toArray⟩
  | 1 => ⟨wMerge.toArray⟩
  | 2 => ⟨wToken.toArray⟩
  | 3 => ⟨wSpecial.toArray⟩
  | 4 => ⟨wClass.toArray⟩
  | _ => ⟨wJoin.toArray⟩
theorem nameB_size (k : Nat) : (nameB k).size ≤ 7 := by
  match k with
  | 0 => decide
  | 1 => decide
  | 2 => decide
  | 3 => decide
  | 4 => decide
  | _ + 5 => exact (by decide : (⟨wJoin.toArray⟩ : ByteArray).size ≤ 7)
/-- What the package variables hold. -/
structure Env (w : World) : Prop where
  tens : Tens w
  errs : Errs w
  names : ∀ k, k < 6 → w.cell? ⟨0, k, none⟩ = some (.string (nameB k))
  maxl : ∃ m : Int, w.cell? ⟨1, 0, none⟩ = some (.int .i64 m)
theorem Env.kept {w w' : World} (h : Env w) (hb : Below w.heap.size w w') : Env w' := by
  refine ⟨tens_below h.tens hb, errs_below h.errs hb, fun k hk => ?_, ?_⟩
  · have := h.names k hk
    exact (bcell hb (World.block_lt_of_cell? w _ this)).trans this
  · obtain ⟨m, hm⟩ := h.maxl
    exact ⟨m, (bcell hb (World.block_lt_of_cell? w _ hm)).trans hm⟩
theorem ReadsS.kept {w w' : World} {ao : Option Addr} {n : Nat} {ss : List ByteArray} (h : ReadsS w ao n ss) (hb : Below w.heap.size w w') : ReadsS w' ao n ss := by
  refine ⟨h.1, ?_⟩
  rcases h.2 with h0 | ⟨b, off, rfl, hc⟩
  · exact Or.inl h0
  · exact Or.inr ⟨b, off, rfl, fun i hi => (bcell hb (World.block_lt_of_cell? w _ (hc i hi))).trans (hc i hi)⟩
theorem reads_text (w : World) (s : ByteArray) (T : TypeId) : ReadsS (w.alloc (.cells #[.string s] T)) (some ⟨w.heap.size, 0, none⟩) 1 [s] := by
  refine ⟨rfl, Or.inr ⟨w.heap.size, 0, rfl, fun i hi => ?_⟩⟩
  obtain rfl : i = 0 := by omega
  simp
theorem reads_text2 (w : World) (s t : ByteArray) (T : TypeId) : ReadsS (w.alloc (.cells #[.string s, .string t] T)) (some ⟨w.heap.size, 0, none⟩) 2 [s, t] := by
  refine ⟨rfl, Or.inr ⟨w.heap.size, 0, rfl, fun i hi => ?_⟩⟩
  match i, hi with
  | 0, _ => simp
  | 1, _ => simp

set_option maxHeartbeats 4000000 in
set_option maxRecDepth 20000 in
theorem wline_any (w0 : World) (hE : Env w0) (b k : Nat) (l : List UInt8) (ao : Option Addr) (n cap : Nat) (ss : List ByteArray) (w : World) (hbel : Below w0.heap.size w0 w) (hB : Lib.IsBuilder TW 5 w0.heap.size b (Lib.byteCells l) w) (hR : ReadsS w ao n ss) (hk : k < 6) (hn : n ≤ 10) (hss : ∀ s ∈ ss, s.size ≤ 1000000) (hl : l.length ≤ 1000000000) :
    Calls Tryz.prog 44 #[.pointer (some ⟨b, 0, none⟩), .int .i64 k, .slice ao n cap] w fun e w' => e = .returned (.tuple #[]) ∧ Lib.BuilderAt TW 5 w0.heap.size b (.pointer (some ⟨b, 0, none⟩)) (Lib.byteCells (l ++ (lineL (nameB k) ss ++ [10]))) w' ∧ FrW w0.heap.size b w w' := by
  have hE1 := hE.kept hbel
  have hnm := hE1.names k hk
  have hg0 : 0 < w0.heap.size := World.block_lt_of_cell? w0 _ (hE.names k hk)
  have hsz : (lineS (nameB k) ss).size ≤ 20000000 := by
    have h1 := lineL_len (nameB k) ss 1000000 hss
    have h2 := nameB_size k
    have h3 : ss.length ≤ 10 := by rw [hR.1]; exact hn
    have h4 : ss.length * (1000000 + 1) ≤ 10 * (1000000 + 1) := Nat.mul_le_mul_right _ h3
    have h5 : (lineS (nameB k) ss).size = (lineL (nameB k) ss).length := by simp [lineS, ByteArray.size]
    omega
  have HCL := hide (fun (W : World) (hW : Below w.heap.size w W) => line_any (nameB k) ao n cap ss W (hR.kept hW) (by have := nameB_size k; omega) (by omega) hss)
  have HHB := hide hB
  have HBEL := hide hbel
  have hs0 : w0.heap.size ≤ w.heap.size := hbel.size
  have HLC := hide (show lineS (nameB k) ss = ⟨(lineL (nameB k) ss).toArray⟩ from rfl)
  have HSZ := hide hsz
  clear hE hE1 hR hss hB hbel hsz
  generalize lineL (nameB k) ss = L at HLC ⊢
  generalize lineS (nameB k) ss = LS at HCL HLC HSZ
  generalize nameB k = nm at hnm HCL
  have k0 : (0 : Int) ≤ (k : Int) := by omega
  have k1 : (k : Int) < 6 := by omega
  go_enter Tryz.func44, Tryz.ntmps44
  go_wp2
  go_region_held3 (fun W => W.cell? ⟨0, k, none⟩ = some (.string nm)) (first | exact hnm | (trivial) | go_keep) (first
    | (go_at_call 60; refine (HCL.out _ (below_drew (Below.refl _ _))).mono ?_; rintro e W1 ⟨rfl, hb⟩; have hnm2 := hnm; replace hnm := (bcell hb (World.block_lt_of_cell? _ _ hnm)).trans hnm2; clear hnm2; replace hb := (below_drew (Below.refl w.heap.size w)).trans hb)
    | (go_at_call 59; refine (wb_string w0.heap.size b _ LS _ (isBuilder_low HHB.out hb) (by rw [byteCells_length]; have := HSZ.out; omega) (Nat.le_trans hs0 hb.size)).mono ?_; rintro e W2 ⟨rfl, hB2, hf2⟩; replace hnm := (bcell hf2.bel hg0).trans hnm; have HB2 := hide hB2; have HF2 := hide ((FrW.refl w0.heap.size b w).low hs0 hb |>.trans hf2); clear hB2 hf2))
  rw [HLC.out] at HB2
  have HB3 : Hid (Lib.BuilderAt TW 5 w0.heap.size b (.pointer (some ⟨b, 0, none⟩)) (Lib.byteCells (l ++ L)) W2) := hide (by rw [byteCells_append]; exact HB2.out)
  have HLN : Hid ((Lib.byteCells (l ++ L)).length + 1 ≤ 140737488355328) := by
    refine hide ?_
    have h1 := HSZ.out
    rw [HLC.out] at h1
    have h2 : (⟨L.toArray⟩ : ByteArray).size = L.length := by show L.toArray.size = _; rw [List.size_toArray]
    rw [byteCells_length, List.length_append]
    omega
  clear HB2
  go_wp2_with fail
  refine (wb_byte w0.heap.size b _ 10 W2 (Or.inr HB3.out) HLN.out (Nat.le_trans hs0 HF2.out.bel.size)).mono ?_
  rintro e w3 ⟨rfl, hB4, hf4⟩
  have HB4 := hide hB4
  clear hB4
  go_wp2
  go_end0
  refine ⟨rfl, ?_, HF2.out.trans hf4⟩
  have h := HB4.out
  rw [show l ++ (L ++ [10]) = (l ++ L) ++ [10] by simp, byteCells_append]
  exact h
end Go.Proofs.YteiinkhdgppgbaaGreatDoor
