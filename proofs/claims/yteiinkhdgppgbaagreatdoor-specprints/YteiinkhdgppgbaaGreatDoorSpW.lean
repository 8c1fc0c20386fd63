/- A Builder that is a struct's one field: its methods, at the struct's own block. -/
import Derived.Test.YteiinkhdgppgbaaGreatDoorBuild
import Derived.Test.YteiinkhdgppgbaaGreatDoorBase
import Derived.Test.YteiinkhdgppgbaaGreatDoorWordA
import Derived.WalkKit
import Derived.ProofKit
import Derived.BigQuiet
namespace Go.Proofs.YteiinkhdgppgbaaGreatDoor
open Go.RowKit
set_option linter.unusedVariables false
set_option linter.unusedSimpArgs false

abbrev TW : TypeId := 49
theorem info_builder : (Tryz.prog.info? 47).map (·.size) = some 2 := by kernel_rfl
theorem lies_builder : liesAt Tryz.prog Tryz.prog.depth TW (2 / Tryz.prog.cellsOf TW) 0 47 1 = true := by kernel_rfl
theorem info_byte : (Tryz.prog.info? 5).map (fun i => (i.zero, i.size, i.bytes)) = some (some (.int .u8 0), 1, 1) := by kernel_rfl
theorem cells_byte : Tryz.prog.cellsOf 5 = 1 := by kernel_rfl

/-- What the builder's methods leave alone: all below B, and every block that is no row of bytes, but its own. -/
structure FrW (B b : Nat) (w w' : World) : Prop where
  bel : Below B w w'
  box : ∀ k cs T fr, w.heap[k]? = some (.cells cs T fr) → T ≠ 5 → k ≠ b → w'.heap[k]? = some (.cells cs T fr)
theorem FrW.refl (B b : Nat) (w : World) : FrW B b w w := ⟨Below.refl _ _, fun _ _ _ _ h _ _ => h⟩
theorem FrW.trans {B b : Nat} {w w' w'' : World} (h : FrW B b w w') (g : FrW B b w' w'') : FrW B b w w'' :=
  ⟨h.bel.trans g.bel, fun k cs T fr h1 h2 h3 => g.box k cs T fr (h.box k cs T fr h1 h2 h3) h2 h3⟩
theorem FrW.setCell {B b : Nat} {w w' : World} (h : FrW B b w w') (hb : B ≤ b) (j : Nat) (v : Value) : FrW B b w (w'.setCell ⟨b, j, none⟩ v) :=
  ⟨h.bel.setCell (p := ⟨b, j, none⟩) hb v, fun k cs T fr h1 h2 h3 => by rw [Below.heap_setCell _ _ _ _ (fun e => h3 e)]; exact h.box k cs T fr h1 h2 h3⟩
theorem FrW.low {B b : Nat} {w w' w'' : World} (h : FrW B b w w') (hB : B ≤ w'.heap.size) (hb : Below w'.heap.size w' w'') : FrW B b w w'' :=
  ⟨h.bel.trans (hb.mono hB), fun k cs T fr h1 h2 h3 => by
    have h4 := h.box k cs T fr h1 h2 h3
    rw [hb.block k (Array.getElem?_eq_some_iff.1 h4).1]
    exact h4⟩
theorem FrW.grown {B b : Nat} {w w' w'' : World} {v : Value} {n : Nat} {xs : List Value} (h : FrW B b w w') (hB : B ≤ w'.heap.size) (hown : w'.ownsRow B 5 1 v n xs) (hg : w'.grownBy w'' v.ownBlock) : FrW B b w w'' :=
  ⟨h.bel.grown hg hB (fun k hk => (hown.lt k hk).1), fun k cs T fr h1 h2 h3 => by
    have h4 := h.box k cs T fr h1 h2 h3
    rw [hg.block k (Array.getElem?_eq_some_iff.1 h4).1 (fun e => Lib.ownBlock_ne hown h4 h2 e.symm)]
    exact h4⟩

set_option maxHeartbeats 1000000 in
set_option maxRecDepth 100000 in
theorem wb_check (B b : Nat) (bs : List Value) (w : World) (h : Lib.IsBuilder TW 5 B b bs w) :
    Calls Tryz.prog 77 #[.pointer (some ⟨b, 0, none⟩)] w fun e w' => e = .returned (.tuple #[]) ∧ (Lib.BuilderAt TW 5 B b (.pointer (some ⟨b, 0, none⟩)) bs w' ∧ FrW B b w w') := by
  obtain ⟨j, hj, hjs⟩ := Option.map_eq_some_iff.1 info_builder
  rcases h with h | h
  · have c0 := h.cell0
    have f0 := h.frozen0
    have hsh := h.shape
    have HH := hide h
    clear h
    go_enter Tryz.func77, Tryz.ntmps77
    go_wp2
    rw [Lib.run_to_unsafe w ⟨b, 0, none⟩ Tryz.underlying44 Tryz.underlying132 hj (by rw [hjs]; decide) hsh (Nat.zero_lt_succ 1)]
    simp only [Result.andThen]
    rw [Oper.upon_value]
    go_wp2
    rw [run_callFunc_extern Tryz.func84 (by kernel_rfl) (by kernel_rfl) (by kernel_rfl) (e := Extern.AbiNoEscape.same) (by kernel_rfl)]
    rw [Lib.run_noEscape]
    simp only [Result.andThen]
    rw [Oper.upon_value]
    go_wp2
    rw [Lib.run_from_unsafe w ⟨b, 0, none⟩ Tryz.underlying132 Tryz.underlying44 hj hsh lies_builder]
    simp only [Result.andThen]
    rw [Oper.upon_value]
    go_wp2
    go_end0
    exact ⟨rfl, HH.out.used _, (FrW.refl B b w).setCell HH.out.1 _ _⟩
  · have c0 := h.cell0
    have HH := hide h
    clear h
    go_enter Tryz.func77, Tryz.ntmps77
    go_wp2
    rw [Lib.run_neq_ptr_same w _ Tryz.underlying44 hj]
    go_wp2
    go_end0
    exact ⟨rfl, HH.out, FrW.refl B b _⟩

set_option maxHeartbeats 2000000 in
set_option maxRecDepth 100000 in
theorem wb_byte (B b : Nat) (bs : List Value) (c : Int) (w : World) (h : Lib.IsBuilder TW 5 B b bs w) (hlen : bs.length + 1 ≤ 140737488355328) (hBw : B ≤ w.heap.size) :
    Calls Tryz.prog 61 #[.pointer (some ⟨b, 0, none⟩), .int .u8 c] w fun e w' => e = .returned .nilIface ∧ (Lib.BuilderAt TW 5 B b (.pointer (some ⟨b, 0, none⟩)) (bs ++ [.int .u8 c]) w' ∧ FrW B b w w') := by
  obtain ⟨i0, hi, hz0, hz1, hz2⟩ := info_parts info_byte
  have K := wb_check B b bs w h
  go_enter Tryz.func61, Tryz.ntmps61
  go_wp2_with fail
  refine K.mono ?_
  rintro e w1 ⟨rfl, h1, hb1⟩
  obtain ⟨hB, v, hbk, hown, hne⟩ := h1
  have hs1 := hb1.bel.size
  have c0 : w1.cell? ⟨b, 0, none⟩ = some (.pointer (some ⟨b, 0, none⟩)) := by rw [Lib.cell_of_heap hbk]; rfl
  have c1 : w1.cell? ⟨b, 1, none⟩ = some v := by rw [Lib.cell_of_heap hbk]; rfl
  go_wp2_with (at_builtin; refine wpList_append_own _ rfl _ _ 45 rfl B 5 i0 (.int .u8 0) 1 1 Tryz.underlying45 hi hz0 hz1 hz2 rfl (by decide) _ _ _ rfl (hown.alloc _) ⟨w1.heap.size, 0, none⟩ 1 1 [.int .u8 c] rfl rfl ?c1 ?c2 ?c3 ?c4 ?c5 ?_)
  case c1 =>
    intro j u hj
    match j, hj with
    | 0, hj => simp at hj; subst hj; simp [Addr.add]
  case c2 => intro u hu; simp at hu; subst hu; rfl
  case c3 => unfold maxLen; omega
  case c4 => omega
  case c5 => simp; omega
  intro v' w2 hown' hgrow _
  have hlt : b < w1.heap.size := (Array.getElem?_eq_some_iff.1 hbk).1
  have hb2 : w2.heap[b]? = some (.cells #[.pointer (some ⟨b, 0, none⟩), v] TW (0, 0)) := by
    rw [hgrow.block b (by simp; omega) (fun e => hne e.symm), Lib.alloc_old w1 _ b hlt]
    exact hbk
  have d1 : w2.cell? ⟨b, 1, none⟩ = some v := by rw [Lib.cell_of_heap hb2]; rfl
  have f1 : w2.frozen? ⟨b, 1, none⟩ = false := Lib.frozen_of_heap hb2 1
  obtain ⟨g, cap, rfl⟩ : ∃ g cap, v' = .slice (some ⟨g, 0, none⟩) (bs.length + 1) cap := by
    rcases hown'.2 with ⟨_, h0⟩ | ⟨g, cap, cur, hv, _⟩
    · omega
    · exact ⟨g, cap, hv⟩
  go_wp2
  go_ret
  refine ⟨rfl, ?_, ?_⟩
  · exact Lib.BuilderAt.put (T := TW) (e := 5) hB hb2 (bs' := bs ++ [.int .u8 c]) (by simpa using hown') (by decide)
  · exact ((hb1.low (by omega) (Below.alloc (Below.refl _ w1) (Nat.le_refl _) _)).grown (by simp; omega) (hown.alloc _) hgrow).setCell hB _ _

set_option maxHeartbeats 2000000 in
set_option maxRecDepth 100000 in
theorem wb_string (B b : Nat) (bs : List Value) (s : ByteArray) (w : World) (h : Lib.IsBuilder TW 5 B b bs w) (hlen : bs.length + s.size ≤ 140737488355328) (hBw : B ≤ w.heap.size) :
    Calls Tryz.prog 59 #[.pointer (some ⟨b, 0, none⟩), .string s] w fun e w' => e = .returned (.tuple #[.int .i64 s.size, .nilIface]) ∧ (Lib.BuilderAt TW 5 B b (.pointer (some ⟨b, 0, none⟩)) (bs ++ Lib.strCells s) w' ∧ FrW B b w w') := by
  obtain ⟨i0, hi, hz0, hz1, hz2⟩ := info_parts info_byte
  have K := wb_check B b bs w h
  go_enter Tryz.func59, Tryz.ntmps59
  go_wp2_with fail
  refine K.mono ?_
  rintro e w1 ⟨rfl, h1, hb1⟩
  obtain ⟨hB, v, hbk, hown, hne⟩ := h1
  have hs1 := hb1.bel.size
  have c0 : w1.cell? ⟨b, 0, none⟩ = some (.pointer (some ⟨b, 0, none⟩)) := by rw [Lib.cell_of_heap hbk]; rfl
  have c1 : w1.cell? ⟨b, 1, none⟩ = some v := by rw [Lib.cell_of_heap hbk]; rfl
  go_wp2_with (at_builtin; refine Lib.wpList_append_own_string _ rfl _ _ 45 9 rfl B 5 i0 Tryz.underlying45 Tryz.underlying9 hi hz0 hz1 hz2 _ _ _ rfl hown s rfl ?c3 ?c4 ?c5 ?_)
  case c3 => unfold maxLen; omega
  case c4 => omega
  case c5 => omega
  intro v' w2 hown' hgrow _
  have hlt : b < w1.heap.size := (Array.getElem?_eq_some_iff.1 hbk).1
  have hb2 : w2.heap[b]? = some (.cells #[.pointer (some ⟨b, 0, none⟩), v] TW (0, 0)) := by
    rw [hgrow.block b hlt (fun e => hne e.symm)]
    exact hbk
  have d1 : w2.cell? ⟨b, 1, none⟩ = some v := by rw [Lib.cell_of_heap hb2]; rfl
  have f1 : w2.frozen? ⟨b, 1, none⟩ = false := Lib.frozen_of_heap hb2 1
  obtain ⟨ao, n', cap, rfl⟩ : ∃ ao n' cap, v' = .slice ao n' cap := by
    rcases hown'.2 with ⟨hv, _⟩ | ⟨g, cap, cur, hv, _⟩
    · exact ⟨_, _, _, hv⟩
    · exact ⟨_, _, _, hv⟩
  go_wp2
  go_ret2
  refine ⟨rfl, ?_, ?_⟩
  · exact Lib.BuilderAt.put (T := TW) (e := 5) hB hb2 (bs' := bs ++ Lib.strCells s) (by simpa [Lib.strCells_length] using hown') (by decide)
  · exact (hb1.grown (by omega) hown hgrow).setCell hB _ _

set_option maxHeartbeats 1000000 in
set_option maxRecDepth 100000 in
theorem wb_len (B b : Nat) (p : Value) (bs : List Value) (w : World) (h : Lib.BuilderAt TW 5 B b p bs w) :
    Calls Tryz.prog 17 #[.pointer (some ⟨b, 0, none⟩)] w fun e w' => e = .returned (.int .i64 bs.length) ∧ w' = w := by
  obtain ⟨hB, v, hbk, hown, hne⟩ := h
  obtain ⟨ao, cap, rfl⟩ : ∃ ao cap, v = .slice ao bs.length cap := by
    rcases hown.2 with ⟨hv, h0⟩ | ⟨g, cap, cur, hv, _⟩
    · exact ⟨none, 0, by rw [hv, h0]⟩
    · exact ⟨_, _, hv⟩
  have c1 : w.cell? ⟨b, 1, none⟩ = some (.slice ao bs.length cap) := by rw [Lib.cell_of_heap hbk]; rfl
  clear hown
  generalize bs.length = n at c1 ⊢
  go_enter Tryz.func17, Tryz.ntmps17
  go_wp2
  go_ret
  exact ⟨rfl, rfl⟩

set_option maxHeartbeats 1000000 in
set_option maxRecDepth 100000 in
theorem wb_text (B b : Nat) (p : Value) (l : List UInt8) (w : World) (h : Lib.BuilderAt TW 5 B b p (Lib.byteCells l) w) (h0 : l ≠ []) :
    Calls Tryz.prog 18 #[.pointer (some ⟨b, 0, none⟩)] w fun e w' => e = .returned (.string ⟨l.toArray⟩) ∧ Below B w w' := by
  obtain ⟨hB, v, hbk, hown, hne⟩ := h
  have hl0 : l.length ≠ 0 := by simpa using h0
  rw [Lib.byteCells_length] at hown
  have hown2 := hown
  obtain ⟨g, cap, cur, rfl, hbg, hg, hnc, hcm, hcs, htake⟩ : ∃ g cap cur, v = .slice (some ⟨g, 0, none⟩) l.length cap ∧ B ≤ g ∧ w.heap[g]? = some (.cells cur 5 (0, 0)) ∧ l.length ≤ cap ∧ cap ≤ maxLen ∧ cur.size = cap * 1 ∧ cur.toList.take (l.length * 1) = Lib.byteCells l := by
    rcases hown.2 with ⟨_, hz⟩ | ⟨g, cap, cur, hv, r⟩
    · exact absurd hz hl0
    · exact ⟨g, cap, cur, hv, r⟩
  have hbk' : w.drew.heap[b]? = some (.cells #[p, .slice (some ⟨g, 0, none⟩) l.length cap] TW (0, 0)) := hbk
  have hg' : w.drew.heap[g]? = some (.cells cur 5 (0, 0)) := hg
  have c1 : w.drew.cell? ⟨b, 1, none⟩ = some (.slice (some ⟨g, 0, none⟩) l.length cap) := by rw [Lib.cell_of_heap hbk']; rfl
  have hSD : (Builtin.unsafeSliceData_ #[45] 88 #[.slice (some ⟨g, 0, none⟩) l.length cap]).run Tryz.prog w.drew = .ok (.pointer (some ⟨g, 0, none⟩)) w.drew :=
    Lib.run_unsafeSliceData_row _ _ _ _ _ _ (by omega)
  have hUS : (Builtin.unsafeString_ #[88, 3] 9 #[.pointer (some ⟨g, 0, none⟩), .int .i64 l.length]).run Tryz.prog w.drew = .ok (.string ⟨l.toArray⟩) (w.drew.freeze ⟨g, 0, none⟩ l.length) := by
    refine Lib.run_unsafeString_row w.drew 88 3 9 5 Tryz.underlying88 cells_byte g cur.size (by simp [World.shape?, hg']) l h0 (by omega) (by unfold maxLen at hcm; omega) ?_
    intro j x hx
    exact hown2.cells (g := g) rfl j (.int .u8 x.toNat) (by simp [Lib.byteCells, hx])
  clear hown hown2 hbk hg hbk' hg' htake
  go_enter Tryz.func18, Tryz.ntmps18
  go_wp2
  go_region
  all_goals (go_wp2; go_ret; exact ⟨rfl, Lib.below_freeze (Below.drew (Below.refl B w)) (p := ⟨g, 0, none⟩) hbg _⟩)

theorem builder_low {B b : Nat} {p : Value} {bs : List Value} {w w' : World} (h : Lib.BuilderAt TW 5 B b p bs w) (hb : Below w.heap.size w w') : Lib.BuilderAt TW 5 B b p bs w' := by
  obtain ⟨hB, v, hbk, hown, hne⟩ := h
  refine ⟨hB, v, ?_, hown.kept (row := none) ⟨hb.os, hb.tape, hb.output, hb.size, fun k hk _ => hb.block k hk⟩ (by cases v.ownBlock <;> simp), hne⟩
  rw [hb.block b (Array.getElem?_eq_some_iff.1 hbk).1]
  exact hbk
theorem isBuilder_low {B b : Nat} {bs : List Value} {w w' : World} (h : Lib.IsBuilder TW 5 B b bs w) (hb : Below w.heap.size w w') : Lib.IsBuilder TW 5 B b bs w' := by
  rcases h with h | h
  · exact Or.inl (builder_low h hb)
  · exact Or.inr (builder_low h hb)
end Go.Proofs.YteiinkhdgppgbaaGreatDoor
