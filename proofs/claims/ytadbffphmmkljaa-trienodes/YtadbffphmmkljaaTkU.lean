/- Contracts of the document's answer for tokens: Add: a token more. -/
import Derived.Test.YtadbffphmmkljaaTkT
import Derived.Lib.OwnKind
import Derived.Deep.AppendLies
namespace Go.Proofs.Ytadbffphmmkljaa
open Go.RowKit Go.Maps
set_option linter.unusedVariables false
set_option linter.unusedSimpArgs false
attribute [local go_sem ↓] Go.wp_at_zero Go.wp_at_succ

theorem copy_merges (B : Nat) {vm : Value} {mg : List (Int × Int)} {w : World} (h : w.ownsRow 0 44 2 vm mg.length (fl2 mg)) (hnl : mg = [] → vm = .slice none 0 0) (hl : mg.length ≤ 1000) (hB : B ≤ w.heap.size) :
    ∃ rv w', (Builtin.append_ #[25, 25] 25 #[.slice none 0 0, vm]).run Try.prog w = .ok rv w' ∧ w'.ownsRow B 44 2 rv mg.length (fl2 mg) ∧ Below w.heap.size w w' ∧ (∀ k, rv.ownBlock = some k → w.heap.size ≤ k) := by
  obtain ⟨i0, hi, hz0, hz1, hz2⟩ := info_parts info_merge
  by_cases he : mg = []
  · rw [hnl he]
    subst he
    exact ⟨_, w, run_append_owned_none w B 25 25 44 i0 2 Try.underlying25 hi (.slice none 0 0) 0 [] (World.ownsRow_nil _ _ _ _), World.ownsRow_nil _ _ _ _, Below.refl _ _, fun k e => by cases e⟩
  · have hp : 0 < mg.length := by cases mg with
      | nil => exact absurd rfl he
      | cons a r => simp
    obtain ⟨g, cap, rfl, _, hg⟩ := h.form hp
    obtain ⟨rv, w', hrun, hown, hgr, _, hat⟩ := run_append_own_at (P := Try.prog) w B 25 25 44 i0 _ 2 16 Try.underlying25 hi hz0 hz1 hz2 rfl (by omega) (.slice none 0 0) 0 [] (World.ownsRow_nil _ _ _ _) ⟨g, 0, none⟩ mg.length cap (fl2 mg) (fl2_len mg) (h.cells rfl) (fl2_one _) (by unfold maxLen; omega) (by omega) (by omega)
    simp only [Nat.zero_add, List.nil_append] at hown
    refine ⟨rv, w', hrun, hown, ⟨hgr.os, hgr.tape, hgr.output, hgr.size, fun k hk => hgr.block k hk (by simp [Value.ownBlock])⟩, fun k e => ?_⟩
    rcases hat with h1 | h1
    · rw [h1] at e; cases e
    · rw [h1] at e; have := Option.some.inj e; omega

theorem copy_texts (B : Nat) {vb : Value} {tx : List ByteArray} {w : World} (h : w.ownsRow 0 9 1 vb tx.length (tx.map Value.string)) (hp : 0 < tx.length) (hl : tx.length ≤ 1000) (hB : B ≤ w.heap.size) :
    ∃ g cap w', (Builtin.append_ #[24, 24] 24 #[.slice none 0 0, vb]).run Try.prog w = .ok (.slice (some ⟨g, 0, none⟩) tx.length cap) w' ∧ w'.ownsRow B 9 1 (.slice (some ⟨g, 0, none⟩) tx.length cap) tx.length (tx.map Value.string) ∧ Below w.heap.size w w' ∧ w.heap.size ≤ g := by
  obtain ⟨i0, hi, hz0, hz1, hz2⟩ := info_parts info_string
  obtain ⟨g, cap, rfl, _, hg⟩ := h.form hp
  have h1 : ∀ u ∈ tx.map Value.string, u.oneCell' = true := by
    intro u hu
    obtain ⟨t, _, rfl⟩ := List.mem_map.1 hu
    rfl
  obtain ⟨rv, w', hrun, hown, hgr, _, hat⟩ := run_append_own_at (P := Try.prog) w B 24 24 9 i0 _ 1 16 Try.underlying24 hi hz0 hz1 hz2 rfl (by omega) (.slice none 0 0) 0 [] (World.ownsRow_nil _ _ _ _) ⟨g, 0, none⟩ tx.length cap (tx.map Value.string) (by simp) (h.cells rfl) h1 (by unfold maxLen; omega) (by omega) (by omega)
  simp only [Nat.zero_add, List.nil_append] at hown
  obtain ⟨g2, cap2, rfl, _, _⟩ := hown.form hp
  refine ⟨g2, cap2, w', hrun, hown, ⟨hgr.os, hgr.tape, hgr.output, hgr.size, fun k hk => hgr.block k hk (by simp [Value.ownBlock])⟩, ?_⟩
  rcases hat with h1 | h1
  · cases h1
  · have h2 : g2 = w.heap.size := Option.some.inj h1
    omega

/-- What stays through the region that makes the answer: the boxes, and all that the caller has. -/
structure Kx (w : World) (vb vm : Value) (m : Int × Int) (W : World) : Prop where
  bx : Bx w.heap.size vb vm m W
  be : Below w.heap.size w W
theorem Kx.kept {w W W' : World} {vb vm : Value} {m : Int × Int} (h : Kx w vb vm m W) (hb : Below W.heap.size W W') : Kx w vb vm m W' := ⟨h.bx.kept hb, h.be.trans (hb.mono h.be.size)⟩
theorem Kx.alloc {w W : World} {vb vm : Value} {m : Int × Int} (h : Kx w vb vm m W) (o : Obj) : Kx w vb vm m (W.alloc o) := h.kept ((Below.refl _ _).alloc (Nat.le_refl _) _)
theorem Kx.drew {w W : World} {vb vm : Value} {m : Int × Int} (h : Kx w vb vm m W) : Kx w vb vm m W.drew := h.kept (Below.drew (Below.refl _ _))
theorem Kx.lt {w W : World} {vb vm : Value} {m : Int × Int} (h : Kx w vb vm m W) : w.heap.size + 1 + 1 + 1 ≤ W.heap.size := h.bx.lt
theorem Kx.grown {w W W' : World} {vb vm : Value} {m : Int × Int} {row : Option Nat} (h : Kx w vb vm m W) (hr : ∀ k, row = some k → w.heap.size + 1 + 1 + 1 ≤ k) (hg : W.grownBy W' row) : Kx w vb vm m W' := by
  have hlt := h.bx.lt
  have hk : ∀ k, k < w.heap.size + 1 + 1 + 1 → W'.heap[k]? = W.heap[k]? := fun k hk => hg.block k (by omega) (fun e => by have := hr k e.symm; omega)
  have hz := hg.size
  have hz2 := h.be.size
  exact ⟨⟨(hk _ (by omega)).trans h.bx.b0, (hk _ (by omega)).trans h.bx.b1, (hk _ (by omega)).trans h.bx.b2⟩, ⟨hg.os.trans h.be.os, hg.tape.trans h.be.tape, hg.output.trans h.be.output, by omega, fun k hk2 => (hk k (by omega)).trans (h.be.block k hk2)⟩⟩

theorem row_past {B B' : Nat} {e1 e2 : TypeId} {s1 s2 n n' : Nat} {v v' : Value} {xs xs' : List Value} {W W' : World} (hT : W.ownsRow B e1 s1 v n xs) (hM : W.ownsRow B' e2 s2 v' n' xs') (hne : e1 ≠ e2) (hg : W.grownBy W' v'.ownBlock) : W'.ownsRow B e1 s1 v n xs := by
  refine hT.kept hg ?_
  cases hv : v.ownBlock with
  | none => exact Or.inl rfl
  | some g =>
    refine Or.inr fun e => ?_
    obtain ⟨c, f, h1⟩ := Lib.ownsRow_kind hT g hv
    obtain ⟨c', f', h2⟩ := Lib.ownsRow_kind hM g e.symm
    rw [h1] at h2
    simp only [Option.some.injEq, Obj.cells.injEq] at h2
    exact hne h2.2.1

theorem at_new {w : World} {c : Obj} {k : Nat} (h : k = w.heap.size) : (w.alloc c).heap[k]? = some c := by subst h; exact heap_alloc_new w c
theorem at_old {w : World} {c : Obj} {x : Obj} {k : Nat} (hk : k < w.heap.size) (h : w.heap[k]? = some x) : (w.alloc c).heap[k]? = some x := (Below.heap_alloc _ _ _ hk).trans h
theorem at_drew {w : World} {x : Obj} {k : Nat} (h : w.heap[k]? = some x) : w.drew.heap[k]? = some x := h
theorem at_grown {w w' : World} {row : Option Nat} {x : Obj} {k : Nat} (hg : w.grownBy w' row) (hk : k < w.heap.size) (hne : some k ≠ row) (h : w.heap[k]? = some x) : w'.heap[k]? = some x := (hg.block k hk hne).trans h

/-- A new block is not the row's. -/
theorem row_ne_new {B : Nat} {e : TypeId} {sz n : Nat} {v : Value} {xs : List Value} {W : World} (h : W.ownsRow B e sz v n xs) {k : Nat} (hk : W.heap.size ≤ k) : some k ≠ v.ownBlock := fun e => by have := (h.lt k e.symm).2; omega

theorem radd_end {w W : World} {vb vm : Value} {m : Int × Int} {tx : List ByteArray} {mg : List (Int × Int)} {s : ByteArray} {g2 cap2 g3 cap3 : Nat} (hT : W.ownsRow (w.heap.size + 1 + 1 + 1) 9 1 (.slice (some ⟨g2, 0, none⟩) (tx.length + 1) cap2) (tx.length + 1) (tx.map Value.string ++ [Value.string s]))
    (hM : W.ownsRow (w.heap.size + 1 + 1 + 1) 44 2 (.slice (some ⟨g3, 0, none⟩) (mg.length + 1) cap3) (mg.length + 1) (fl2 mg ++ fl2 [m])) (hK : Kx w vb vm m W) :
    (RT (.slice (some ⟨g2, 0, none⟩) (tx.length + 1) cap2) (.slice (some ⟨g3, 0, none⟩) (mg.length + 1) cap3) (tx ++ [s]) (mg ++ [m]) ((W.setCell ⟨w.heap.size + 1 + 1, 0, none⟩ (.slice (some ⟨g2, 0, none⟩) (tx.length + 1) cap2)).setCell ⟨w.heap.size + 1 + 1, 1, none⟩ (.slice (some ⟨g3, 0, none⟩) (mg.length + 1) cap3))
      ∧ (∀ k, (Value.slice (some ⟨g2, 0, none⟩) (tx.length + 1) cap2).ownBlock = some k → w.heap.size ≤ k) ∧ (∀ k, (Value.slice (some ⟨g3, 0, none⟩) (mg.length + 1) cap3).ownBlock = some k → w.heap.size ≤ k))
      ∧ Below w.heap.size w ((W.setCell ⟨w.heap.size + 1 + 1, 0, none⟩ (.slice (some ⟨g2, 0, none⟩) (tx.length + 1) cap2)).setCell ⟨w.heap.size + 1 + 1, 1, none⟩ (.slice (some ⟨g3, 0, none⟩) (mg.length + 1) cap3)) := by
  refine ⟨⟨⟨?_, ?_, fun e => by simp at e⟩, fun k e => by have := (hT.lt k e).1; omega, fun k e => by have := (hM.lt k e).1; omega⟩, (hK.be.setCell (by simp; omega) _).setCell (by simp; omega) _⟩
  · have h1 := ownsRow_setCell_below (ownsRow_setCell_below hT (a := ⟨w.heap.size + 1 + 1, 0, none⟩) (by simp) (.slice (some ⟨g2, 0, none⟩) (tx.length + 1) cap2)) (a := ⟨w.heap.size + 1 + 1, 1, none⟩) (by simp) (.slice (some ⟨g3, 0, none⟩) (mg.length + 1) cap3)
    have h2 := World.ownsRow.mono h1 (Nat.zero_le _)
    simpa using h2
  · have h1 := ownsRow_setCell_below (ownsRow_setCell_below hM (a := ⟨w.heap.size + 1 + 1, 0, none⟩) (by simp) (.slice (some ⟨g2, 0, none⟩) (tx.length + 1) cap2)) (a := ⟨w.heap.size + 1 + 1, 1, none⟩) (by simp) (.slice (some ⟨g3, 0, none⟩) (mg.length + 1) cap3)
    have h2 := World.ownsRow.mono h1 (Nat.zero_le _)
    rw [← fl2_append] at h2
    simpa using h2


section
variable {vb vm : Value} {tx : List ByteArray} {mg : List (Int × Int)} {w : World}

set_option maxRecDepth 20000 in
set_option maxHeartbeats 8000000 in
theorem radd_ok (h : RT vb vm tx mg w) (i j : Nat) (hi : i < tx.length) (hj : j < tx.length) (hzi : (gs tx i).size ≤ 64) (hzj : (gs tx j).size ≤ 64) (s : ByteArray) (hs : gs tx i ++ gs tx j = s) (hl : s.size ≤ 64) (hml : mg.length ≤ 1000) (hf : tx.length < 1000) (hm : s ∉ tx) :
    Calls Try.prog 21 #[.agg #[vb, vm], .agg #[.int .i64 i, .int .i64 j]] w fun e w' => (∃ vb' vm', e = .returned (rtR vb' vm' 0) ∧ RT vb' vm' (tx ++ [s]) (mg ++ [((i : Int), (j : Int))]) w' ∧ (∀ k, vb'.ownBlock = some k → w.heap.size ≤ k) ∧ (∀ k, vm'.ownBlock = some k → w.heap.size ≤ k)) ∧ Below w.heap.size w w' := by
  obtain ⟨ao, cap, hvb⟩ := row_form h.rb
  obtain ⟨am, capm, hvm⟩ := row_form h.rm
  obtain ⟨hX, hB0⟩ := bx_begin w vb vm ((i : Int), (j : Int))
  have h0 := h.kept hB0
  subst hvb hvm
  have hd : decide (0 ≤ (i : Int) ∧ (i : Int) < (tx.length : Int)) = true := by simp; omega
  have hd2 : decide (0 ≤ (j : Int) ∧ (j : Int) < (tx.length : Int)) = true := by simp; omega
  have HH := hide (rhas_any h0 (i : Int))
  rw [hd] at HH
  clear hd
  have hi0 : (0 : Int) ≤ (i : Int) := by omega
  have hi1 : (i : Int) < (tx.length : Int) := by omega
  have hj0 : (0 : Int) ≤ (j : Int) := by omega
  have hj1 : (j : Int) < (tx.length : Int) := by omega
  have hl2 : ¬ (64 : Int) < (s.size : Int) := by omega
  have hf2 : ¬ (1000 : Int) ≤ (tx.length : Int) := by omega
  go_enter Try.func21, Try.ntmps21
  go_wp2_with fail
  refine (unhide HH).mono ?_
  rintro e w1 ⟨rfl, hb1⟩
  have hX1 := hX.kept hb1
  obtain ⟨c0, c1, c2, c3, c4, c5, cf⟩ := hX1.cells
  have hB1 := hB0.trans (hb1.mono hB0.size)
  have h1 := h0.kept hb1
  have HH2 := hide (rhas_any h1 (j : Int))
  rw [hd2] at HH2
  clear hb1 hd2
  go_wp2_with fail
  refine (unhide HH2).mono ?_
  rintro e w2 ⟨rfl, hb2⟩
  clear c0 c1 c2 c3 c4 c5 cf
  have hX2 := hX1.kept hb2
  obtain ⟨c0, c1, c2, c3, c4, c5, cf⟩ := hX2.cells
  have hB2 := hB1.trans (hb2.mono hB1.size)
  have h2 := h1.kept hb2
  obtain ⟨g, cap', hv, hgl, ti⟩ := h2.text hi
  simp only [Value.slice.injEq] at hv
  obtain ⟨rfl, _, rfl⟩ := hv
  obtain ⟨g', cap', hv, _, tj⟩ := h2.text hj
  simp only [Value.slice.injEq, Option.some.injEq, Addr.mk.injEq, and_true] at hv
  obtain ⟨rfl, _, rfl⟩ := hv
  clear hb2
  go_wp2
  go_region
  go_wp2_with fail
  refine (rfind_any h2.drew s (by omega)).mono ?_
  rintro e w3 ⟨⟨r, rfl, hr⟩, hb3⟩
  have hX3 := (hX2.kept (Below.drew (Below.refl _ _))).kept hb3
  clear c0 c1 c2 c3 c4 c5 cf
  obtain ⟨c0, c1, c2, c3, c4, c5, cf⟩ := hX3.cells
  have hB3 := hB2.drew.trans (hb3.mono hB2.size)
  have h3 := h2.drew.kept hb3
  have hr0 : r = -1 := by
    rcases hr with ⟨h1, _⟩ | ⟨k, _, hk, he⟩
    · exact h1
    · exact absurd (gs_mem.2 ⟨k, hk, he⟩) hm
  subst hr0
  obtain ⟨g1, cap1, w4, hrun1, hrow1, hb4, hg1⟩ := copy_texts (w.heap.size + 1 + 1 + 1) h3.rb (by omega) (by omega) hX3.lt
  have h4 := h3.kept hb4
  obtain ⟨rv, w5, hrun2, hrow2, hb5, hn5⟩ := copy_merges (w.heap.size + 1 + 1 + 1) h4.rm h4.nl hml (hX3.kept hb4).lt
  have hX5 := (hX3.kept hb4).kept hb5
  have hX4 := hX3.kept hb4
  have hB5 := (hB3.trans (hb4.mono hB3.size)).trans (hb5.mono (hB3.trans (hb4.mono hB3.size)).size)
  have hrow15 := row_keptB hrow1 hb5
  have hz34 := hb4.size
  have hz45 := hb5.size
  have hz3 := hB3.size
  have HR1 := hide hrun1
  have HR2 := hide hrun2
  clear c0 c1 c2 c3 c4 c5 cf hrun1 hrun2 hb3 hb4 hb5
  obtain ⟨c0, c1, c2, c3, c4, c5, cf⟩ := hX3.cells
  obtain ⟨p0, p1, p2, p3, p4, p5, pf⟩ := hX4.cells
  obtain ⟨d0, d1, d2, d3, d4, d5, df⟩ := hX5.cells
  go_wp2_with (at_builtin; first | (refine Lib.wpList_append_run _ rfl _ _ _ _ rfl _ _ rfl rfl _ _ HR1.out ?_; clear HR1) | (refine Lib.wpList_append_run _ rfl _ _ _ _ rfl _ _ rfl rfl _ _ HR2.out ?_; clear HR2))
  have HK := hide (Kx.mk hX5 hB5)
  have hgB : ∀ k, (Value.slice (some ⟨g1, 0, none⟩) tx.length cap1).ownBlock = some k → w.heap.size + 1 + 1 + 1 ≤ k := fun k e => (hrow15.lt k e).1
  have hrB : ∀ k, rv.ownBlock = some k → w.heap.size + 1 + 1 + 1 ≤ k := fun k e => (hrow2.lt k e).1
  obtain ⟨is0, his, hss0, hss1, hss2⟩ := info_parts info_string
  obtain ⟨im0, him, hms0, hms1, hms2⟩ := info_parts info_merge
  have hone1 : ∀ u ∈ [Value.string s], u.oneCell' = true := by
    intro u hu
    simp only [List.mem_singleton] at hu
    subst hu
    rfl
  have hlt5 := HK.out.lt
  have hA0 : ∀ o, (w5.alloc o).cell? ⟨w.heap.size + 1, 0, none⟩ = some (.int .i64 (i : Int)) := fun o => (HK.out.alloc o).bx.cells.2.2.1
  have hA1 : ∀ o, (w5.alloc o).cell? ⟨w.heap.size + 1, 1, none⟩ = some (.int .i64 (j : Int)) := fun o => (HK.out.alloc o).bx.cells.2.2.2.1
  have hA2 : ∀ o o', ((w5.alloc o).alloc o').cell? ⟨w.heap.size + 1, 0, none⟩ = some (.int .i64 (i : Int)) := fun o o' => ((HK.out.alloc o).alloc o').bx.cells.2.2.1
  have hA3 : ∀ o o', ((w5.alloc o).alloc o').cell? ⟨w.heap.size + 1, 1, none⟩ = some (.int .i64 (j : Int)) := fun o o' => ((HK.out.alloc o).alloc o').bx.cells.2.2.2.1
  have hrowT : ∀ {W : World}, W.ownsRow (w.heap.size + 1 + 1 + 1) 9 1 (.slice (some ⟨g1, 0, none⟩) tx.length cap1) tx.length (tx.map Value.string) → W.ownsRow (w.heap.size + 1 + 1 + 1) 9 1 (.slice (some ⟨g1, 0, none⟩) tx.length cap1) tx.length (tx.map Value.string) := fun h => h
  have hrowM : ∀ {W : World}, W.ownsRow (w.heap.size + 1 + 1 + 1) 44 2 rv mg.length (fl2 mg) → W.ownsRow (w.heap.size + 1 + 1 + 1) 44 2 rv mg.length (fl2 mg) := fun h => h
  clear c0 c1 c2 c3 c4 c5 cf p0 p1 p2 p3 p4 p5 pf hX hX1 hX2 hX3 hX4 hX5 hB0 hB1 hB2 hB3 hB5 h h0 h1 h2 h3 h4 hr ti tj hrow1 hn5
  go_region_law (first
    | (refine step_append_lies _ (by rfl) _ _ _ (by rfl) (w.heap.size + 1 + 1 + 1) 9 is0 _ 1 16 Try.underlying24 his hss0 hss1 hss2 (by rfl) (by omega) _ tx.length (tx.map Value.string) (by rfl) (by repeat' (first | assumption | with_reducible refine World.ownsRow.alloc ?_ _ | with_reducible refine World.ownsRow.drew ?_)) _ 1 _ [Value.string s] (by rfl) (by rfl) (by refine World.news_of_block (fr := (0, 0)) (t := 9) (cs := #[Value.string s]) ?_; repeat' (first | assumption | with_reducible refine at_drew ?_ | with_reducible refine at_new (by simp) | with_reducible refine at_old (by simp; omega) ?_ | with_reducible refine at_old (by simp) ?_ | with_reducible refine at_grown hgT (by first | (simp; done) | (simp; omega)) (row_ne_new hrow15 (by omega)) ?_ | with_reducible refine at_grown hgM (by first | (simp; done) | (simp; omega)) (row_ne_new hrow2 (by omega)) ?_)) hone1 (by omega) (by unfold maxLen; omega) (by omega) (by first | omega | (simp; omega)) _ rfl ?_; intro g2 cap2 w6 hownT hgT hatT hltT; have K6 : Hid (Kx w (.slice (some ⟨g, 0, none⟩) tx.length cap) (.slice am mg.length capm) ((i : Int), (j : Int)) w6) := hide (Kx.grown (by repeat' (first | exact HK.out | exact K6.out | exact K7.out | with_reducible refine Kx.alloc ?_ _ | with_reducible refine Kx.drew ?_)) hgB hgT); have hl6 := K6.out.lt; have hA60 : ∀ o, (w6.alloc o).cell? ⟨w.heap.size + 1, 0, none⟩ = some (.int .i64 (i : Int)) := fun o => (K6.out.alloc o).bx.cells.2.2.1; have hA61 : ∀ o, (w6.alloc o).cell? ⟨w.heap.size + 1, 1, none⟩ = some (.int .i64 (j : Int)) := fun o => (K6.out.alloc o).bx.cells.2.2.2.1; obtain ⟨q0, q1, q2, q3, q4, q5, qf⟩ := K6.out.bx.cells; first | have hM6 : w6.ownsRow (w.heap.size + 1 + 1 + 1) 44 2 (.slice (some ⟨g3, 0, none⟩) (mg.length + 1) cap3) (mg.length + 1) (fl2 mg ++ fl2 [((i : Int), (j : Int))]) := row_past (by repeat' (first | assumption | with_reducible refine World.ownsRow.alloc ?_ _ | with_reducible refine World.ownsRow.drew ?_)) (hrowT (by repeat' (first | assumption | with_reducible refine World.ownsRow.alloc ?_ _ | with_reducible refine World.ownsRow.drew ?_))) (by decide) hgT | have hM6 : w6.ownsRow (w.heap.size + 1 + 1 + 1) 44 2 rv mg.length (fl2 mg) := row_past (by repeat' (first | assumption | with_reducible refine World.ownsRow.alloc ?_ _ | with_reducible refine World.ownsRow.drew ?_)) (hrowT (by repeat' (first | assumption | with_reducible refine World.ownsRow.alloc ?_ _ | with_reducible refine World.ownsRow.drew ?_))) (by decide) hgT)
    | (refine step_append_lies _ (by rfl) _ _ _ (by rfl) (w.heap.size + 1 + 1 + 1) 44 im0 _ 2 16 Try.underlying25 him hms0 hms1 hms2 (by rfl) (by omega) _ mg.length (fl2 mg) (by rfl) (by repeat' (first | assumption | with_reducible refine World.ownsRow.alloc ?_ _ | with_reducible refine World.ownsRow.drew ?_)) _ 1 _ (fl2 [((i : Int), (j : Int))]) (by rfl) (by rfl) (by refine World.news_of_block (fr := (0, 0)) (t := 44) (cs := #[Value.int .i64 i, Value.int .i64 j]) ?_; repeat' (first | assumption | with_reducible refine at_drew ?_ | with_reducible refine at_new (by simp) | with_reducible refine at_old (by simp; omega) ?_ | with_reducible refine at_old (by simp) ?_ | with_reducible refine at_grown hgT (by first | (simp; done) | (simp; omega)) (row_ne_new hrow15 (by omega)) ?_ | with_reducible refine at_grown hgM (by first | (simp; done) | (simp; omega)) (row_ne_new hrow2 (by omega)) ?_)) (fl2_one _) (by omega) (by unfold maxLen; omega) (by omega) (by first | omega | (simp; omega)) _ rfl ?_; intro g3 cap3 w7 hownM hgM hatM hltM; have K7 : Hid (Kx w (.slice (some ⟨g, 0, none⟩) tx.length cap) (.slice am mg.length capm) ((i : Int), (j : Int)) w7) := hide (Kx.grown (by repeat' (first | exact HK.out | exact K6.out | exact K7.out | with_reducible refine Kx.alloc ?_ _ | with_reducible refine Kx.drew ?_)) hrB hgM); have hl7 := K7.out.lt; have hA70 : ∀ o, (w7.alloc o).cell? ⟨w.heap.size + 1, 0, none⟩ = some (.int .i64 (i : Int)) := fun o => (K7.out.alloc o).bx.cells.2.2.1; have hA71 : ∀ o, (w7.alloc o).cell? ⟨w.heap.size + 1, 1, none⟩ = some (.int .i64 (j : Int)) := fun o => (K7.out.alloc o).bx.cells.2.2.2.1; obtain ⟨q0, q1, q2, q3, q4, q5, qf⟩ := K7.out.bx.cells; first | have hT7 : w7.ownsRow (w.heap.size + 1 + 1 + 1) 9 1 (.slice (some ⟨g2, 0, none⟩) (tx.length + 1) cap2) (tx.length + 1) (tx.map Value.string ++ [Value.string s]) := row_past (by repeat' (first | assumption | with_reducible refine World.ownsRow.alloc ?_ _ | with_reducible refine World.ownsRow.drew ?_)) (hrowM (by repeat' (first | assumption | with_reducible refine World.ownsRow.alloc ?_ _ | with_reducible refine World.ownsRow.drew ?_))) (by decide) hgM | have hT7 : w7.ownsRow (w.heap.size + 1 + 1 + 1) 9 1 (.slice (some ⟨g1, 0, none⟩) tx.length cap1) tx.length (tx.map Value.string) := row_past (by repeat' (first | assumption | with_reducible refine World.ownsRow.alloc ?_ _ | with_reducible refine World.ownsRow.drew ?_)) (hrowM (by repeat' (first | assumption | with_reducible refine World.ownsRow.alloc ?_ _ | with_reducible refine World.ownsRow.drew ?_))) (by decide) hgM))
  all_goals
    first
    | have HE := hide (radd_end hT7 hownM K7.out)
    | have HE := hide (radd_end hownT hM6 K6.out)
    clear hownM hownT hgM hgT hatM hatT
    go_wp2
    (try simp only [Exit.inBlock, Exit.then])
    refine bodyPost_ret (v := rtR (.slice (some ⟨g2, 0, none⟩) (tx.length + 1) cap2) (.slice (some ⟨g3, 0, none⟩) (mg.length + 1) cap3) 0) (by simp [rtR, results, Try.results21, go_sem, q4, q5, qf]) rfl ?_
    first
    | exact ⟨⟨_, _, rfl, HE.out.1⟩, HE.out.2⟩
    | exact ⟨⟨_, _, rfl, HE.out.1.1.drew, HE.out.1.2⟩, HE.out.2.drew⟩
end

end Go.Proofs.Ytadbffphmmkljaa
