/- Contracts of the document's answer for tokens: Add: a token more. Contracts of the document's answer for tokens: Add, whatever comes, and New. Contracts of the document's answer for tokens: Pair. Contracts of the document's answer for tokens: New. -/
import Derived.Test.YtdpmjaelbjjanaaGreatZQa22
import Derived.Lib.OwnKind
import Derived.Deep.AppendLies
namespace Go.Proofs.YtdpmjaelbjjanaaGreat
open Go.RowKit Go.Maps
set_option linter.unusedVariables false
set_option linter.unusedSimpArgs false
attribute [local go_sem ↓] Go.wp_at_zero Go.wp_at_succ

theorem copy_merges (B : Nat) {vm : Value} {mg : List (Int × Int)} {w : World} (h : w.ownsRow 0 77 2 vm mg.length (fl2 mg)) (hnl : mg = [] → vm = .slice none 0 0) (hl : mg.length ≤ 1000) (hB : B ≤ w.heap.size) :
    ∃ rv w', (Builtin.append_ #[32, 32] 32 #[.slice none 0 0, vm]).run Tryz.prog w = .ok rv w' ∧ w'.ownsRow B 77 2 rv mg.length (fl2 mg) ∧ Below w.heap.size w w' ∧ (∀ k, rv.ownBlock = some k → w.heap.size ≤ k) := by
  obtain ⟨i0, hi, hz0, hz1, hz2⟩ := info_parts info_merge
  by_cases he : mg = []
  · rw [hnl he]
    subst he
    exact ⟨_, w, run_append_owned_none w B 32 32 77 i0 2 Tryz.underlying32 hi (.slice none 0 0) 0 [] (World.ownsRow_nil _ _ _ _), World.ownsRow_nil _ _ _ _, Below.refl _ _, fun k e => by cases e⟩
  · have hp : 0 < mg.length := by cases mg with
      | nil => exact absurd rfl he
      | cons a r => simp
    obtain ⟨g, cap, rfl, _, hg⟩ := h.form hp
    obtain ⟨rv, w', hrun, hown, hgr, _, hat⟩ := run_append_own_at (P := Tryz.prog) w B 32 32 77 i0 _ 2 16 Tryz.underlying32 hi hz0 hz1 hz2 rfl (by omega) (.slice none 0 0) 0 [] (World.ownsRow_nil _ _ _ _) ⟨g, 0, none⟩ mg.length cap (fl2 mg) (fl2_len mg) (h.cells rfl) (fl2_one _) (by unfold maxLen; omega) (by omega) (by omega)
    simp only [Nat.zero_add, List.nil_append] at hown
    refine ⟨rv, w', hrun, hown, ⟨hgr.os, hgr.tape, hgr.output, hgr.size, fun k hk => hgr.block k hk (by simp [Value.ownBlock])⟩, fun k e => ?_⟩
    rcases hat with h1 | h1
    · rw [h1] at e; cases e
    · rw [h1] at e; have := Option.some.inj e; omega

theorem copy_texts (B : Nat) {vb : Value} {tx : List ByteArray} {w : World} (h : w.ownsRow 0 9 1 vb tx.length (tx.map Value.string)) (hp : 0 < tx.length) (hl : tx.length ≤ 1000) (hB : B ≤ w.heap.size) :
    ∃ g cap w', (Builtin.append_ #[31, 31] 31 #[.slice none 0 0, vb]).run Tryz.prog w = .ok (.slice (some ⟨g, 0, none⟩) tx.length cap) w' ∧ w'.ownsRow B 9 1 (.slice (some ⟨g, 0, none⟩) tx.length cap) tx.length (tx.map Value.string) ∧ Below w.heap.size w w' ∧ w.heap.size ≤ g := by
  obtain ⟨i0, hi, hz0, hz1, hz2⟩ := info_parts info_string
  obtain ⟨g, cap, rfl, _, hg⟩ := h.form hp
  have h1 : ∀ u ∈ tx.map Value.string, u.oneCell' = true := by
    intro u hu
    obtain ⟨t, _, rfl⟩ := List.mem_map.1 hu
    rfl
  obtain ⟨rv, w', hrun, hown, hgr, _, hat⟩ := run_append_own_at (P := Tryz.prog) w B 31 31 9 i0 _ 1 16 Tryz.underlying31 hi hz0 hz1 hz2 rfl (by omega) (.slice none 0 0) 0 [] (World.ownsRow_nil _ _ _ _) ⟨g, 0, none⟩ tx.length cap (tx.map Value.string) (by simp) (h.cells rfl) h1 (by unfold maxLen; omega) (by omega) (by omega)
  simp only [Nat.zero_add, List.nil_append] at hown
  obtain ⟨g2, cap2, rfl, _, _⟩ := hown.form hp
  refine ⟨g2, cap2, w', hrun, hown, ⟨hgr.os, hgr.tape, hgr.output, hgr.size, fun k hk => hgr.block k hk (by simp [Value.ownBlock])⟩, ?_⟩
  rcases hat with h1 | h1
  · cases h1
  · have h2 : g2 = w.heap.size := Option.some.inj h1
    omega

/-- What stays through the region that makes the answer: the boxes, and all that the caller has. -/
structure Kx (w : World) (vb vm : Value) (m : Int × Int) (W : World) : Prop where
  bx : Bx w.heap.size vb vm m W
  be : Below w.heap.size w W
theorem Kx.kept {w W W' : World} {vb vm : Value} {m : Int × Int} (h : Kx w vb vm m W) (hb : Below W.heap.size W W') : Kx w vb vm m W' := ⟨h.bx.kept hb, h.be.trans (hb.mono h.be.size)⟩
theorem Kx.alloc {w W : World} {vb vm : Value} {m : Int × Int} (h : Kx w vb vm m W) (o : Obj) : Kx w vb vm m (W.alloc o) := h.kept ((Below.refl _ _).alloc (Nat.le_refl _) _)
theorem Kx.drew {w W : World} {vb vm : Value} {m : Int × Int} (h : Kx w vb vm m W) : Kx w vb vm m W.drew := h.kept (Below.drew (Below.refl _ _))
theorem Kx.lt {w W : World} {vb vm : Value} {m : Int × Int} (h : Kx w vb vm m W) : w.heap.size + 1 + 1 + 1 ≤ W.heap.size := h.bx.lt
theorem Kx.grown {w W W' : World} {vb vm : Value} {m : Int × Int} {row : Option Nat} (h : Kx w vb vm m W) (hr : ∀ k, row = some k → w.heap.size + 1 + 1 + 1 ≤ k) (hg : W.grownBy W' row) : Kx w vb vm m W' := by
  have hlt := h.bx.lt
  have hk : ∀ k, k < w.heap.size + 1 + 1 + 1 → W'.heap[k]? = W.heap[k]? := fun k hk => hg.block k (by omega) (fun e => by have := hr k e.symm; omega)
  have hz := hg.size
  have hz2 := h.be.size
  exact ⟨⟨(hk _ (by omega)).trans h.bx.b0, (hk _ (by omega)).trans h.bx.b1, (hk _ (by omega)).trans h.bx.b2⟩, ⟨hg.os.trans h.be.os, hg.tape.trans h.be.tape, hg.output.trans h.be.output, by omega, fun k hk2 => (hk k (by omega)).trans (h.be.block k hk2)⟩⟩

theorem row_past {B B' : Nat} {e1 e2 : TypeId} {s1 s2 n n' : Nat} {v v' : Value} {xs xs' : List Value} {W W' : World} (hT : W.ownsRow B e1 s1 v n xs) (hM : W.ownsRow B' e2 s2 v' n' xs') (hne : e1 ≠ e2) (hg : W.grownBy W' v'.ownBlock) : W'.ownsRow B e1 s1 v n xs := by
  refine hT.kept hg ?_
  cases hv : v.ownBlock with
  | none => exact Or.inl rfl
  | some g =>
    refine Or.inr fun e => ?_
    obtain ⟨c, f, h1⟩ := Lib.ownsRow_kind hT g hv
    obtain ⟨c', f', h2⟩ := Lib.ownsRow_kind hM g e.symm
    rw [h1] at h2
    simp only [Option.some.injEq, Obj.cells.injEq] at h2
    exact hne h2.2.1

theorem at_new {w : World} {c : Obj} {k : Nat} (h : k = w.heap.size) : (w.alloc c).heap[k]? = some c := by subst h; exact heap_alloc_new w c
theorem at_old {w : World} {c : Obj} {x : Obj} {k : Nat} (hk : k < w.heap.size) (h : w.heap[k]? = some x) : (w.alloc c).heap[k]? = some x := (Below.heap_alloc _ _ _ hk).trans h
theorem at_drew {w : World} {x : Obj} {k : Nat} (h : w.heap[k]? = some x) : w.drew.heap[k]? = some x := h
theorem at_grown {w w' : World} {row : Option Nat} {x : Obj} {k : Nat} (hg : w.grownBy w' row) (hk : k < w.heap.size) (hne : some k ≠ row) (h : w.heap[k]? = some x) : w'.heap[k]? = some x := (hg.block k hk hne).trans h

/-- A new block is not the row's. -/
theorem row_ne_new {B : Nat} {e : TypeId} {sz n : Nat} {v : Value} {xs : List Value} {W : World} (h : W.ownsRow B e sz v n xs) {k : Nat} (hk : W.heap.size ≤ k) : some k ≠ v.ownBlock := fun e => by have := (h.lt k e.symm).2; omega

theorem radd_end {w W : World} {vb vm : Value} {m : Int × Int} {tx : List ByteArray} {mg : List (Int × Int)} {s : ByteArray} {g2 cap2 g3 cap3 : Nat} (hT : W.ownsRow (w.heap.size + 1 + 1 + 1) 9 1 (.slice (some ⟨g2, 0, none⟩) (tx.length + 1) cap2) (tx.length + 1) (tx.map Value.string ++ [Value.string s]))
    (hM : W.ownsRow (w.heap.size + 1 + 1 + 1) 77 2 (.slice (some ⟨g3, 0, none⟩) (mg.length + 1) cap3) (mg.length + 1) (fl2 mg ++ fl2 [m])) (hK : Kx w vb vm m W) :
    (RT (.slice (some ⟨g2, 0, none⟩) (tx.length + 1) cap2) (.slice (some ⟨g3, 0, none⟩) (mg.length + 1) cap3) (tx ++ [s]) (mg ++ [m]) ((W.setCell ⟨w.heap.size + 1 + 1, 0, none⟩ (.slice (some ⟨g2, 0, none⟩) (tx.length + 1) cap2)).setCell ⟨w.heap.size + 1 + 1, 1, none⟩ (.slice (some ⟨g3, 0, none⟩) (mg.length + 1) cap3))
      ∧ (∀ k, (Value.slice (some ⟨g2, 0, none⟩) (tx.length + 1) cap2).ownBlock = some k → w.heap.size ≤ k) ∧ (∀ k, (Value.slice (some ⟨g3, 0, none⟩) (mg.length + 1) cap3).ownBlock = some k → w.heap.size ≤ k))
      ∧ Below w.heap.size w ((W.setCell ⟨w.heap.size + 1 + 1, 0, none⟩ (.slice (some ⟨g2, 0, none⟩) (tx.length + 1) cap2)).setCell ⟨w.heap.size + 1 + 1, 1, none⟩ (.slice (some ⟨g3, 0, none⟩) (mg.length + 1) cap3)) := by
  refine ⟨⟨⟨?_, ?_, fun e => by simp at e⟩, fun k e => by have := (hT.lt k e).1; omega, fun k e => by have := (hM.lt k e).1; omega⟩, (hK.be.setCell (by simp; omega) _).setCell (by simp; omega) _⟩
  · have h1 := ownsRow_setCell_below (ownsRow_setCell_below hT (a := ⟨w.heap.size + 1 + 1, 0, none⟩) (by simp) (.slice (some ⟨g2, 0, none⟩) (tx.length + 1) cap2)) (a := ⟨w.heap.size + 1 + 1, 1, none⟩) (by simp) (.slice (some ⟨g3, 0, none⟩) (mg.length + 1) cap3)
    have h2 := World.ownsRow.mono h1 (Nat.zero_le _)
    simpa using h2
  · have h1 := ownsRow_setCell_below (ownsRow_setCell_below hM (a := ⟨w.heap.size + 1 + 1, 0, none⟩) (by simp) (.slice (some ⟨g2, 0, none⟩) (tx.length + 1) cap2)) (a := ⟨w.heap.size + 1 + 1, 1, none⟩) (by simp) (.slice (some ⟨g3, 0, none⟩) (mg.length + 1) cap3)
    have h2 := World.ownsRow.mono h1 (Nat.zero_le _)
    rw [← fl2_append] at h2
    simpa using h2


section
variable {vb vm : Value} {tx : List ByteArray} {mg : List (Int × Int)} {w : World}

set_option maxRecDepth 20000 in
set_option maxHeartbeats 8000000 in
theorem radd_ok (h : RT vb vm tx mg w) (i j : Nat) (hi : i < tx.length) (hj : j < tx.length) (hzi : (gs tx i).size ≤ 64) (hzj : (gs tx j).size ≤ 64) (s : ByteArray) (hs : gs tx i ++ gs tx j = s) (hl : s.size ≤ 64) (hml : mg.length ≤ 1000) (hf : tx.length < 1000) (hm : s ∉ tx) :
    Calls Tryz.prog 46 #[.agg #[vb, vm], .agg #[.int .i64 i, .int .i64 j]] w fun e w' => (∃ vb' vm', e = .returned (rtR vb' vm' 0) ∧ RT vb' vm' (tx ++ [s]) (mg ++ [((i : Int), (j : Int))]) w' ∧ (∀ k, vb'.ownBlock = some k → w.heap.size ≤ k) ∧ (∀ k, vm'.ownBlock = some k → w.heap.size ≤ k)) ∧ Below w.heap.size w w' := by
  obtain ⟨ao, cap, hvb⟩ := row_form h.rb
  obtain ⟨am, capm, hvm⟩ := row_form h.rm
  obtain ⟨hX, hB0⟩ := bx_begin w vb vm ((i : Int), (j : Int))
  have h0 := h.kept hB0
  subst hvb hvm
  have hd : decide (0 ≤ (i : Int) ∧ (i : Int) < (tx.length : Int)) = true := by simp; omega
  have hd2 : decide (0 ≤ (j : Int) ∧ (j : Int) < (tx.length : Int)) = true := by simp; omega
  have HH := hide (rhas_any h0 (i : Int))
  rw [hd] at HH
  clear hd
  have hi0 : (0 : Int) ≤ (i : Int) := by omega
  have hi1 : (i : Int) < (tx.length : Int) := by omega
  have hj0 : (0 : Int) ≤ (j : Int) := by omega
  have hj1 : (j : Int) < (tx.length : Int) := by omega
  have hl2 : ¬ (64 : Int) < (s.size : Int) := by omega
  have hf2 : ¬ (1000 : Int) ≤ (tx.length : Int) := by omega
  go_enter Tryz.func46, Tryz.ntmps46
  go_wp2_with fail
  refine (unhide HH).mono ?_
  rintro e w1 ⟨rfl, hb1⟩
  have hX1 := hX.kept hb1
  obtain ⟨c0, c1, c2, c3, c4, c5, cf⟩ := hX1.cells
  have hB1 := hB0.trans (hb1.mono hB0.size)
  have h1 := h0.kept hb1
  have HH2 := hide (rhas_any h1 (j : Int))
  rw [hd2] at HH2
  clear hb1 hd2
  go_wp2_with fail
  refine (unhide HH2).mono ?_
  rintro e w2 ⟨rfl, hb2⟩
  clear c0 c1 c2 c3 c4 c5 cf
  have hX2 := hX1.kept hb2
  obtain ⟨c0, c1, c2, c3, c4, c5, cf⟩ := hX2.cells
  have hB2 := hB1.trans (hb2.mono hB1.size)
  have h2 := h1.kept hb2
  obtain ⟨g, cap', hv, hgl, ti⟩ := h2.text hi
  simp only [Value.slice.injEq] at hv
  obtain ⟨rfl, _, rfl⟩ := hv
  obtain ⟨g', cap', hv, _, tj⟩ := h2.text hj
  simp only [Value.slice.injEq, Option.some.injEq, Addr.mk.injEq, and_true] at hv
  obtain ⟨rfl, _, rfl⟩ := hv
  clear hb2
  go_wp2
  go_region
  go_wp2_with fail
  refine (rfind_any h2.drew s (by omega)).mono ?_
  rintro e w3 ⟨⟨r, rfl, hr⟩, hb3⟩
  have hX3 := (hX2.kept (Below.drew (Below.refl _ _))).kept hb3
  clear c0 c1 c2 c3 c4 c5 cf
  obtain ⟨c0, c1, c2, c3, c4, c5, cf⟩ := hX3.cells
  have hB3 := hB2.drew.trans (hb3.mono hB2.size)
  have h3 := h2.drew.kept hb3
  have hr0 : r = -1 := by
    rcases hr with ⟨h1, _⟩ | ⟨k, _, hk, he⟩
    · exact h1
    · exact absurd (gs_mem.2 ⟨k, hk, he⟩) hm
  subst hr0
  obtain ⟨g1, cap1, w4, hrun1, hrow1, hb4, hg1⟩ := copy_texts (w.heap.size + 1 + 1 + 1) h3.rb (by omega) (by omega) hX3.lt
  have h4 := h3.kept hb4
  obtain ⟨rv, w5, hrun2, hrow2, hb5, hn5⟩ := copy_merges (w.heap.size + 1 + 1 + 1) h4.rm h4.nl hml (hX3.kept hb4).lt
  have hX5 := (hX3.kept hb4).kept hb5
  have hX4 := hX3.kept hb4
  have hB5 := (hB3.trans (hb4.mono hB3.size)).trans (hb5.mono (hB3.trans (hb4.mono hB3.size)).size)
  have hrow15 := row_keptB hrow1 hb5
  have hz34 := hb4.size
  have hz45 := hb5.size
  have hz3 := hB3.size
  have HR1 := hide hrun1
  have HR2 := hide hrun2
  clear c0 c1 c2 c3 c4 c5 cf hrun1 hrun2 hb3 hb4 hb5
  obtain ⟨c0, c1, c2, c3, c4, c5, cf⟩ := hX3.cells
  obtain ⟨p0, p1, p2, p3, p4, p5, pf⟩ := hX4.cells
  obtain ⟨d0, d1, d2, d3, d4, d5, df⟩ := hX5.cells
  go_wp2_with (at_builtin; first | (refine Lib.wpList_append_run _ rfl _ _ _ _ rfl _ _ rfl rfl _ _ HR1.out ?_; clear HR1) | (refine Lib.wpList_append_run _ rfl _ _ _ _ rfl _ _ rfl rfl _ _ HR2.out ?_; clear HR2))
  have HK := hide (Kx.mk hX5 hB5)
  have hgB : ∀ k, (Value.slice (some ⟨g1, 0, none⟩) tx.length cap1).ownBlock = some k → w.heap.size + 1 + 1 + 1 ≤ k := fun k e => (hrow15.lt k e).1
  have hrB : ∀ k, rv.ownBlock = some k → w.heap.size + 1 + 1 + 1 ≤ k := fun k e => (hrow2.lt k e).1
  obtain ⟨is0, his, hss0, hss1, hss2⟩ := info_parts info_string
  obtain ⟨im0, him, hms0, hms1, hms2⟩ := info_parts info_merge
  have hone1 : ∀ u ∈ [Value.string s], u.oneCell' = true := by
    intro u hu
    simp only [List.mem_singleton] at hu
    subst hu
    rfl
  have hlt5 := HK.out.lt
  have hA0 : ∀ o, (w5.alloc o).cell? ⟨w.heap.size + 1, 0, none⟩ = some (.int .i64 (i : Int)) := fun o => (HK.out.alloc o).bx.cells.2.2.1
  have hA1 : ∀ o, (w5.alloc o).cell? ⟨w.heap.size + 1, 1, none⟩ = some (.int .i64 (j : Int)) := fun o => (HK.out.alloc o).bx.cells.2.2.2.1
  have hA2 : ∀ o o', ((w5.alloc o).alloc o').cell? ⟨w.heap.size + 1, 0, none⟩ = some (.int .i64 (i : Int)) := fun o o' => ((HK.out.alloc o).alloc o').bx.cells.2.2.1
  have hA3 : ∀ o o', ((w5.alloc o).alloc o').cell? ⟨w.heap.size + 1, 1, none⟩ = some (.int .i64 (j : Int)) := fun o o' => ((HK.out.alloc o).alloc o').bx.cells.2.2.2.1
  have hrowT : ∀ {W : World}, W.ownsRow (w.heap.size + 1 + 1 + 1) 9 1 (.slice (some ⟨g1, 0, none⟩) tx.length cap1) tx.length (tx.map Value.string) → W.ownsRow (w.heap.size + 1 + 1 + 1) 9 1 (.slice (some ⟨g1, 0, none⟩) tx.length cap1) tx.length (tx.map Value.string) := fun h => h
  have hrowM : ∀ {W : World}, W.ownsRow (w.heap.size + 1 + 1 + 1) 77 2 rv mg.length (fl2 mg) → W.ownsRow (w.heap.size + 1 + 1 + 1) 77 2 rv mg.length (fl2 mg) := fun h => h
  clear c0 c1 c2 c3 c4 c5 cf p0 p1 p2 p3 p4 p5 pf hX hX1 hX2 hX3 hX4 hX5 hB0 hB1 hB2 hB3 hB5 h h0 h1 h2 h3 h4 hr ti tj hrow1 hn5
  go_region_law (first
    | (refine step_append_lies _ (by rfl) _ _ _ (by rfl) (w.heap.size + 1 + 1 + 1) 9 is0 _ 1 16 Tryz.underlying31 his hss0 hss1 hss2 (by rfl) (by omega) _ tx.length (tx.map Value.string) (by rfl) (by repeat' (first | assumption | with_reducible refine World.ownsRow.alloc ?_ _ | with_reducible refine World.ownsRow.drew ?_)) _ 1 _ [Value.string s] (by rfl) (by rfl) (by refine World.news_of_block (fr := (0, 0)) (t := 9) (cs := #[Value.string s]) ?_; repeat' (first | assumption | with_reducible refine at_drew ?_ | with_reducible refine at_new (by simp) | with_reducible refine at_old (by simp; omega) ?_ | with_reducible refine at_old (by simp) ?_ | with_reducible refine at_grown hgT (by first | (simp; done) | (simp; omega)) (row_ne_new hrow15 (by omega)) ?_ | with_reducible refine at_grown hgM (by first | (simp; done) | (simp; omega)) (row_ne_new hrow2 (by omega)) ?_)) hone1 (by omega) (by unfold maxLen; omega) (by omega) (by first | omega | (simp; omega)) _ rfl ?_; intro g2 cap2 w6 hownT hgT hatT hltT; have K6 : Hid (Kx w (.slice (some ⟨g, 0, none⟩) tx.length cap) (.slice am mg.length capm) ((i : Int), (j : Int)) w6) := hide (Kx.grown (by repeat' (first | exact HK.out | exact K6.out | exact K7.out | with_reducible refine Kx.alloc ?_ _ | with_reducible refine Kx.drew ?_)) hgB hgT); have hl6 := K6.out.lt; have hA60 : ∀ o, (w6.alloc o).cell? ⟨w.heap.size + 1, 0, none⟩ = some (.int .i64 (i : Int)) := fun o => (K6.out.alloc o).bx.cells.2.2.1; have hA61 : ∀ o, (w6.alloc o).cell? ⟨w.heap.size + 1, 1, none⟩ = some (.int .i64 (j : Int)) := fun o => (K6.out.alloc o).bx.cells.2.2.2.1; obtain ⟨q0, q1, q2, q3, q4, q5, qf⟩ := K6.out.bx.cells; first | have hM6 : w6.ownsRow (w.heap.size + 1 + 1 + 1) 77 2 (.slice (some ⟨g3, 0, none⟩) (mg.length + 1) cap3) (mg.length + 1) (fl2 mg ++ fl2 [((i : Int), (j : Int))]) := row_past (by repeat' (first | assumption | with_reducible refine World.ownsRow.alloc ?_ _ | with_reducible refine World.ownsRow.drew ?_)) (hrowT (by repeat' (first | assumption | with_reducible refine World.ownsRow.alloc ?_ _ | with_reducible refine World.ownsRow.drew ?_))) (by decide) hgT | have hM6 : w6.ownsRow (w.heap.size + 1 + 1 + 1) 77 2 rv mg.length (fl2 mg) := row_past (by repeat' (first | assumption | with_reducible refine World.ownsRow.alloc ?_ _ | with_reducible refine World.ownsRow.drew ?_)) (hrowT (by repeat' (first | assumption | with_reducible refine World.ownsRow.alloc ?_ _ | with_reducible refine World.ownsRow.drew ?_))) (by decide) hgT)
    | (refine step_append_lies _ (by rfl) _ _ _ (by rfl) (w.heap.size + 1 + 1 + 1) 77 im0 _ 2 16 Tryz.underlying32 him hms0 hms1 hms2 (by rfl) (by omega) _ mg.length (fl2 mg) (by rfl) (by repeat' (first | assumption | with_reducible refine World.ownsRow.alloc ?_ _ | with_reducible refine World.ownsRow.drew ?_)) _ 1 _ (fl2 [((i : Int), (j : Int))]) (by rfl) (by rfl) (by refine World.news_of_block (fr := (0, 0)) (t := 77) (cs := #[Value.int .i64 i, Value.int .i64 j]) ?_; repeat' (first | assumption | with_reducible refine at_drew ?_ | with_reducible refine at_new (by simp) | with_reducible refine at_old (by simp; omega) ?_ | with_reducible refine at_old (by simp) ?_ | with_reducible refine at_grown hgT (by first | (simp; done) | (simp; omega)) (row_ne_new hrow15 (by omega)) ?_ | with_reducible refine at_grown hgM (by first | (simp; done) | (simp; omega)) (row_ne_new hrow2 (by omega)) ?_)) (fl2_one _) (by omega) (by unfold maxLen; omega) (by omega) (by first | omega | (simp; omega)) _ rfl ?_; intro g3 cap3 w7 hownM hgM hatM hltM; have K7 : Hid (Kx w (.slice (some ⟨g, 0, none⟩) tx.length cap) (.slice am mg.length capm) ((i : Int), (j : Int)) w7) := hide (Kx.grown (by repeat' (first | exact HK.out | exact K6.out | exact K7.out | with_reducible refine Kx.alloc ?_ _ | with_reducible refine Kx.drew ?_)) hrB hgM); have hl7 := K7.out.lt; have hA70 : ∀ o, (w7.alloc o).cell? ⟨w.heap.size + 1, 0, none⟩ = some (.int .i64 (i : Int)) := fun o => (K7.out.alloc o).bx.cells.2.2.1; have hA71 : ∀ o, (w7.alloc o).cell? ⟨w.heap.size + 1, 1, none⟩ = some (.int .i64 (j : Int)) := fun o => (K7.out.alloc o).bx.cells.2.2.2.1; obtain ⟨q0, q1, q2, q3, q4, q5, qf⟩ := K7.out.bx.cells; first | have hT7 : w7.ownsRow (w.heap.size + 1 + 1 + 1) 9 1 (.slice (some ⟨g2, 0, none⟩) (tx.length + 1) cap2) (tx.length + 1) (tx.map Value.string ++ [Value.string s]) := row_past (by repeat' (first | assumption | with_reducible refine World.ownsRow.alloc ?_ _ | with_reducible refine World.ownsRow.drew ?_)) (hrowM (by repeat' (first | assumption | with_reducible refine World.ownsRow.alloc ?_ _ | with_reducible refine World.ownsRow.drew ?_))) (by decide) hgM | have hT7 : w7.ownsRow (w.heap.size + 1 + 1 + 1) 9 1 (.slice (some ⟨g1, 0, none⟩) tx.length cap1) tx.length (tx.map Value.string) := row_past (by repeat' (first | assumption | with_reducible refine World.ownsRow.alloc ?_ _ | with_reducible refine World.ownsRow.drew ?_)) (hrowM (by repeat' (first | assumption | with_reducible refine World.ownsRow.alloc ?_ _ | with_reducible refine World.ownsRow.drew ?_))) (by decide) hgM))
  all_goals
    first
    | have HE := hide (radd_end hT7 hownM K7.out)
    | have HE := hide (radd_end hownT hM6 K6.out)
    clear hownM hownT hgM hgT hatM hatT
    go_wp2
    (try simp only [Exit.inBlock, Exit.then])
    refine bodyPost_ret (v := rtR (.slice (some ⟨g2, 0, none⟩) (tx.length + 1) cap2) (.slice (some ⟨g3, 0, none⟩) (mg.length + 1) cap3) 0) (by simp [rtR, results, Tryz.results46, go_sem, q4, q5, qf]) rfl ?_
    first
    | exact ⟨⟨_, _, rfl, HE.out.1⟩, HE.out.2⟩
    | exact ⟨⟨_, _, rfl, HE.out.1.1.drew, HE.out.1.2⟩, HE.out.2.drew⟩
end

end Go.Proofs.YtdpmjaelbjjanaaGreat

namespace Go.Proofs.YtdpmjaelbjjanaaGreat
open Go.RowKit Go.Maps
set_option linter.unusedVariables false
set_option linter.unusedSimpArgs false
attribute [local go_sem ↓] Go.wp_at_zero Go.wp_at_succ

section
variable {vb vm : Value} {tx : List ByteArray} {mg : List (Int × Int)} {w : World}

theorem radd_any (h : RT vb vm tx mg w) (hk : Tok tx mg) (m : Int × Int) :
    Calls Tryz.prog 46 #[.agg #[vb, vm], .agg #[.int .i64 m.1, .int .i64 m.2]] w fun e w' => (∃ vb' vm', e = .returned (rtR vb' vm' (addC tx m)) ∧ RT vb' vm' (nextT tx m) (nextM tx mg m) w' ∧ (∀ k, vb'.ownBlock = some k → vb.ownBlock = some k ∨ w.heap.size ≤ k) ∧ (∀ k, vm'.ownBlock = some k → vm.ownBlock = some k ∨ w.heap.size ≤ k)) ∧ Below w.heap.size w w' := by
  have same : ∀ (c : Int), addC tx m = c → c ≠ 0 → ∀ e w', (e = Ending.returned (rtR vb vm c) ∧ Below w.heap.size w w') → ((∃ vb' vm', e = .returned (rtR vb' vm' (addC tx m)) ∧ RT vb' vm' (nextT tx m) (nextM tx mg m) w' ∧ (∀ k, vb'.ownBlock = some k → vb.ownBlock = some k ∨ w.heap.size ≤ k) ∧ (∀ k, vm'.ownBlock = some k → vm.ownBlock = some k ∨ w.heap.size ≤ k)) ∧ Below w.heap.size w w') := by
    rintro c hc hne e w' ⟨rfl, hb⟩
    have hn : addC tx m ≠ 0 := by rw [hc]; exact hne
    rw [hc]
    unfold nextT nextM
    rw [if_neg hn, if_neg hn]
    exact ⟨⟨vb, vm, rfl, h.kept hb, fun k e => Or.inl e, fun k e => Or.inl e⟩, hb⟩
  by_cases h1 : m.1 < 0 ∨ (tx.length : Int) ≤ m.1 ∨ m.2 < 0 ∨ (tx.length : Int) ≤ m.2
  · exact (radd_id h m (by omega)).mono (same 4 (by unfold addC; rw [if_pos h1]) (by omega))
  · obtain ⟨i, hi⟩ := Int.eq_ofNat_of_zero_le (show 0 ≤ m.1 by omega)
    obtain ⟨j, hj⟩ := Int.eq_ofNat_of_zero_le (show 0 ≤ m.2 by omega)
    have hil : i < tx.length := by omega
    have hjl : j < tx.length := by omega
    have hS : addS tx m = gs tx i ++ gs tx j := by unfold addS; rw [hi, hj]; rfl
    have hC : addC tx m = if 64 < (addS tx m).size then 3 else if 1000 ≤ tx.length then 5 else if (addS tx m).data.toList ∈ tx.map (fun t => t.data.toList) then 10 else 0 := by
      unfold addC
      rw [if_neg h1]
      rfl
    have hzi := hk.sz i hil
    have hzj := hk.sz j hjl
    rw [hi, hj]
    by_cases h2 : 64 < (addS tx m).size
    · exact (radd_long h i j hil hjl hzi hzj _ hS.symm h2).mono (same 3 (by rw [hC, if_pos h2]) (by omega))
    · rw [if_neg h2] at hC
      by_cases h3 : 1000 ≤ tx.length
      · exact (radd_full h i j hil hjl hzi hzj _ hS.symm (by omega) h3).mono (same 5 (by rw [hC, if_pos h3]) (by omega))
      · rw [if_neg h3] at hC
        by_cases h4 : addS tx m ∈ tx
        · exact (radd_twice h i j hil hjl hzi hzj _ hS.symm (by omega) (by omega) h4).mono (same 10 (by rw [hC, if_pos (data_mem.2 h4)]) (by omega))
        · rw [if_neg (fun e => h4 (data_mem.1 e))] at hC
          have hm : ((i : Int), (j : Int)) = m := by cases m; simp at hi hj; simp [hi, hj]
          have hlen := hk.len
          refine (radd_ok h i j hil hjl hzi hzj _ hS.symm (by omega) (by omega) (by omega) h4).mono ?_
          rintro e w' ⟨⟨vb', vm', rfl, hT, hb1, hb2⟩, hB⟩
          rw [hm] at hT
          unfold nextT nextM
          rw [if_pos hC, if_pos hC, hC]
          exact ⟨⟨vb', vm', rfl, hT, fun k e => Or.inr (hb1 k e), fun k e => Or.inr (hb2 k e)⟩, hB⟩
end

end Go.Proofs.YtdpmjaelbjjanaaGreat

namespace Go.Proofs.YtdpmjaelbjjanaaGreat
open Go.RowKit Go.Maps
set_option linter.unusedVariables false
set_option linter.unusedSimpArgs false
attribute [local go_sem ↓] Go.wp_at_zero Go.wp_at_succ

section
variable {vb vm : Value} {tx : List ByteArray} {mg : List (Int × Int)} {w : World}

end

end Go.Proofs.YtdpmjaelbjjanaaGreat

namespace Go.Proofs.YtdpmjaelbjjanaaGreat
open Go.RowKit Go.Maps
set_option linter.unusedVariables false
set_option linter.unusedSimpArgs false
attribute [local go_sem ↓] Go.wp_at_zero Go.wp_at_succ

/-- Boxes of a table. -/
def Box2 (b : Nat) (vb vm : Value) (W : World) : Prop := W.heap[b]? = some (.cells #[vb, vm] 34 (0, 0))
theorem Box2.lt {b : Nat} {vb vm : Value} {W : World} (h : Box2 b vb vm W) : b < W.heap.size := (Array.getElem?_eq_some_iff.1 h).1
theorem Box2.kept {b : Nat} {vb vm : Value} {W W' : World} (h : Box2 b vb vm W) (hb : Below W.heap.size W W') : Box2 b vb vm W' := (hb.block _ h.lt).trans h
theorem Box2.cells {b : Nat} {vb vm : Value} {W : World} (h : Box2 b vb vm W) : W.cell? ⟨b, 0, none⟩ = some vb ∧ W.cell? ⟨b, 1, none⟩ = some vm ∧ ∀ o, W.frozen? ⟨b, o, none⟩ = false := by
  unfold Box2 at h
  simp [World.cell?, World.frozen?, h]
theorem RT.alloc {vb vm : Value} {tx : List ByteArray} {mg : List (Int × Int)} {w : World} (h : RT vb vm tx mg w) (o : Obj) : RT vb vm tx mg (w.alloc o) := ⟨h.rb.alloc _, h.rm.alloc _, h.nl⟩

theorem below_drew' (w : World) : Below w.heap.size w w.drew := (Below.refl _ _).drew
theorem below_via' {a b c : World} (h : Below b.heap.size b c) (k : Below a.heap.size a b) : Below a.heap.size a c := k.trans (h.mono k.size)

theorem Box2.set {b : Nat} {vb vm : Value} {W : World} (h : Box2 b vb vm W) (u0 u1 : Value) : Box2 b u0 u1 ((W.setCell ⟨b, 0, none⟩ u0).setCell ⟨b, 1, none⟩ u1) := by
  unfold Box2 at *
  have h1 := heap_setCell_same W b 0 _ _ u0 h
  have h2 := heap_setCell_same _ b 1 _ _ u1 h1
  simpa using h2

theorem rnew_step {w w2 W3 : World} {b5 q : Nat} {vb vm vb' vm' : Value} {tx : List ByteArray} {mg : List (Int × Int)} (hT : RT vb' vm' tx mg w2) (hx : Box2 w.heap.size (.slice none 0 0) (.slice none 0 0) w2) (hy : Box2 b5 vb vm w2) (hF : FrL [q] w2 W3) (hq : w.heap.size < q) (hqb : q ≠ b5) (hb : w.heap.size < b5)
    (h1 : ∀ k, vb'.ownBlock = some k → k ≠ b5 ∧ w.heap.size < k ∧ k ≠ q) (h2 : ∀ k, vm'.ownBlock = some k → k ≠ b5 ∧ w.heap.size < k ∧ k ≠ q) (hB : Below w.heap.size w w2) :
    Box2 w.heap.size (.slice none 0 0) (.slice none 0 0) ((W3.setCell ⟨b5, 0, none⟩ vb').setCell ⟨b5, 1, none⟩ vm') ∧ Box2 b5 vb' vm' ((W3.setCell ⟨b5, 0, none⟩ vb').setCell ⟨b5, 1, none⟩ vm') ∧ RT vb' vm' tx mg ((W3.setCell ⟨b5, 0, none⟩ vb').setCell ⟨b5, 1, none⟩ vm') ∧ (∀ k, vb'.ownBlock = some k → k ≠ b5 ∧ w.heap.size < k) ∧ (∀ k, vm'.ownBlock = some k → k ≠ b5 ∧ w.heap.size < k) ∧ Below w.heap.size w ((W3.setCell ⟨b5, 0, none⟩ vb').setCell ⟨b5, 1, none⟩ vm') := by
  have hF2 : FrL [q, b5] w2 ((W3.setCell ⟨b5, 0, none⟩ vb').setCell ⟨b5, 1, none⟩ vm') := ((hF.mono (G := [q, b5]) (fun k hk => by simp at hk; simp [hk])).set (by simp) _).set (by simp) _
  have hy3 : Box2 b5 vb vm W3 := (hF.block _ hy.lt (by simp; omega)).trans hy
  refine ⟨(hF2.block _ hx.lt (by simp; omega)).trans hx, hy3.set _ _, hT.keptF hF2 (fun k e => ?_) (fun k e => ?_), fun k e => ⟨(h1 k e).1, (h1 k e).2.1⟩, fun k e => ⟨(h2 k e).1, (h2 k e).2.1⟩, hB.trans (hF2.below hB.size (fun k hk => ?_))⟩
  · have := h1 k e; simp; omega
  · have := h2 k e; simp; omega
  · simp at hk; omega

/-- The return of an error: the boxes' table goes into the answer's box. -/
theorem rnew_out {w w2 W3 : World} {b5 q : Nat} {vb vm : Value} {tx : List ByteArray} {mg : List (Int × Int)} (hT : RT vb vm tx mg w2) (hF : FrL [q] w2 W3) (hq : w.heap.size < q)
    (h1 : ∀ k, vb.ownBlock = some k → w.heap.size < k ∧ k ≠ q) (h2 : ∀ k, vm.ownBlock = some k → w.heap.size < k ∧ k ≠ q) (hB : Below w.heap.size w w2) :
    RT vb vm tx mg ((W3.setCell ⟨w.heap.size, 0, none⟩ vb).setCell ⟨w.heap.size, 1, none⟩ vm) ∧ Below w.heap.size w ((W3.setCell ⟨w.heap.size, 0, none⟩ vb).setCell ⟨w.heap.size, 1, none⟩ vm) := by
  have hF2 : FrL [q, w.heap.size] w2 ((W3.setCell ⟨w.heap.size, 0, none⟩ vb).setCell ⟨w.heap.size, 1, none⟩ vm) := ((hF.mono (G := [q, w.heap.size]) (fun k hk => by simp at hk; simp [hk])).set (by simp) _).set (by simp) _
  refine ⟨hT.keptF hF2 (fun k e => ?_) (fun k e => ?_), hB.trans (hF2.below hB.size (fun k hk => ?_))⟩
  · have := h1 k e; simp; omega
  · have := h2 k e; simp; omega
  · simp at hk; omega

set_option maxRecDepth 20000 in
set_option maxHeartbeats 8000000 in
theorem rnew_any (ao : Option Addr) (n cap : Nat) (M : List (Int × Int)) (w : World) (hM : ReadsM w ao n M) (hn : n ≤ 1000000) :
    Calls Tryz.prog 142 #[.slice ao n cap] w fun e w' =>
      ∃ (k : Nat) (c : Int) (vb vm : Value), e = .returned (.tuple #[.agg #[vb, vm], .int .i64 k, .int .i64 c]) ∧ (∀ j, j < k → addC (stT M j).1 (gm M j) = 0) ∧ ((k < n ∧ c = addC (stT M k).1 (gm M k) ∧ c ≠ 0) ∨ (k = n ∧ c = 0)) ∧ RT vb vm (stT M k).1 (stT M k).2 w' ∧ Below w.heap.size w w' := by
  go_enter Tryz.func142, Tryz.ntmps142
  go_wp2_with fail
  refine (rbegin_any _).mono ?_
  rintro e w1 ⟨⟨vb, rfl, hT, hvB⟩, hB⟩
  have hx0 : Box2 w.heap.size (.slice none 0 0) (.slice none 0 0) (w.alloc (.cells #[.slice none 0 0, .slice none 0 0] 34)) := heap_alloc_new w _
  have hx1 := hx0.kept hB
  obtain ⟨a1, c1, hv1⟩ := row_form hT.rb
  subst hv1
  have hba : Below w1.heap.size w1 (w1.alloc (.cells #[.slice a1 (tb 256).length c1, .slice none 0 0] 34)) := low1 _ _
  have hx2 := hx1.kept hba
  have hy2 : Box2 w1.heap.size (.slice a1 (tb 256).length c1) (.slice none 0 0) (w1.alloc (.cells #[.slice a1 (tb 256).length c1, .slice none 0 0] 34)) := heap_alloc_new w1 _
  have hT2 := hT.kept hba
  have hB0 : Below w.heap.size w (w.alloc (.cells #[.slice none 0 0, .slice none 0 0] 34)) := low1 _ _
  have hB2 := (hB0.trans (hB.mono hB0.size)).trans (hba.mono (hB0.trans (hB.mono hB0.size)).size)
  have hlt1 := hx1.lt
  have hvb : ∀ k, (Value.slice a1 (tb 256).length c1).ownBlock = some k → k ≠ w1.heap.size ∧ w.heap.size < k := fun k e => by
    have h1 := hvB k e
    have h2 := (hT.rb.lt k e).2
    simp at h1
    omega
  have hvm : ∀ k, (Value.slice none 0 0).ownBlock = some k → k ≠ w1.heap.size ∧ w.heap.size < k := fun k e => by cases e
  have HH := hide (And.intro hx2 (And.intro hy2 (And.intro hT2 (And.intro hvb (And.intro hvm hB2)))))
  generalize hb5 : w1.heap.size = b5 at *
  generalize hl : (tb 256).length = l256 at *
  clear hx0 hx1 hba hx2 hy2 hT2 hB0 hB2 hvb hvm hvB hT hB hl
  go_wp2
  go_loopw [6] (fun i wr => ∃ (k : Nat) (vb vm : Value), i = .int .i64 k ∧ k ≤ n ∧ Hid (∀ j, j < k → addC (stT M j).1 (gm M j) = 0) ∧ Hid (Box2 w.heap.size (.slice none 0 0) (.slice none 0 0) wr ∧ Box2 b5 vb vm wr ∧ RT vb vm (stT M k).1 (stT M k).2 wr ∧ (∀ k, vb.ownBlock = some k → k ≠ b5 ∧ w.heap.size < k) ∧ (∀ k, vm.ownBlock = some k → k ≠ b5 ∧ w.heap.size < k) ∧ Below w.heap.size w wr)) (fun i _ => n - (intOf i).toNat)
  case atStart => exact ⟨0, _, _, rfl, by omega, hide (fun j hj => by omega), hide HH.out⟩
  case round =>
    obtain ⟨k, vb, vm, rfl, hk, hOK, HI⟩ := hrel
    obtain ⟨hx, hy, hT, hvb, hvm, hB⟩ := HI.out
    clear HI HH
    obtain ⟨a1, c1, hv1⟩ := row_form hT.rb
    obtain ⟨a2, c2, hv2⟩ := row_form hT.rm
    have htok := stT_tok M k
    have HST := hide (show stT M (k + 1) = (nextT (stT M k).1 (gm M k), nextM (stT M k).1 (stT M k).2 (gm M k)) from rfl)
    have HT := hide hT
    have HX := hide hx
    have HY := hide hy
    have HVB := hide hvb
    have HVM := hide hvm
    have HBB := hide hB
    obtain ⟨y0, y1, yf⟩ := hy.cells
    obtain ⟨x0, x1, xf⟩ := hx.cells
    have hylt := hy.lt
    have hxlt := hx.lt
    by_cases hlt : k < n
    · have hA1 := hM.kept hB
      obtain ⟨b, off, rfl, hbw, k0, k1⟩ := hA1.at hlt
      have hk0 : (0 : Int) ≤ (k : Int) := by omega
      have hk1 : (k : Int) < (n : Int) := by omega
      have HTK := hide htok
      generalize hmk : gm M k = m at k0 k1 HST
      have HMK := hide hmk
      clear hmk hT hA1 htok hx hy hvb hvm hB
      generalize htx : (stT M k).1 = tx at HST HT HTK hv1
      generalize hmg : (stT M k).2 = mg at HST HT HTK hv2
      have HTX := hide htx
      have HMG := hide hmg
      clear htx hmg
      subst hv1 hv2
      have hA0 : ∀ o, (wr.alloc o).cell? ⟨b, off + k * 2, none⟩ = some (.int .i64 m.1) := fun o => (cell_old wr _ hbw).trans k0
      have hA1 : ∀ o, (wr.alloc o).cell? ⟨b, off + k * 2 + 1, none⟩ = some (.int .i64 m.2) := fun o => (cell_old wr _ hbw).trans k1
      have hA2 : ∀ o, (wr.alloc o).cell? ⟨b5, 0, none⟩ = some (.slice a1 tx.length c1) := fun o => (cell_old wr _ hylt).trans y0
      have hA3 : ∀ o, (wr.alloc o).cell? ⟨b5, 1, none⟩ = some (.slice a2 mg.length c2) := fun o => (cell_old wr _ hylt).trans y1
      go_wp2
      go_region_with (go_at_call 46; refine (radd_any (by first | exact HT.out.drew | exact (HT.out.alloc _).drew | exact HT.out.drew.alloc _ | exact HT.out) HTK.out m).mono ?_; rintro e w2 ⟨⟨vb', vm', rfl, hT2, hvb2, hvm2⟩, hB2⟩; obtain ⟨a3, c3, hv3⟩ := row_form hT2.rb; obtain ⟨a4, c4, hv4⟩ := row_form hT2.rm; subst hv3 hv4; unfold rtR; generalize hcc : addC tx m = cc; have HCC := hide hcc; clear hcc; first | (have hq : Box2 wr.heap.size (.slice none 0 0) (.slice none 0 0) w2 := Box2.kept (W := (wr.alloc (.cells #[.slice none 0 0, .slice none 0 0] 34)).drew) (heap_alloc_new wr _) hB2; have hy2 : Box2 b5 (.slice a1 tx.length c1) (.slice a2 mg.length c2) w2 := Box2.kept (W := (wr.alloc (.cells #[.slice none 0 0, .slice none 0 0] 34)).drew) (Box2.kept HY.out (low1 wr _).drew) hB2; have hx2 : Box2 w.heap.size (.slice none 0 0) (.slice none 0 0) w2 := Box2.kept (W := (wr.alloc (.cells #[.slice none 0 0, .slice none 0 0] 34)).drew) (Box2.kept HX.out (low1 wr _).drew) hB2; obtain ⟨z0, z1, zf⟩ := hq.cells) | (have hy2 : Box2 b5 (.slice a1 tx.length c1) (.slice a2 mg.length c2) w2 := Box2.kept (W := wr.drew) HY.out hB2; have hx2 : Box2 w.heap.size (.slice none 0 0) (.slice none 0 0) w2 := Box2.kept (W := wr.drew) HX.out hB2))
      all_goals
        first
        | have hlow : Below wr.heap.size wr w2 := below_via' hB2 (below_drew' wr)
        | have hlow : Below wr.heap.size wr w2 := below_via' hB2 (low1 wr _).drew
        obtain ⟨y0', y1', yf'⟩ := hy2.cells
        have n1 : wr.heap.size ≠ b5 := by omega
        have n2 : b5 ≠ wr.heap.size := by omega
        have hz2 := hlow.size
        have n3 : w2.heap.size ≠ b5 := by omega
        have n4 : b5 ≠ w2.heap.size := by omega
        have n5 : w.heap.size ≠ b5 := by omega
        have n6 : b5 ≠ w.heap.size := by omega
        have n7 : w.heap.size ≠ wr.heap.size := by omega
        have n8 : wr.heap.size ≠ w.heap.size := by omega
        have n9 : w.heap.size ≠ w2.heap.size := by omega
        have n10 : w2.heap.size ≠ w.heap.size := by omega
        obtain ⟨x0', x1', xf'⟩ := hx2.cells
        have e0 : ∀ o, (w2.alloc o).cell? ⟨b5, 0, none⟩ = some (.slice a1 tx.length c1) := fun o => (hy2.kept (low1 w2 o)).cells.1
        have e1 : ∀ o, (w2.alloc o).cell? ⟨b5, 1, none⟩ = some (.slice a2 mg.length c2) := fun o => (hy2.kept (low1 w2 o)).cells.2.1
        have ef : ∀ o q, (w2.alloc o).frozen? ⟨b5, q, none⟩ = false := fun o q => (hy2.kept (low1 w2 o)).cells.2.2 q
        have f0 : ∀ o, (w2.alloc o).cell? ⟨w.heap.size, 0, none⟩ = some (.slice none 0 0) := fun o => (hx2.kept (low1 w2 o)).cells.1
        have f1 : ∀ o, (w2.alloc o).cell? ⟨w.heap.size, 1, none⟩ = some (.slice none 0 0) := fun o => (hx2.kept (low1 w2 o)).cells.2.1
        have ff : ∀ o q, (w2.alloc o).frozen? ⟨w.heap.size, q, none⟩ = false := fun o q => (hx2.kept (low1 w2 o)).cells.2.2 q
        clear y0 y1 yf hA0 hA1 hA2 hA3 x0 x1 xf
        have hB3 := HBB.out.trans (hlow.mono HBB.out.size)
        have hTw := HT.out.kept hlow
        have o1 : ∀ k, (Value.slice a1 tx.length c1).ownBlock = some k → k < wr.heap.size := fun k e => (HT.out.rb.lt k e).2
        have o2 : ∀ k, (Value.slice a2 mg.length c2).ownBlock = some k → k < wr.heap.size := fun k e => (HT.out.rm.lt k e).2
        have o3 : ∀ k, (Value.slice a3 (nextT tx m).length c3).ownBlock = some k → k < w2.heap.size := fun k e => (hT2.rb.lt k e).2
        have o4 : ∀ k, (Value.slice a4 (nextM tx mg m).length c4).ownBlock = some k → k < w2.heap.size := fun k e => (hT2.rm.lt k e).2
        have HA := hide (And.intro hT2 (And.intro hvb2 (And.intro hvm2 (And.intro hB3 (And.intro hTw (And.intro o1 (And.intro o2 (And.intro o3 o4))))))))
        clear hT2 hvb2 hvm2 hB3 hTw o1 o2 o3 o4
        by_cases hc : cc = 0
        · subst hc
          go_wp2
          go_roundw
          case rel =>
            obtain ⟨hT2, hvb2, hvm2, hB3, hTw, o1, o2, o3, o4⟩ := HA.out
            refine ⟨k + 1, .slice a3 (nextT tx m).length c3, .slice a4 (nextM tx mg m).length c4, by go_num, by omega, hide (fun j hj => ?_), hide ?_⟩
            · by_cases e : j = k
              · rw [e, HMK.out, HTX.out]; exact HCC.out
              · exact hOK.out j (by omega)
            · rw [HST.out]
              first
              | exact rnew_step (q := w2.heap.size) hT2 hx2 hy2 (FrL.ofBelow (low1 w2 _)) (by omega) (by omega) (by omega) (fun q e => by have h1 := hvb2 q e; have h2 := o3 q e; rcases h1 with h1 | h1; · { have h3 := HVB.out q h1; have h4 := o1 q h1; omega }; · { simp at h1; omega }) (fun q e => by have h1 := hvm2 q e; have h2 := o4 q e; rcases h1 with h1 | h1; · { have h3 := HVM.out q h1; have h4 := o2 q h1; omega }; · { simp at h1; omega }) hB3
              | exact rnew_step (q := wr.heap.size) hT2 hx2 hy2 (((FrL.refl _ _).set (by simp) _).set (by simp) _) (by omega) (by omega) (by omega) (fun q e => by have h1 := hvb2 q e; have h2 := o3 q e; rcases h1 with h1 | h1; · { have h3 := HVB.out q h1; have h4 := o1 q h1; omega }; · { simp at h1; omega }) (fun q e => by have h1 := hvm2 q e; have h2 := o4 q e; rcases h1 with h1 | h1; · { have h3 := HVM.out q h1; have h4 := o2 q h1; omega }; · { simp at h1; omega }) hB3
          case measure => simp [intOf]; omega
        · have hcb : (cc != 0) = true := by simpa using hc
          go_wp2
          (try simp only [Exit.inBlock, Exit.then])
          obtain ⟨hT2, hvb2, hvm2, hB3, hTw, o1, o2, o3, o4⟩ := HA.out
          refine bodyPost_ret (v := .tuple #[.agg #[.slice a1 tx.length c1, .slice a2 mg.length c2], .int .i64 k, .int .i64 cc]) (by simp [results, Tryz.results142, go_sem, x0', x1', xf', f0, f1, ff, n7, n8, n9, n10]) rfl ?_
          refine ⟨k, cc, _, _, rfl, hOK.out, Or.inl ⟨hlt, by rw [HTX.out, HMK.out]; exact HCC.out.symm, hc⟩, ?_⟩
          rw [HTX.out, HMG.out]
          first
          | exact rnew_out (b5 := b5) (q := w2.heap.size) hTw (FrL.ofBelow (low1 w2 _)) (by omega) (fun q e => by have h3 := HVB.out q e; have h4 := o1 q e; omega) (fun q e => by have h3 := HVM.out q e; have h4 := o2 q e; omega) hB3
          | exact rnew_out (b5 := b5) (q := wr.heap.size) hTw (((FrL.refl _ _).set (by simp) _).set (by simp) _) (by omega) (fun q e => by have h3 := HVB.out q e; have h4 := o1 q e; omega) (fun q e => by have h3 := HVM.out q e; have h4 := o2 q e; omega) hB3
    · obtain rfl : n = k := by omega
      clear hT hvb hvm hx hy hB
      subst hv1 hv2
      go_wp2
      (try simp only [Exit.inBlock, Exit.then])
      refine bodyPost_ret (v := .tuple #[.agg #[.slice a1 (stT M n).1.length c1, .slice a2 (stT M n).2.length c2], .int .i64 n, .int .i64 0]) (by simp [results, Tryz.results142, go_sem, x0, x1, xf]) rfl ?_
      refine ⟨n, 0, _, _, rfl, hOK.out, Or.inr ⟨rfl, rfl⟩, ?_⟩
      exact rnew_out (b5 := b5) (q := wr.heap.size) HT.out (FrL.refl _ _) (by omega) (fun q e => by have h3 := HVB.out q e; have h4 := (HT.out.rb.lt q e).2; omega) (fun q e => by have h3 := HVM.out q e; have h4 := (HT.out.rm.lt q e).2; omega) HBB.out
end Go.Proofs.YtdpmjaelbjjanaaGreat
