/- Contracts of package token: enter, ofBytes. -/
import Derived.Test.YtadbffphmmkljaaTkC
namespace Go.Proofs.Ytadbffphmmkljaa
open Go.RowKit Go.Maps
set_option linter.unusedVariables false
set_option linter.unusedSimpArgs false

theorem wpList_mapUpdate_K {P : Program} (w : World) {ops : Array Oper} {rest : List Oper} {o : Oper} {a : Act} {Q : Exit → Act → World → Prop}
    (hg : o.guard = none) (m x v : Operand) (t : TypeId) (hop : o.op = Op.mapUpdate t m x v) (K E : TypeId) (KY : Keyed P K) (ht : P.underlying t = some (.map K E)) (he : P.underlying E = some (.int .i64)) (off : Int) (b : Nat) (ks : List Lit)
    (hm : a.eval m = .map (some b)) (hown : MapK P K E off w b ks) (key : Value) (l : Lit) (hx : a.eval x = key) (hkey : keyOf P K key = some l) (hl : l ∉ ks) (hn : ks.length < maxLen) (z : Int) (hv : a.eval v = .int .i64 z) (hz : z = off + ks.length) (hw : (Lit.int .i64 z).wf = true)
    (hK : ∀ w', MapK P K E off w' b (ks ++ [l]) → w.grownBy w' (some b) → wpList P ops Q rest (a.put o.dst undef) w') :
    wpList P ops Q (o :: rest) a w := by
  obtain ⟨w', hrun, hm', hgr⟩ := hown.put KY ht he hkey hl hn hz hw
  refine wpList_plain hg fun _ hK' => ?_
  unfold Oper.wp execOp
  simp only [hop, hm, hx, hv, Sem.run_bind, Sem.run_pure, hrun, Result.andThen_ok]
  exact hK' _ _ (hK w' hm' hgr)

section
variable {F : List Nat} {p : Nat} {v0 v1 : Value} {b2 b3 : Nat} {tx : List ByteArray} {mg : List (Int × Int)} {lg : Int} {w : World}

theorem TAt.enter_map (h : TAt F p v0 v1 b2 b3 tx mg lg w) (g cap1 : Nat) {o : Obj} {w1 : World} (hgrow : (w.alloc o).grownBy w1 v0.ownBlock) : MapK Try.prog 9 3 0 (w1.setCell ⟨p, 0, none⟩ (.slice (some ⟨g, 0, none⟩) (tx.length + 1) cap1)) b2 (tx.map sk) := by
  have hlt := h.m2.lt
  refine h.m2.keep ?_
  rw [heap_setCell_other _ _ _ _ (Ne.symm h.pb2), hgrow.block b2 (by simp; omega) (fun e => row_ne_map h.r0 h.m2.isMap e.symm)]
  exact Below.heap_alloc w o b2 hlt

theorem TAt.enter_cell4 (h : TAt F p v0 v1 b2 b3 tx mg lg w) (g cap1 : Nat) {o : Obj} {w1 w3 : World} (hgrow : (w.alloc o).grownBy w1 v0.ownBlock) (hg3 : (w1.setCell ⟨p, 0, none⟩ (.slice (some ⟨g, 0, none⟩) (tx.length + 1) cap1)).grownBy w3 (some b2)) : w3.cell? ⟨p, 4, none⟩ = some (.int .i64 lg) ∧ w3.frozen? ⟨p, 4, none⟩ = false := by
  have hlt := h.lt
  have hst1 : w1.heap[p]? = some (.cells #[v0, v1, .map (some b2), .map (some b3), .int .i64 lg] 70 (0, 0)) := ((hgrow.block p (by simp; omega) (fun e => h.pne0 e.symm)).trans (Below.heap_alloc w o p hlt)).trans h.st
  have hst2 := heap_setCell_same w1 p 0 _ _ (.slice (some ⟨g, 0, none⟩) (tx.length + 1) cap1) hst1
  have hst3 := (hg3.block p (Array.getElem?_eq_some_iff.1 hst2).1 (fun e => h.pb2 (Option.some.inj e))).trans hst2
  constructor
  · simp [World.cell?, hst3]
  · simp [World.frozen?, hst3]

set_option maxRecDepth 20000 in
set_option maxHeartbeats 2000000 in
theorem enter_any (h : TAt F p v0 v1 b2 b3 tx mg lg w) (s : ByteArray) (hs : s.size ≤ 1000) (hn : s ∉ tx) (hl : tx.length ≤ 100000) (hlg : 0 ≤ lg ∧ lg ≤ 1000) (lg' : Int) (hlg' : lg' = if lg ≤ s.size then (s.size : Int) else lg) :
    Calls Try.prog 30 #[.pointer (some ⟨p, 0, none⟩), .string s] w fun e w' => e = .returned (.int .i64 tx.length) ∧ ∃ F' v0', TAt F' p v0' v1 b2 b3 (tx ++ [s]) mg lg' w' ∧ FrL F w w' ∧ NwL w F F' := by
  obtain ⟨i0, hi, hz0, hz1, hz2⟩ := info_parts info_string
  obtain ⟨ao, cap, rfl⟩ := row_form h.r0
  obtain ⟨c0, c1, c2, c3, c4⟩ := h.cells
  have hfp := h.fr
  have hlt := h.lt
  have hpne : some p ≠ (Value.slice ao tx.length cap).ownBlock := fun e => h.pne0 e.symm
  have hrow := h.r0
  have H := hide h
  have HLG := hide hlg'
  clear h hlg'
  go_enter Try.func30, Try.ntmps30
  go_wp2_with (first | (at_builtin; refine wpList_append_lies _ rfl _ _ _ rfl 0 9 i0 _ 1 16 Try.underlying24 hi hz0 hz1 hz2 rfl (by omega) _ tx.length (tx.map Value.string) rfl (hrow.alloc _) _ 1 _ [.string s] rfl rfl (World.news_of_block (heap_alloc_new w _)) (by simp [Value.oneCell']) (by omega) (by unfold maxLen; omega) (by omega) (by omega) (w.heap.size + 1) (by simp) ?_; intro g cap1 w1 hown1 hgrow1 hat1 hlt1; have hgrow : (w.alloc (.cells #[.string s] 9)).grownBy w1 (Value.slice ao tx.length cap).ownBlock := hgrow1; have hat : (Value.slice ao tx.length cap).ownBlock = some g ∨ g = w.heap.size + 1 := hat1; clear hgrow1 hat1; have d0 : w1.cell? ⟨p, 0, none⟩ = some (.slice ao tx.length cap) := (hgrow.cell_far ⟨p, 0, none⟩ (by simp; omega) hpne).trans ((cell_old w _ hlt).trans c0); have d2 : w1.cell? ⟨p, 2, none⟩ = some (.map (some b2)) := (hgrow.cell_far ⟨p, 2, none⟩ (by simp; omega) hpne).trans ((cell_old w _ hlt).trans c2); have d4 : w1.cell? ⟨p, 4, none⟩ = some (.int .i64 lg) := (hgrow.cell_far ⟨p, 4, none⟩ (by simp; omega) hpne).trans ((cell_old w _ hlt).trans c4); have df : ∀ o, w1.frozen? ⟨p, o, none⟩ = false := fun o => (hgrow.frozen_far ⟨p, o, none⟩ (by simp; omega) hpne).trans ((frozen_old w _ hlt).trans (hfp o)); have hmk := hide (H.out.enter_map g cap1 hgrow)) | (at_mapUpdate; refine wpList_mapUpdate_K _ rfl _ _ _ _ rfl 9 3 keyS Try.underlying67 Try.underlying3 0 b2 (tx.map sk) rfl hmk.out _ _ rfl (sk_key (by unfold maxLen; omega)) (fun e => hn (sk_mem.1 e)) (by rw [List.length_map]; unfold maxLen; omega) _ rfl (by simp) (WalkArith.wf_i64 (by omega)) ?_; intro w3 hm3 hg3; obtain ⟨e4, ef⟩ := H.out.enter_cell4 g cap1 hgrow hg3))
  all_goals
    obtain ⟨hT, hFr, hNw⟩ := H.out.entered s _ hown1 hgrow hat rfl hm3 hg3 lg'
    have hl2 : lg' = lg' := rfl
    first
    | (have e : lg' = (s.size : Int) := by rw [HLG.out]; split <;> omega
       rw [e] at hT hFr ⊢
       go_ret
       exact ⟨rfl, _, ⟨_, hT⟩, hFr, hNw⟩)
    | (have e : lg' = lg := by rw [HLG.out]; split <;> omega
       rw [e] at hT hFr ⊢
       go_ret
       exact ⟨rfl, _, ⟨_, hT⟩, hFr, hNw⟩)
end

end Go.Proofs.Ytadbffphmmkljaa
