/- Contracts of the document's answer for tokens: Grow. TokenMakes: each token's bytes are its parents', and each two have a token where they are parents. Lists of merges that are held against others. -/
import Derived.Test.YtdpmjaelbjjanaaGreatZQa23
import Derived.BigQuiet
import Derived.Test.YtdpmjaelbjjanaaGreatZQa21
namespace Go.Proofs.YtdpmjaelbjjanaaGreat
open Go.RowKit Go.Maps
set_option linter.unusedVariables false
set_option linter.unusedSimpArgs false
attribute [local go_sem ↓] Go.wp_at_zero Go.wp_at_succ

/-- Merges that can be added one by one, and the table that they make. -/
structure Rch (tx : List ByteArray) (mg : List (Int × Int)) : Prop where
  st : stT mg mg.length = (tx, mg)
  ok : ∀ j, j < mg.length → addC (stT mg j).1 (gm mg j) = 0

theorem stT_left (mg : List (Int × Int)) (m : Int × Int) : ∀ j, j ≤ mg.length → stT (mg ++ [m]) j = stT mg j := by
  intro j
  induction j with
  | zero => intro _; rfl
  | succ j ih =>
    intro h
    have h1 := ih (by omega)
    show (nextT (stT (mg ++ [m]) j).1 (gm (mg ++ [m]) j), nextM (stT (mg ++ [m]) j).1 (stT (mg ++ [m]) j).2 (gm (mg ++ [m]) j)) = (nextT (stT mg j).1 (gm mg j), nextM (stT mg j).1 (stT mg j).2 (gm mg j))
    rw [h1, gm_left mg m (by omega)]

theorem Rch.begin : Rch (tb 256) [] := ⟨rfl, fun j hj => by simp at hj⟩
theorem Rch.add {tx : List ByteArray} {mg : List (Int × Int)} (h : Rch tx mg) {m : Int × Int} (hc : addC tx m = 0) : Rch (tx ++ [addS tx m]) (mg ++ [m]) := by
  refine ⟨?_, fun j hj => ?_⟩
  · have h1 := stT_left mg m mg.length (Nat.le_refl _)
    rw [h.st] at h1
    rw [List.length_append, List.length_singleton]
    show (nextT (stT (mg ++ [m]) mg.length).1 (gm (mg ++ [m]) mg.length), nextM (stT (mg ++ [m]) mg.length).1 (stT (mg ++ [m]) mg.length).2 (gm (mg ++ [m]) mg.length)) = _
    rw [h1, gm_last]
    unfold nextT nextM
    rw [if_pos hc, if_pos hc]
  · simp at hj
    by_cases e : j < mg.length
    · rw [stT_left mg m j (by omega), gm_left mg m e]; exact h.ok j e
    · obtain rfl : j = mg.length := by omega
      rw [stT_left mg m _ (by omega), gm_last, h.st]; exact hc
theorem Rch.next {tx : List ByteArray} {mg : List (Int × Int)} (h : Rch tx mg) (m : Int × Int) : Rch (nextT tx m) (nextM tx mg m) := by
  unfold nextT nextM
  by_cases hc : addC tx m = 0
  · rw [if_pos hc, if_pos hc]; exact h.add hc
  · rw [if_neg hc, if_neg hc]; exact h
theorem Rch.tok {tx : List ByteArray} {mg : List (Int × Int)} (h : Rch tx mg) : Tok tx mg := by
  have := stT_tok mg mg.length
  rw [h.st] at this
  exact this

def gi (l : List Int) (i : Nat) : Int := l.getD i 0
/-- Numbers of two bytes that came in lie at ao. -/
def ReadsH (w : World) (ao : Option Addr) (n : Nat) (U : List Int) : Prop :=
  U.length = n ∧ (∀ i, 0 ≤ gi U i ∧ gi U i < 65536) ∧ (n = 0 ∨ ∃ b off, ao = some ⟨b, off, none⟩ ∧ ∀ i, i < n → w.cell? ⟨b, off + i, none⟩ = some (.int .u16 (gi U i)))
theorem ReadsH.kept {w w' : World} {ao : Option Addr} {n : Nat} {U : List Int} (h : ReadsH w ao n U) (hb : Below w.heap.size w w') : ReadsH w' ao n U := by
  refine ⟨h.1, h.2.1, ?_⟩
  rcases h.2.2 with h | ⟨b, off, rfl, hc⟩
  · exact Or.inl h
  · exact Or.inr ⟨b, off, rfl, fun i hi => (hb.cell (World.block_lt_of_cell? w _ (hc i hi))).trans (hc i hi)⟩
theorem ReadsH.at {w : World} {ao : Option Addr} {n : Nat} {U : List Int} (h : ReadsH w ao n U) {i : Nat} (hi : i + 1 < n) :
    ∃ b off, ao = some ⟨b, off, none⟩ ∧ b < w.heap.size ∧ w.cell? ⟨b, off + i, none⟩ = some (.int .u16 (gi U i)) ∧ w.cell? ⟨b, off + (i + 1), none⟩ = some (.int .u16 (gi U (i + 1))) := by
  rcases h.2.2 with h | ⟨b, off, rfl, hc⟩
  · omega
  · exact ⟨b, off, rfl, World.block_lt_of_cell? w _ (hc i (by omega)), hc i (by omega), hc (i + 1) hi⟩

theorem radd_grow {vb vm : Value} {tx : List ByteArray} {mg : List (Int × Int)} {w : World} (h : RT vb vm tx mg w) (hk : Rch tx mg) (m1 m2 : Int) :
    Calls Tryz.prog 46 #[.agg #[vb, vm], .agg #[.int .i64 m1, .int .i64 m2]] w fun e w' => (∃ vb' vm' tx' mg' c, e = .returned (.tuple #[.agg #[vb', vm'], .int .i64 c]) ∧ Hid (Rch tx' mg') ∧ Hid (RT vb' vm' tx' mg' w') ∧ Hid (∀ k, vb'.ownBlock = some k → vb.ownBlock = some k ∨ w.heap.size ≤ k) ∧ Hid (∀ k, vm'.ownBlock = some k → vm.ownBlock = some k ∨ w.heap.size ≤ k)) ∧ Below w.heap.size w w' := by
  refine (radd_any h hk.tok (m1, m2)).mono ?_
  rintro e w3 ⟨⟨vb', vm', rfl, hT2, hvb2, hvm2⟩, hB2⟩
  exact ⟨⟨vb', vm', _, _, _, rfl, hide (hk.next _), hide hT2, hide hvb2, hide hvm2⟩, hB2⟩

/-- What holds at the head of Grow's loop. -/
def GrI (w : World) (b5 : Nat) (vb vm : Value) (tx : List ByteArray) (mg : List (Int × Int)) (wr : World) : Prop :=
  Box2 w.heap.size (.slice none 0 0) (.slice none 0 0) wr ∧ Box2 b5 vb vm wr ∧ RT vb vm tx mg wr ∧ (∀ k, vb.ownBlock = some k → k ≠ b5 ∧ w.heap.size < k) ∧ (∀ k, vm.ownBlock = some k → k ≠ b5 ∧ w.heap.size < k) ∧ Below w.heap.size w wr

set_option maxRecDepth 20000 in
set_option maxHeartbeats 8000000 in
theorem rgrowN_any (ao : Option Addr) (n cap : Nat) (U : List Int) (w : World) (hM : ReadsH w ao n U) (hn : n ≤ 1000000) :
    Calls Tryz.prog 18 #[.slice ao n cap] w fun e w' =>
      (∃ (tx : List ByteArray) (mg : List (Int × Int)) (vb vm : Value), e = .returned (.agg #[vb, vm]) ∧ Rch tx mg ∧ RT vb vm tx mg w' ∧ (∀ q, vb.ownBlock = some q → w.heap.size ≤ q) ∧ ∀ q, vm.ownBlock = some q → w.heap.size ≤ q) ∧ Below w.heap.size w w' := by
  go_enter Tryz.func18, Tryz.ntmps18
  go_wp2_with fail
  refine (rbegin_any _).mono ?_
  rintro e w1 ⟨⟨vb, rfl, hT, hvB⟩, hB⟩
  have hx0 : Box2 w.heap.size (.slice none 0 0) (.slice none 0 0) (w.alloc (.cells #[.slice none 0 0, .slice none 0 0] 34)) := heap_alloc_new w _
  have hx1 := hx0.kept hB
  obtain ⟨a1, c1, hv1⟩ := row_form hT.rb
  subst hv1
  have hba : Below w1.heap.size w1 (w1.alloc (.cells #[.slice a1 (tb 256).length c1, .slice none 0 0] 34)) := low1 _ _
  have hx2 := hx1.kept hba
  have hy2 : Box2 w1.heap.size (.slice a1 (tb 256).length c1) (.slice none 0 0) (w1.alloc (.cells #[.slice a1 (tb 256).length c1, .slice none 0 0] 34)) := heap_alloc_new w1 _
  have hT2 := hT.kept hba
  have hB0 : Below w.heap.size w (w.alloc (.cells #[.slice none 0 0, .slice none 0 0] 34)) := low1 _ _
  have hB2 := (hB0.trans (hB.mono hB0.size)).trans (hba.mono (hB0.trans (hB.mono hB0.size)).size)
  have hlt1 := hx1.lt
  have hvb : ∀ k, (Value.slice a1 (tb 256).length c1).ownBlock = some k → k ≠ w1.heap.size ∧ w.heap.size < k := fun k e => by
    have h1 := hvB k e
    have h2 := (hT.rb.lt k e).2
    simp at h1
    omega
  have hvm : ∀ k, (Value.slice none 0 0).ownBlock = some k → k ≠ w1.heap.size ∧ w.heap.size < k := fun k e => by cases e
  have HH : Hid (GrI w w1.heap.size _ _ _ _ _) := hide (And.intro hx2 (And.intro hy2 (And.intro hT2 (And.intro hvb (And.intro hvm hB2)))))
  generalize hb5 : w1.heap.size = b5 at *
  generalize hl : (tb 256).length = l256 at *
  clear hx0 hx1 hba hx2 hy2 hT2 hB0 hB2 hvb hvm hvB hT hB hl
  go_wp2
  go_loopw [4] (fun i wr => ∃ (k : Nat) (vb vm : Value) (tx : List ByteArray) (mg : List (Int × Int)), i = .int .i64 k ∧ k ≤ 61 ∧ Hid (Rch tx mg) ∧ Hid (GrI w b5 vb vm tx mg wr)) (fun i _ => 100 - (intOf i).toNat)
  case atStart => exact ⟨0, _, _, _, _, rfl, by omega, hide Rch.begin, HH⟩
  case round =>
    obtain ⟨k, vb, vm, tx, mg, rfl, hk, HR, HI⟩ := hrel
    obtain ⟨hx, hy, hT, hvb, hvm, hB⟩ := HI.out
    clear HI HH
    obtain ⟨a1, c1, hv1⟩ := row_form hT.rb
    obtain ⟨a2, c2, hv2⟩ := row_form hT.rm
    subst hv1 hv2
    have HT := hide hT
    have HX := hide hx
    have HY := hide hy
    have HVB := hide hvb
    have HVM := hide hvm
    have HBB := hide hB
    obtain ⟨y0, y1, yf⟩ := hy.cells
    obtain ⟨x0, x1, xf⟩ := hx.cells
    have hylt := hy.lt
    have hxlt := hx.lt
    have hN1 : (tx.length : Int) ≤ 1000 := by have := HR.out.tok.cap; omega
    have hN2 : (mg.length : Int) ≤ 1000 := by have := HR.out.tok.cap; have := HR.out.tok.len; omega
    have hN3 : (0 : Int) < (tx.length : Int) := by have := HR.out.tok.len; omega
    have hN4 : (0 : Int) ≤ (mg.length : Int) := by omega
    by_cases hlt : k + 1 < n ∧ k < 60
    · have hA1 := hM.kept hB
      have hr0 := hA1.2.1 k
      have hr1 := hA1.2.1 (k + 1)
      obtain ⟨b, off, rfl, hbw, k0, k1⟩ := hA1.at hlt.1
      generalize gi U k = u at *
      generalize gi U (k + 1) = v at *
      clear hT hA1 hx hy hvb hvm hB
      have g1 : (k : Int) + 1 < (n : Int) := by omega
      have g2 : (k : Int) < 60 := by omega
      have g3 : (0 : Int) ≤ (k : Int) := by omega
      have g4 : (k : Int) < (n : Int) := by omega
      clear hlt
      go_wp2
      go_quiet (fail)
      have hd : Below wr.heap.size wr (wr.drewN nq) := ⟨rfl, rfl, rfl, Nat.le_refl _, fun _ _ => rfl⟩
      have hT1 := HT.out.kept hd
      have hX1 := HX.out.kept hd
      have hY1 := HY.out.kept hd
      have hB1 := HBB.out.trans (hd.mono HBB.out.size)
      have hx1 : 0 ≤ u % ((tx.length : Int) + (mg.length : Int)) ∧ u % ((tx.length : Int) + (mg.length : Int)) < 2000 := ⟨Int.emod_nonneg _ (by omega), Int.lt_of_lt_of_le (Int.emod_lt_of_pos _ (by omega)) (by omega)⟩
      have hx2 : 0 ≤ v % ((tx.length : Int) + (mg.length : Int)) ∧ v % ((tx.length : Int) + (mg.length : Int)) < 2000 := ⟨Int.emod_nonneg _ (by omega), Int.lt_of_lt_of_le (Int.emod_lt_of_pos _ (by omega)) (by omega)⟩
      generalize u % ((tx.length : Int) + (mg.length : Int)) = x at *
      generalize v % ((tx.length : Int) + (mg.length : Int)) = y at *
      clear HT HX HY HBB y0 y1 yf x0 x1 xf k0 k1 hr0 hr1 hbw hM hylt hxlt
      generalize wr.drewN nq = w2 at *
      obtain ⟨y0, y1, yf⟩ := hY1.cells
      have HT := hide hT1
      have HX := hide hX1
      have HY := hide hY1
      have HBB := hide hB1
      clear hT1 hX1 hY1 hB1 hd
      go_wp2_with fail
      all_goals
        refine (radd_grow HT.out HR.out _ _).mono ?_
        rintro e w3 ⟨⟨vb', vm', tx', mg', c, rfl, HR2, HTA, HVA, HVC⟩, hB2⟩
        obtain ⟨a3, c3, hv3⟩ := row_form HTA.out.rb
        obtain ⟨a4, c4, hv4⟩ := row_form HTA.out.rm
        subst hv3 hv4
        have hz3 := hB2.size
        have hylt := HY.out.lt
        have hxlt := HX.out.lt
        have hY3 := HY.out.kept hB2
        have hX3 := HX.out.kept hB2
        have hB3 := HBB.out.trans (hB2.mono HBB.out.size)
        have hTw := HT.out.kept hB2
        have o1 : ∀ k, (Value.slice a1 tx.length c1).ownBlock = some k → k < w2.heap.size := fun k e => (HT.out.rb.lt k e).2
        have o2 : ∀ k, (Value.slice a2 mg.length c2).ownBlock = some k → k < w2.heap.size := fun k e => (HT.out.rm.lt k e).2
        have o3 : ∀ k, (Value.slice a3 tx'.length c3).ownBlock = some k → k < w3.heap.size := fun k e => (HTA.out.rb.lt k e).2
        have o4 : ∀ k, (Value.slice a4 mg'.length c4).ownBlock = some k → k < w3.heap.size := fun k e => (HTA.out.rm.lt k e).2
        have HA := hide (And.intro hY3 (And.intro hX3 (And.intro hB3 (And.intro hTw (And.intro o1 (And.intro o2 (And.intro o3 o4)))))))
        have n1 : w3.heap.size ≠ b5 := by omega
        have n2 : b5 ≠ w3.heap.size := by omega
        have e0 : ∀ o, (w3.alloc o).cell? ⟨b5, 0, none⟩ = some (.slice a1 tx.length c1) := fun o => (hY3.kept (low1 w3 o)).cells.1
        have e1 : ∀ o, (w3.alloc o).cell? ⟨b5, 1, none⟩ = some (.slice a2 mg.length c2) := fun o => (hY3.kept (low1 w3 o)).cells.2.1
        have ef : ∀ o q, (w3.alloc o).frozen? ⟨b5, q, none⟩ = false := fun o q => (hY3.kept (low1 w3 o)).cells.2.2 q
        clear hY3 hX3 hB3 hTw o1 o2 o3 o4 y0 y1 yf
        by_cases hc : c = 0
        · subst hc
          go_wp2
          go_roundw
          case rel =>
            obtain ⟨hy2, hx2, hB3, hTw, o1, o2, o3, o4⟩ := HA.out
            refine ⟨k + 2, .slice a3 tx'.length c3, .slice a4 mg'.length c4, tx', mg', by go_num, by omega, HR2, hide ?_⟩
            exact rnew_step (q := w3.heap.size) HTA.out hx2 hy2 (FrL.ofBelow (low1 w3 _)) (by omega) (by omega) (by omega) (fun q e => by have h1 := HVA.out q e; have h2 := o3 q e; rcases h1 with h1 | h1; · { have h3 := HVB.out q h1; have h4 := o1 q h1; omega }; · { omega }) (fun q e => by have h1 := HVC.out q e; have h2 := o4 q e; rcases h1 with h1 | h1; · { have h3 := HVM.out q h1; have h4 := o2 q h1; omega }; · { omega }) hB3
          case measure => simp [intOf]; omega
        · have hcb : (c == 0) = false := by simpa using hc
          go_wp2
          go_roundw
          case rel =>
            obtain ⟨hy2, hx2, hB3, hTw, o1, o2, o3, o4⟩ := HA.out
            refine ⟨k + 2, .slice a1 tx.length c1, .slice a2 mg.length c2, tx, mg, by go_num, by omega, HR, hide ?_⟩
            have hl := low1 w3 (.cells #[.slice a3 tx'.length c3, .slice a4 mg'.length c4] 34)
            exact ⟨hx2.kept hl, hy2.kept hl, hTw.kept hl, HVB.out, HVM.out, hB3.trans (hl.mono hB3.size)⟩
          case measure => simp [intOf]; omega
    · have HG : Hid (k + 1 < n ∧ k < 60 → False) := hide hlt
      by_cases g1 : k + 1 < n
      · have g2 : ¬ (k : Int) < 60 := fun e => hlt ⟨g1, by omega⟩
        have g3 : (k : Int) + 1 < (n : Int) := by omega
        clear hT hvb hvm hx hy hB hlt g1
        go_wp2
        (try simp only [Exit.inBlock, Exit.then])
        refine bodyPost_ret (v := .agg #[.slice a1 tx.length c1, .slice a2 mg.length c2]) (by simp [results, Tryz.results18, go_sem, x0, x1, xf]) rfl ?_
        obtain ⟨r1, r2⟩ := rnew_out (b5 := b5) (q := wr.heap.size) HT.out (FrL.refl _ _) (by omega) (fun q e => by have h3 := HVB.out q e; have h4 := (HT.out.rb.lt q e).2; omega) (fun q e => by have h3 := HVM.out q e; have h4 := (HT.out.rm.lt q e).2; omega) HBB.out
        exact ⟨⟨tx, mg, _, _, rfl, HR.out, r1, fun q e => Nat.le_of_lt (HVB.out q e).2, fun q e => Nat.le_of_lt (HVM.out q e).2⟩, r2⟩
      · have g3 : ¬ (k : Int) + 1 < (n : Int) := by omega
        clear hT hvb hvm hx hy hB hlt g1
        go_wp2
        (try simp only [Exit.inBlock, Exit.then])
        refine bodyPost_ret (v := .agg #[.slice a1 tx.length c1, .slice a2 mg.length c2]) (by simp [results, Tryz.results18, go_sem, x0, x1, xf]) rfl ?_
        obtain ⟨r1, r2⟩ := rnew_out (b5 := b5) (q := wr.heap.size) HT.out (FrL.refl _ _) (by omega) (fun q e => by have h3 := HVB.out q e; have h4 := (HT.out.rb.lt q e).2; omega) (fun q e => by have h3 := HVM.out q e; have h4 := (HT.out.rm.lt q e).2; omega) HBB.out
        exact ⟨⟨tx, mg, _, _, rfl, HR.out, r1, fun q e => Nat.le_of_lt (HVB.out q e).2, fun q e => Nat.le_of_lt (HVM.out q e).2⟩, r2⟩

end Go.Proofs.YtdpmjaelbjjanaaGreat

namespace Go.Proofs.YtdpmjaelbjjanaaGreat
open Go.RowKit Go.Maps
set_option linter.unusedVariables false
set_option linter.unusedSimpArgs false
attribute [local go_sem ↓] Go.wp_at_zero Go.wp_at_succ

end Go.Proofs.YtdpmjaelbjjanaaGreat

namespace Go.Proofs.YtdpmjaelbjjanaaGreat
open Go.RowKit Go.Maps
set_option linter.unusedVariables false
set_option linter.unusedSimpArgs false

end Go.Proofs.YtdpmjaelbjjanaaGreat
