/- Contracts of the document's answer for tokens: New. -/
import Derived.Test.YtlfffalfnnmliaaTkV
namespace Go.Proofs.Ytlfffalfnnmliaa
open Go.RowKit Go.Maps
set_option linter.unusedVariables false
set_option linter.unusedSimpArgs false
attribute [local go_sem ↓] Go.wp_at_zero Go.wp_at_succ

/-- Boxes of a table. -/
def Box2 (b : Nat) (vb vm : Value) (W : World) : Prop := W.heap[b]? = some (.cells #[vb, vm] 31 (0, 0))
theorem Box2.lt {b : Nat} {vb vm : Value} {W : World} (h : Box2 b vb vm W) : b < W.heap.size := (Array.getElem?_eq_some_iff.1 h).1
theorem Box2.kept {b : Nat} {vb vm : Value} {W W' : World} (h : Box2 b vb vm W) (hb : Below W.heap.size W W') : Box2 b vb vm W' := (hb.block _ h.lt).trans h
theorem Box2.cells {b : Nat} {vb vm : Value} {W : World} (h : Box2 b vb vm W) : W.cell? ⟨b, 0, none⟩ = some vb ∧ W.cell? ⟨b, 1, none⟩ = some vm ∧ ∀ o, W.frozen? ⟨b, o, none⟩ = false := by
  unfold Box2 at h
  simp [World.cell?, World.frozen?, h]
theorem RT.alloc {vb vm : Value} {tx : List ByteArray} {mg : List (Int × Int)} {w : World} (h : RT vb vm tx mg w) (o : Obj) : RT vb vm tx mg (w.alloc o) := ⟨h.rb.alloc _, h.rm.alloc _, h.nl⟩

theorem below_drew' (w : World) : Below w.heap.size w w.drew := (Below.refl _ _).drew
theorem below_via' {a b c : World} (h : Below b.heap.size b c) (k : Below a.heap.size a b) : Below a.heap.size a c := k.trans (h.mono k.size)

theorem Box2.set {b : Nat} {vb vm : Value} {W : World} (h : Box2 b vb vm W) (u0 u1 : Value) : Box2 b u0 u1 ((W.setCell ⟨b, 0, none⟩ u0).setCell ⟨b, 1, none⟩ u1) := by
  unfold Box2 at *
  have h1 := heap_setCell_same W b 0 _ _ u0 h
  have h2 := heap_setCell_same _ b 1 _ _ u1 h1
  simpa using h2

theorem rnew_step {w w2 W3 : World} {b5 q : Nat} {vb vm vb' vm' : Value} {tx : List ByteArray} {mg : List (Int × Int)} (hT : RT vb' vm' tx mg w2) (hx : Box2 w.heap.size (.slice none 0 0) (.slice none 0 0) w2) (hy : Box2 b5 vb vm w2) (hF : FrL [q] w2 W3) (hq : w.heap.size < q) (hqb : q ≠ b5) (hb : w.heap.size < b5)
    (h1 : ∀ k, vb'.ownBlock = some k → k ≠ b5 ∧ w.heap.size < k ∧ k ≠ q) (h2 : ∀ k, vm'.ownBlock = some k → k ≠ b5 ∧ w.heap.size < k ∧ k ≠ q) (hB : Below w.heap.size w w2) :
    Box2 w.heap.size (.slice none 0 0) (.slice none 0 0) ((W3.setCell ⟨b5, 0, none⟩ vb').setCell ⟨b5, 1, none⟩ vm') ∧ Box2 b5 vb' vm' ((W3.setCell ⟨b5, 0, none⟩ vb').setCell ⟨b5, 1, none⟩ vm') ∧ RT vb' vm' tx mg ((W3.setCell ⟨b5, 0, none⟩ vb').setCell ⟨b5, 1, none⟩ vm') ∧ (∀ k, vb'.ownBlock = some k → k ≠ b5 ∧ w.heap.size < k) ∧ (∀ k, vm'.ownBlock = some k → k ≠ b5 ∧ w.heap.size < k) ∧ Below w.heap.size w ((W3.setCell ⟨b5, 0, none⟩ vb').setCell ⟨b5, 1, none⟩ vm') := by
  have hF2 : FrL [q, b5] w2 ((W3.setCell ⟨b5, 0, none⟩ vb').setCell ⟨b5, 1, none⟩ vm') := ((hF.mono (G := [q, b5]) (fun k hk => by simp at hk; simp [hk])).set (by simp) _).set (by simp) _
  have hy3 : Box2 b5 vb vm W3 := (hF.block _ hy.lt (by simp; omega)).trans hy
  refine ⟨(hF2.block _ hx.lt (by simp; omega)).trans hx, hy3.set _ _, hT.keptF hF2 (fun k e => ?_) (fun k e => ?_), fun k e => ⟨(h1 k e).1, (h1 k e).2.1⟩, fun k e => ⟨(h2 k e).1, (h2 k e).2.1⟩, hB.trans (hF2.below hB.size (fun k hk => ?_))⟩
  · have := h1 k e; simp; omega
  · have := h2 k e; simp; omega
  · simp at hk; omega

/-- The return of an error: the boxes' table goes into the answer's box. -/
theorem rnew_out {w w2 W3 : World} {b5 q : Nat} {vb vm : Value} {tx : List ByteArray} {mg : List (Int × Int)} (hT : RT vb vm tx mg w2) (hF : FrL [q] w2 W3) (hq : w.heap.size < q)
    (h1 : ∀ k, vb.ownBlock = some k → w.heap.size < k ∧ k ≠ q) (h2 : ∀ k, vm.ownBlock = some k → w.heap.size < k ∧ k ≠ q) (hB : Below w.heap.size w w2) :
    RT vb vm tx mg ((W3.setCell ⟨w.heap.size, 0, none⟩ vb).setCell ⟨w.heap.size, 1, none⟩ vm) ∧ Below w.heap.size w ((W3.setCell ⟨w.heap.size, 0, none⟩ vb).setCell ⟨w.heap.size, 1, none⟩ vm) := by
  have hF2 : FrL [q, w.heap.size] w2 ((W3.setCell ⟨w.heap.size, 0, none⟩ vb).setCell ⟨w.heap.size, 1, none⟩ vm) := ((hF.mono (G := [q, w.heap.size]) (fun k hk => by simp at hk; simp [hk])).set (by simp) _).set (by simp) _
  refine ⟨hT.keptF hF2 (fun k e => ?_) (fun k e => ?_), hB.trans (hF2.below hB.size (fun k hk => ?_))⟩
  · have := h1 k e; simp; omega
  · have := h2 k e; simp; omega
  · simp at hk; omega

set_option maxRecDepth 20000 in
set_option maxHeartbeats 8000000 in
theorem rnew_any (ao : Option Addr) (n cap : Nat) (M : List (Int × Int)) (w : World) (hM : ReadsM w ao n M) (hn : n ≤ 1000000) :
    Calls Try.prog 43 #[.slice ao n cap] w fun e w' =>
      ∃ (k : Nat) (c : Int) (vb vm : Value), e = .returned (.tuple #[.agg #[vb, vm], .int .i64 k, .int .i64 c]) ∧ (∀ j, j < k → addC (stT M j).1 (gm M j) = 0) ∧ ((k < n ∧ c = addC (stT M k).1 (gm M k) ∧ c ≠ 0) ∨ (k = n ∧ c = 0)) ∧ RT vb vm (stT M k).1 (stT M k).2 w' ∧ Below w.heap.size w w' := by
  go_enter Try.func43, Try.ntmps43
  go_wp2_with fail
  refine (rbegin_any _).mono ?_
  rintro e w1 ⟨⟨vb, rfl, hT, hvB⟩, hB⟩
  have hx0 : Box2 w.heap.size (.slice none 0 0) (.slice none 0 0) (w.alloc (.cells #[.slice none 0 0, .slice none 0 0] 31)) := heap_alloc_new w _
  have hx1 := hx0.kept hB
  obtain ⟨a1, c1, hv1⟩ := row_form hT.rb
  subst hv1
  have hba : Below w1.heap.size w1 (w1.alloc (.cells #[.slice a1 (tb 256).length c1, .slice none 0 0] 31)) := low1 _ _
  have hx2 := hx1.kept hba
  have hy2 : Box2 w1.heap.size (.slice a1 (tb 256).length c1) (.slice none 0 0) (w1.alloc (.cells #[.slice a1 (tb 256).length c1, .slice none 0 0] 31)) := heap_alloc_new w1 _
  have hT2 := hT.kept hba
  have hB0 : Below w.heap.size w (w.alloc (.cells #[.slice none 0 0, .slice none 0 0] 31)) := low1 _ _
  have hB2 := (hB0.trans (hB.mono hB0.size)).trans (hba.mono (hB0.trans (hB.mono hB0.size)).size)
  have hlt1 := hx1.lt
  have hvb : ∀ k, (Value.slice a1 (tb 256).length c1).ownBlock = some k → k ≠ w1.heap.size ∧ w.heap.size < k := fun k e => by
    have h1 := hvB k e
    have h2 := (hT.rb.lt k e).2
    simp at h1
    omega
  have hvm : ∀ k, (Value.slice none 0 0).ownBlock = some k → k ≠ w1.heap.size ∧ w.heap.size < k := fun k e => by cases e
  have HH := hide (And.intro hx2 (And.intro hy2 (And.intro hT2 (And.intro hvb (And.intro hvm hB2)))))
  generalize hb5 : w1.heap.size = b5 at *
  generalize hl : (tb 256).length = l256 at *
  clear hx0 hx1 hba hx2 hy2 hT2 hB0 hB2 hvb hvm hvB hT hB hl
  go_wp2
  go_loopw [6] (fun i wr => ∃ (k : Nat) (vb vm : Value), i = .int .i64 k ∧ k ≤ n ∧ Hid (∀ j, j < k → addC (stT M j).1 (gm M j) = 0) ∧ Hid (Box2 w.heap.size (.slice none 0 0) (.slice none 0 0) wr ∧ Box2 b5 vb vm wr ∧ RT vb vm (stT M k).1 (stT M k).2 wr ∧ (∀ k, vb.ownBlock = some k → k ≠ b5 ∧ w.heap.size < k) ∧ (∀ k, vm.ownBlock = some k → k ≠ b5 ∧ w.heap.size < k) ∧ Below w.heap.size w wr)) (fun i _ => n - (intOf i).toNat)
  case atStart => exact ⟨0, _, _, rfl, by omega, hide (fun j hj => by omega), hide HH.out⟩
  case round =>
    obtain ⟨k, vb, vm, rfl, hk, hOK, HI⟩ := hrel
    obtain ⟨hx, hy, hT, hvb, hvm, hB⟩ := HI.out
    clear HI HH
    obtain ⟨a1, c1, hv1⟩ := row_form hT.rb
    obtain ⟨a2, c2, hv2⟩ := row_form hT.rm
    have htok := stT_tok M k
    have HST := hide (show stT M (k + 1) = (nextT (stT M k).1 (gm M k), nextM (stT M k).1 (stT M k).2 (gm M k)) from rfl)
    have HT := hide hT
    have HX := hide hx
    have HY := hide hy
    have HVB := hide hvb
    have HVM := hide hvm
    have HBB := hide hB
    obtain ⟨y0, y1, yf⟩ := hy.cells
    obtain ⟨x0, x1, xf⟩ := hx.cells
    have hylt := hy.lt
    have hxlt := hx.lt
    by_cases hlt : k < n
    · have hA1 := hM.kept hB
      obtain ⟨b, off, rfl, hbw, k0, k1⟩ := hA1.at hlt
      have hk0 : (0 : Int) ≤ (k : Int) := by omega
      have hk1 : (k : Int) < (n : Int) := by omega
      have HTK := hide htok
      generalize hmk : gm M k = m at k0 k1 HST
      have HMK := hide hmk
      clear hmk hT hA1 htok hx hy hvb hvm hB
      generalize htx : (stT M k).1 = tx at HST HT HTK hv1
      generalize hmg : (stT M k).2 = mg at HST HT HTK hv2
      have HTX := hide htx
      have HMG := hide hmg
      clear htx hmg
      subst hv1 hv2
      have hA0 : ∀ o, (wr.alloc o).cell? ⟨b, off + k * 2, none⟩ = some (.int .i64 m.1) := fun o => (cell_old wr _ hbw).trans k0
      have hA1 : ∀ o, (wr.alloc o).cell? ⟨b, off + k * 2 + 1, none⟩ = some (.int .i64 m.2) := fun o => (cell_old wr _ hbw).trans k1
      have hA2 : ∀ o, (wr.alloc o).cell? ⟨b5, 0, none⟩ = some (.slice a1 tx.length c1) := fun o => (cell_old wr _ hylt).trans y0
      have hA3 : ∀ o, (wr.alloc o).cell? ⟨b5, 1, none⟩ = some (.slice a2 mg.length c2) := fun o => (cell_old wr _ hylt).trans y1
      go_wp2
      go_region_with (go_at_call 40; refine (radd_any (by first | exact HT.out.drew | exact (HT.out.alloc _).drew | exact HT.out.drew.alloc _ | exact HT.out) HTK.out m).mono ?_; rintro e w2 ⟨⟨vb', vm', rfl, hT2, hvb2, hvm2⟩, hB2⟩; obtain ⟨a3, c3, hv3⟩ := row_form hT2.rb; obtain ⟨a4, c4, hv4⟩ := row_form hT2.rm; subst hv3 hv4; unfold rtR; generalize hcc : addC tx m = cc; have HCC := hide hcc; clear hcc; first | (have hq : Box2 wr.heap.size (.slice none 0 0) (.slice none 0 0) w2 := Box2.kept (W := (wr.alloc (.cells #[.slice none 0 0, .slice none 0 0] 31)).drew) (heap_alloc_new wr _) hB2; have hy2 : Box2 b5 (.slice a1 tx.length c1) (.slice a2 mg.length c2) w2 := Box2.kept (W := (wr.alloc (.cells #[.slice none 0 0, .slice none 0 0] 31)).drew) (Box2.kept HY.out (low1 wr _).drew) hB2; have hx2 : Box2 w.heap.size (.slice none 0 0) (.slice none 0 0) w2 := Box2.kept (W := (wr.alloc (.cells #[.slice none 0 0, .slice none 0 0] 31)).drew) (Box2.kept HX.out (low1 wr _).drew) hB2; obtain ⟨z0, z1, zf⟩ := hq.cells) | (have hy2 : Box2 b5 (.slice a1 tx.length c1) (.slice a2 mg.length c2) w2 := Box2.kept (W := wr.drew) HY.out hB2; have hx2 : Box2 w.heap.size (.slice none 0 0) (.slice none 0 0) w2 := Box2.kept (W := wr.drew) HX.out hB2))
      all_goals
        first
        | have hlow : Below wr.heap.size wr w2 := below_via' hB2 (below_drew' wr)
        | have hlow : Below wr.heap.size wr w2 := below_via' hB2 (low1 wr _).drew
        obtain ⟨y0', y1', yf'⟩ := hy2.cells
        have n1 : wr.heap.size ≠ b5 := by omega
        have n2 : b5 ≠ wr.heap.size := by omega
        have hz2 := hlow.size
        have n3 : w2.heap.size ≠ b5 := by omega
        have n4 : b5 ≠ w2.heap.size := by omega
        have n5 : w.heap.size ≠ b5 := by omega
        have n6 : b5 ≠ w.heap.size := by omega
        have n7 : w.heap.size ≠ wr.heap.size := by omega
        have n8 : wr.heap.size ≠ w.heap.size := by omega
        have n9 : w.heap.size ≠ w2.heap.size := by omega
        have n10 : w2.heap.size ≠ w.heap.size := by omega
        obtain ⟨x0', x1', xf'⟩ := hx2.cells
        have e0 : ∀ o, (w2.alloc o).cell? ⟨b5, 0, none⟩ = some (.slice a1 tx.length c1) := fun o => (hy2.kept (low1 w2 o)).cells.1
        have e1 : ∀ o, (w2.alloc o).cell? ⟨b5, 1, none⟩ = some (.slice a2 mg.length c2) := fun o => (hy2.kept (low1 w2 o)).cells.2.1
        have ef : ∀ o q, (w2.alloc o).frozen? ⟨b5, q, none⟩ = false := fun o q => (hy2.kept (low1 w2 o)).cells.2.2 q
        have f0 : ∀ o, (w2.alloc o).cell? ⟨w.heap.size, 0, none⟩ = some (.slice none 0 0) := fun o => (hx2.kept (low1 w2 o)).cells.1
        have f1 : ∀ o, (w2.alloc o).cell? ⟨w.heap.size, 1, none⟩ = some (.slice none 0 0) := fun o => (hx2.kept (low1 w2 o)).cells.2.1
        have ff : ∀ o q, (w2.alloc o).frozen? ⟨w.heap.size, q, none⟩ = false := fun o q => (hx2.kept (low1 w2 o)).cells.2.2 q
        clear y0 y1 yf hA0 hA1 hA2 hA3 x0 x1 xf
        have hB3 := HBB.out.trans (hlow.mono HBB.out.size)
        have hTw := HT.out.kept hlow
        have o1 : ∀ k, (Value.slice a1 tx.length c1).ownBlock = some k → k < wr.heap.size := fun k e => (HT.out.rb.lt k e).2
        have o2 : ∀ k, (Value.slice a2 mg.length c2).ownBlock = some k → k < wr.heap.size := fun k e => (HT.out.rm.lt k e).2
        have o3 : ∀ k, (Value.slice a3 (nextT tx m).length c3).ownBlock = some k → k < w2.heap.size := fun k e => (hT2.rb.lt k e).2
        have o4 : ∀ k, (Value.slice a4 (nextM tx mg m).length c4).ownBlock = some k → k < w2.heap.size := fun k e => (hT2.rm.lt k e).2
        have HA := hide (And.intro hT2 (And.intro hvb2 (And.intro hvm2 (And.intro hB3 (And.intro hTw (And.intro o1 (And.intro o2 (And.intro o3 o4))))))))
        clear hT2 hvb2 hvm2 hB3 hTw o1 o2 o3 o4
        by_cases hc : cc = 0
        · subst hc
          go_wp2
          go_roundw
          case rel =>
            obtain ⟨hT2, hvb2, hvm2, hB3, hTw, o1, o2, o3, o4⟩ := HA.out
            refine ⟨k + 1, .slice a3 (nextT tx m).length c3, .slice a4 (nextM tx mg m).length c4, by go_num, by omega, hide (fun j hj => ?_), hide ?_⟩
            · by_cases e : j = k
              · rw [e, HMK.out, HTX.out]; exact HCC.out
              · exact hOK.out j (by omega)
            · rw [HST.out]
              first
              | exact rnew_step (q := w2.heap.size) hT2 hx2 hy2 (FrL.ofBelow (low1 w2 _)) (by omega) (by omega) (by omega) (fun q e => by have h1 := hvb2 q e; have h2 := o3 q e; rcases h1 with h1 | h1; · { have h3 := HVB.out q h1; have h4 := o1 q h1; omega }; · { simp at h1; omega }) (fun q e => by have h1 := hvm2 q e; have h2 := o4 q e; rcases h1 with h1 | h1; · { have h3 := HVM.out q h1; have h4 := o2 q h1; omega }; · { simp at h1; omega }) hB3
              | exact rnew_step (q := wr.heap.size) hT2 hx2 hy2 (((FrL.refl _ _).set (by simp) _).set (by simp) _) (by omega) (by omega) (by omega) (fun q e => by have h1 := hvb2 q e; have h2 := o3 q e; rcases h1 with h1 | h1; · { have h3 := HVB.out q h1; have h4 := o1 q h1; omega }; · { simp at h1; omega }) (fun q e => by have h1 := hvm2 q e; have h2 := o4 q e; rcases h1 with h1 | h1; · { have h3 := HVM.out q h1; have h4 := o2 q h1; omega }; · { simp at h1; omega }) hB3
          case measure => simp [intOf]; omega
        · have hcb : (cc != 0) = true := by simpa using hc
          go_wp2
          (try simp only [Exit.inBlock, Exit.then])
          obtain ⟨hT2, hvb2, hvm2, hB3, hTw, o1, o2, o3, o4⟩ := HA.out
          refine bodyPost_ret (v := .tuple #[.agg #[.slice a1 tx.length c1, .slice a2 mg.length c2], .int .i64 k, .int .i64 cc]) (by simp [results, Try.results43, go_sem, x0', x1', xf', f0, f1, ff, n7, n8, n9, n10]) rfl ?_
          refine ⟨k, cc, _, _, rfl, hOK.out, Or.inl ⟨hlt, by rw [HTX.out, HMK.out]; exact HCC.out.symm, hc⟩, ?_⟩
          rw [HTX.out, HMG.out]
          first
          | exact rnew_out (b5 := b5) (q := w2.heap.size) hTw (FrL.ofBelow (low1 w2 _)) (by omega) (fun q e => by have h3 := HVB.out q e; have h4 := o1 q e; omega) (fun q e => by have h3 := HVM.out q e; have h4 := o2 q e; omega) hB3
          | exact rnew_out (b5 := b5) (q := wr.heap.size) hTw (((FrL.refl _ _).set (by simp) _).set (by simp) _) (by omega) (fun q e => by have h3 := HVB.out q e; have h4 := o1 q e; omega) (fun q e => by have h3 := HVM.out q e; have h4 := o2 q e; omega) hB3
    · obtain rfl : n = k := by omega
      clear hT hvb hvm hx hy hB
      subst hv1 hv2
      go_wp2
      (try simp only [Exit.inBlock, Exit.then])
      refine bodyPost_ret (v := .tuple #[.agg #[.slice a1 (stT M n).1.length c1, .slice a2 (stT M n).2.length c2], .int .i64 n, .int .i64 0]) (by simp [results, Try.results43, go_sem, x0, x1, xf]) rfl ?_
      refine ⟨n, 0, _, _, rfl, hOK.out, Or.inr ⟨rfl, rfl⟩, ?_⟩
      exact rnew_out (b5 := b5) (q := wr.heap.size) HT.out (FrL.refl _ _) (by omega) (fun q e => by have h3 := HVB.out q e; have h4 := (HT.out.rb.lt q e).2; omega) (fun q e => by have h3 := HVM.out q e; have h4 := (HT.out.rm.lt q e).2; omega) HBB.out
end Go.Proofs.Ytlfffalfnnmliaa
