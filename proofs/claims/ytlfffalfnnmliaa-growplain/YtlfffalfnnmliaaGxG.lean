/- Contracts of the document's layer 7: Import. GrowImports: the walk. -/
import Derived.Test.YtlfffalfnnmliaaGxA
import Derived.Test.YtlfffalfnnmliaaTkW
import Derived.Deep.RegionHeld3
import Derived.Test.YtlfffalfnnmliaaGxN
namespace Go.Proofs.Ytlfffalfnnmliaa
open Go.RowKit Go.Maps
set_option linter.unusedVariables false
set_option linter.unusedSimpArgs false
attribute [local go_sem ↓] Go.wp_at_zero Go.wp_at_succ

theorem two_set {W : World} {q b o : Nat} {u0 u1 v : Value} (h : b ≠ q) (hc : W.cell? ⟨b, o, none⟩ = some v) : ((W.setCell ⟨q, 0, none⟩ u0).setCell ⟨q, 1, none⟩ u1).cell? ⟨b, o, none⟩ = some v :=
  (World.cell?_setCell_other _ _ _ _ (fun e => h (by injection e with e1 _; exact e1.symm))).trans ((World.cell?_setCell_other _ _ _ _ (fun e => h (by injection e with e1 _; exact e1.symm))).trans hc)

set_option maxRecDepth 20000 in
set_option maxHeartbeats 8000000 in
theorem rimport_any (ao : Option Addr) (n cap : Nat) (l : List ByteArray) (w : World) (hR : RdT w ao n l) (hn : n ≤ 1000000) (hs : ∀ x ∈ l, x.size ≤ 100000) :
    Calls Try.prog 12 #[.slice ao n cap] w fun e w' =>
      ∃ (k : Nat) (c : Int) (vb vm : Value), e = .returned (.tuple #[.agg #[vb, vm], .int .i64 k, .int .i64 c]) ∧ (∀ j, j < k → imC l j = 0) ∧ ((k < n ∧ c = imC l k ∧ c ≠ 0) ∨ (k = n ∧ c = 0)) ∧ RT vb vm (imS l k).1 (imS l k).2 w' ∧ Below w.heap.size w w' := by
  have HR := hide hR
  have HSZ := hide hs
  clear hR hs
  go_enter Try.func12, Try.ntmps12
  go_wp2_with fail
  refine (rbegin_any _).mono ?_
  rintro e w1 ⟨⟨vb, rfl, hT, hvB⟩, hB⟩
  have hx0 : Box2 w.heap.size (.slice none 0 0) (.slice none 0 0) (w.alloc (.cells #[.slice none 0 0, .slice none 0 0] 31)) := heap_alloc_new w _
  have hx1 := hx0.kept hB
  obtain ⟨a1, c1, hv1⟩ := row_form hT.rb
  subst hv1
  have hba : Below w1.heap.size w1 (w1.alloc (.cells #[.slice a1 (tb 256).length c1, .slice none 0 0] 31)) := low1 _ _
  have hx2 := hx1.kept hba
  have hy2 : Box2 w1.heap.size (.slice a1 (tb 256).length c1) (.slice none 0 0) (w1.alloc (.cells #[.slice a1 (tb 256).length c1, .slice none 0 0] 31)) := heap_alloc_new w1 _
  have hT2 := hT.kept hba
  have hB0 : Below w.heap.size w (w.alloc (.cells #[.slice none 0 0, .slice none 0 0] 31)) := low1 _ _
  have hB2 := (hB0.trans (hB.mono hB0.size)).trans (hba.mono (hB0.trans (hB.mono hB0.size)).size)
  have hlt1 := hx1.lt
  have hvb : ∀ k, (Value.slice a1 (tb 256).length c1).ownBlock = some k → k ≠ w1.heap.size ∧ w.heap.size < k := fun k e => by
    have h1 := hvB k e
    have h2 := (hT.rb.lt k e).2
    simp at h1
    omega
  have hvm : ∀ k, (Value.slice none 0 0).ownBlock = some k → k ≠ w1.heap.size ∧ w.heap.size < k := fun k e => by cases e
  have HH := hide (And.intro hx2 (And.intro hy2 (And.intro hT2 (And.intro hvb (And.intro hvm hB2)))))
  generalize hb5 : w1.heap.size = b5 at *
  generalize hl : (tb 256).length = l256 at *
  clear hx0 hx1 hba hx2 hy2 hT2 hB0 hB2 hvb hvm hvB hT hB hl
  go_wp2
  go_loopw [6] (fun i wr => ∃ (k : Nat) (vb vm : Value), i = .int .i64 k ∧ k ≤ n ∧ Hid (∀ j, j < k → imC l j = 0) ∧ Hid (Box2 w.heap.size (.slice none 0 0) (.slice none 0 0) wr ∧ Box2 b5 vb vm wr ∧ RT vb vm (imS l k).1 (imS l k).2 wr ∧ (∀ k, vb.ownBlock = some k → k ≠ b5 ∧ w.heap.size < k) ∧ (∀ k, vm.ownBlock = some k → k ≠ b5 ∧ w.heap.size < k) ∧ Below w.heap.size w wr)) (fun i _ => n - (intOf i).toNat)
  case atStart => exact ⟨0, _, _, rfl, by omega, hide (fun j hj => by omega), hide HH.out⟩
  case round =>
    obtain ⟨k, vb, vm, rfl, hk, hOK, HI⟩ := hrel
    obtain ⟨hx, hy, hT, hvb, hvm, hB⟩ := HI.out
    clear HI HH
    obtain ⟨a1, c1, hv1⟩ := row_form hT.rb
    obtain ⟨a2, c2, hv2⟩ := row_form hT.rm
    have hrch := imS_rch l k
    have HT := hide hT
    have HX := hide hx
    have HY := hide hy
    have HVB := hide hvb
    have HVM := hide hvm
    have HBB := hide hB
    obtain ⟨y0, y1, yf⟩ := hy.cells
    obtain ⟨x0, x1, xf⟩ := hx.cells
    have hylt := hy.lt
    have hxlt := hx.lt
    by_cases hlt : k < n
    · have HST := hide (show imS l (k + 1) = (tkT (imS l k).1 (imS l k).2 (gT l k), tkM (imS l k).1 (imS l k).2 (gT l k)) from rfl)
      have HIC := hide (show imC l k = tkC (imS l k).1 (imS l k).2 (gT l k) from rfl)
      rcases (HR.out.kept hB).2 with h0 | ⟨b, off, rfl, hbw, hcc⟩
      · omega
      have k0 := hcc k hlt
      have hk0 : (0 : Int) ≤ (k : Int) := by omega
      have hk1 : (k : Int) < (n : Int) := by omega
      have HM : Hid (gT l k ∈ l) := hide (by unfold gT; rw [List.getD_eq_getElem?_getD, List.getElem?_eq_getElem (by rw [HR.out.1]; exact hlt)]; exact List.getElem_mem _)
      have HSX := hide (HSZ.out _ HM.out)
      have HTK := hide hrch.tok
      clear hT hrch hx hy hvb hvm hB hcc
      generalize gT l k = s at *
      generalize htx : (imS l k).1 = tx at HST HT HTK hv1 HIC
      generalize hmg : (imS l k).2 = mg at HST HT HTK hv2 HIC
      have HTX := hide htx
      have HMG := hide hmg
      clear htx hmg
      subst hv1 hv2
      have hml : mg.length ≤ 1000 := by have h1 := HTK.out.len; have h2 := HTK.out.cap; omega
      have htl : tx.length ≤ 2000 := by have h2 := HTK.out.cap; omega
      go_wp2
      go_region_held3 (fun W => W.cell? ⟨b5, 0, none⟩ = some (.slice a1 tx.length c1) ∧ W.cell? ⟨b5, 1, none⟩ = some (.slice a2 mg.length c2) ∧ W.cell? ⟨b, off + k, none⟩ = some (.string s)) (first | exact ⟨z0, z1, z2⟩ | exact ⟨y0, y1, k0⟩ | go_keep) (first
        | (go_at_call 39; refine (rall_any wr.drew HT.out.drew hml htl s HSX.out).mono ?_; rintro e wa ⟨⟨v, rfl, hv⟩, hba⟩; obtain ⟨av, cv, hvv⟩ := row_form hv; subst hvv; have hba2 : Below wr.heap.size wr wa := below_via' hba (below_drew' wr); have z0 := (hba2.cell hylt).trans y0; have z1 := (hba2.cell hylt).trans y1; have z2 := (hba2.cell hbw).trans k0))
      all_goals
        replace HT := hide (HT.out.kept hba2)
        replace HX := hide (HX.out.kept hba2)
        replace HY := hide (HY.out.kept hba2)
        replace HBB := hide (HBB.out.trans (hba2.mono HBB.out.size))
        have HRA := hide hv
        clear y0 y1 yf x0 x1 xf hylt hxlt hba hba2 hv k0 hbw z0 z1 z2
        have hylt := HY.out.lt
        have hxlt := HX.out.lt
        obtain ⟨y0, y1, yf⟩ := HY.out.cells
        obtain ⟨x0, x1, xf⟩ := HX.out.cells
        have HTC : Hid (tkC tx mg s = if (made mg tx.length s).length = 2 then addC tx (tkP tx mg s) else 2) := hide rfl
        have HTT : Hid (tkT tx mg s = if (made mg tx.length s).length = 2 then nextT tx (tkP tx mg s) else tx) := hide rfl
        have HTM : Hid (tkM tx mg s = if (made mg tx.length s).length = 2 then nextM tx mg (tkP tx mg s) else mg) := hide rfl
        have HTP : Hid (tkP tx mg s = (gI (made mg tx.length s) 0, gI (made mg tx.length s) 1)) := hide rfl
        generalize made mg tx.length s = A at *
        generalize tkP tx mg s = m at *
        by_cases h2 : A.length = 2
        · have HIC2 : Hid (imC l k = addC tx m) := hide (by rw [HIC.out, HTC.out, if_pos h2])
          have HST2 : Hid (imS l (k + 1) = (nextT tx m, nextM tx mg m)) := hide (by rw [HST.out, HTT.out, HTM.out, if_pos h2, if_pos h2])
          obtain ⟨g, cg, hvg, hgl, k0⟩ := row_at HRA.out (show 0 < A.length by omega)
          obtain ⟨g', cg', hvg', -, k1⟩ := row_at HRA.out (show 1 < A.length by omega)
          simp only [Value.slice.injEq] at hvg hvg'
          obtain ⟨rfl, _, rfl⟩ := hvg
          obtain ⟨hgg, _, _⟩ := hvg'
          simp at hgg
          subst hgg
          rw [show gI A 0 = m.1 by rw [HTP.out]] at k0
          rw [show gI A 1 = m.2 by rw [HTP.out]] at k1
          rw [h2]
          clear HTP HTC HTT HTM HRA HIC HST h2
          have hA0 : ∀ o, (wa.alloc o).cell? ⟨g, 0, none⟩ = some (.int .i64 m.1) := fun o => (cell_old wa _ hgl).trans k0
          have hA1 : ∀ o, (wa.alloc o).cell? ⟨g, 1, none⟩ = some (.int .i64 m.2) := fun o => (cell_old wa _ hgl).trans k1
          have hA2 : ∀ o, (wa.alloc o).cell? ⟨b5, 0, none⟩ = some (.slice a1 tx.length c1) := fun o => (cell_old wa _ hylt).trans y0
          have hA3 : ∀ o, (wa.alloc o).cell? ⟨b5, 1, none⟩ = some (.slice a2 mg.length c2) := fun o => (cell_old wa _ hylt).trans y1
          have HNB := hide (show b5 ≠ wa.heap.size by omega)
          have HNG := hide (show g ≠ wa.heap.size by omega)
          go_wp2
          go_region_held3 (fun W => W.cell? ⟨b5, 0, none⟩ = some (.slice a1 tx.length c1) ∧ W.cell? ⟨b5, 1, none⟩ = some (.slice a2 mg.length c2) ∧ W.cell? ⟨g, 0, none⟩ = some (.int .i64 m.1) ∧ W.cell? ⟨g, 1, none⟩ = some (.int .i64 m.2)) (first | exact ⟨u0, u1, u2, u3⟩ | exact ⟨two_set HNB.out u0, two_set HNB.out u1, two_set HNG.out u2, two_set HNG.out u3⟩ | exact ⟨y0, y1, k0, k1⟩ | exact ⟨hA2 _, hA3 _, hA0 _, hA1 _⟩ | go_keep) (first
            | (go_at_call 40; refine (radd_any (by first | exact HT.out.drew | exact (HT.out.alloc _).drew | exact HT.out.drew.alloc _ | exact HT.out) HTK.out m).mono ?_; rintro e w2 ⟨⟨vb', vm', rfl, hT2, hvb2, hvm2⟩, hB2⟩; obtain ⟨a3, c3, hv3⟩ := row_form hT2.rb; obtain ⟨a4, c4, hv4⟩ := row_form hT2.rm; subst hv3 hv4; unfold rtR; generalize hcc : addC tx m = cc; have HCC := hide hcc; clear hcc; (first | (have hq : Box2 wa.heap.size (.slice none 0 0) (.slice none 0 0) w2 := Box2.kept (W := (wa.alloc (.cells #[.slice none 0 0, .slice none 0 0] 31)).drew) (heap_alloc_new wa _) hB2; have hy2 : Box2 b5 (.slice a1 tx.length c1) (.slice a2 mg.length c2) w2 := Box2.kept (W := (wa.alloc (.cells #[.slice none 0 0, .slice none 0 0] 31)).drew) (Box2.kept HY.out (low1 wa _).drew) hB2; have hx2 : Box2 w.heap.size (.slice none 0 0) (.slice none 0 0) w2 := Box2.kept (W := (wa.alloc (.cells #[.slice none 0 0, .slice none 0 0] 31)).drew) (Box2.kept HX.out (low1 wa _).drew) hB2; have hlow : Below wa.heap.size wa w2 := below_via' hB2 (low1 wa _).drew; obtain ⟨z0, z1, zf⟩ := hq.cells) | (have hy2 : Box2 b5 (.slice a1 tx.length c1) (.slice a2 mg.length c2) w2 := Box2.kept (W := wa.drew) HY.out hB2; have hx2 : Box2 w.heap.size (.slice none 0 0) (.slice none 0 0) w2 := Box2.kept (W := wa.drew) HX.out hB2; have hlow : Below wa.heap.size wa w2 := below_via' hB2 (below_drew' wa))); have u0 := hy2.cells.1; have u1 := hy2.cells.2.1; have u2 := (hlow.cell hgl).trans k0; have u3 := (hlow.cell hgl).trans k1))
          all_goals
            obtain ⟨y0', y1', yf'⟩ := hy2.cells
            have n1 : wa.heap.size ≠ b5 := by omega
            have n2 : b5 ≠ wa.heap.size := by omega
            have hz2 := hlow.size
            have n3 : w2.heap.size ≠ b5 := by omega
            have n4 : b5 ≠ w2.heap.size := by omega
            have n5 : w.heap.size ≠ b5 := by omega
            have n6 : b5 ≠ w.heap.size := by omega
            have n7 : w.heap.size ≠ wa.heap.size := by omega
            have n8 : wa.heap.size ≠ w.heap.size := by omega
            have n9 : w.heap.size ≠ w2.heap.size := by omega
            have n10 : w2.heap.size ≠ w.heap.size := by omega
            obtain ⟨x0', x1', xf'⟩ := hx2.cells
            have e0 : ∀ o, (w2.alloc o).cell? ⟨b5, 0, none⟩ = some (.slice a1 tx.length c1) := fun o => (hy2.kept (low1 w2 o)).cells.1
            have e1 : ∀ o, (w2.alloc o).cell? ⟨b5, 1, none⟩ = some (.slice a2 mg.length c2) := fun o => (hy2.kept (low1 w2 o)).cells.2.1
            have ef : ∀ o q, (w2.alloc o).frozen? ⟨b5, q, none⟩ = false := fun o q => (hy2.kept (low1 w2 o)).cells.2.2 q
            have f0 : ∀ o, (w2.alloc o).cell? ⟨w.heap.size, 0, none⟩ = some (.slice none 0 0) := fun o => (hx2.kept (low1 w2 o)).cells.1
            have f1 : ∀ o, (w2.alloc o).cell? ⟨w.heap.size, 1, none⟩ = some (.slice none 0 0) := fun o => (hx2.kept (low1 w2 o)).cells.2.1
            have ff : ∀ o q, (w2.alloc o).frozen? ⟨w.heap.size, q, none⟩ = false := fun o q => (hx2.kept (low1 w2 o)).cells.2.2 q
            clear y0 y1 yf hA0 hA1 hA2 hA3 x0 x1 xf
            have hB3 := HBB.out.trans (hlow.mono HBB.out.size)
            have hTw := HT.out.kept hlow
            have o1 : ∀ k, (Value.slice a1 tx.length c1).ownBlock = some k → k < wa.heap.size := fun k e => (HT.out.rb.lt k e).2
            have o2 : ∀ k, (Value.slice a2 mg.length c2).ownBlock = some k → k < wa.heap.size := fun k e => (HT.out.rm.lt k e).2
            have o3 : ∀ k, (Value.slice a3 (nextT tx m).length c3).ownBlock = some k → k < w2.heap.size := fun k e => (hT2.rb.lt k e).2
            have o4 : ∀ k, (Value.slice a4 (nextM tx mg m).length c4).ownBlock = some k → k < w2.heap.size := fun k e => (hT2.rm.lt k e).2
            have HA := hide (And.intro hT2 (And.intro hvb2 (And.intro hvm2 (And.intro hB3 (And.intro hTw (And.intro o1 (And.intro o2 (And.intro o3 o4))))))))
            clear hT2 hvb2 hvm2 hB3 hTw o1 o2 o3 o4
            by_cases hc : cc = 0
            · subst hc
              go_wp2
              go_roundw
              case rel =>
                obtain ⟨hT2, hvb2, hvm2, hB3, hTw, o1, o2, o3, o4⟩ := HA.out
                refine ⟨k + 1, .slice a3 (nextT tx m).length c3, .slice a4 (nextM tx mg m).length c4, by go_num, by omega, hide (fun j hj => ?_), hide ?_⟩
                · by_cases e : j = k
                  · rw [e, HIC2.out]; exact HCC.out
                  · exact hOK.out j (by omega)
                · rw [HST2.out]
                  first
                  | exact rnew_step (q := w2.heap.size) hT2 hx2 hy2 (FrL.ofBelow (low1 w2 _)) (by omega) (by omega) (by omega) (fun q e => by have h1 := hvb2 q e; have h2 := o3 q e; rcases h1 with h1 | h1; · { have h3 := HVB.out q h1; have h4 := o1 q h1; omega }; · { simp at h1; omega }) (fun q e => by have h1 := hvm2 q e; have h2 := o4 q e; rcases h1 with h1 | h1; · { have h3 := HVM.out q h1; have h4 := o2 q h1; omega }; · { simp at h1; omega }) hB3
                  | exact rnew_step (q := wa.heap.size) hT2 hx2 hy2 (((FrL.refl _ _).set (by simp) _).set (by simp) _) (by omega) (by omega) (by omega) (fun q e => by have h1 := hvb2 q e; have h2 := o3 q e; rcases h1 with h1 | h1; · { have h3 := HVB.out q h1; have h4 := o1 q h1; omega }; · { simp at h1; omega }) (fun q e => by have h1 := hvm2 q e; have h2 := o4 q e; rcases h1 with h1 | h1; · { have h3 := HVM.out q h1; have h4 := o2 q h1; omega }; · { simp at h1; omega }) hB3
              case measure => simp [intOf]; omega
            · have hcb : (cc != 0) = true := by simpa using hc
              go_wp2
              (try simp only [Exit.inBlock, Exit.then])
              obtain ⟨hT2, hvb2, hvm2, hB3, hTw, o1, o2, o3, o4⟩ := HA.out
              refine bodyPost_ret (v := .tuple #[.agg #[.slice a1 tx.length c1, .slice a2 mg.length c2], .int .i64 k, .int .i64 cc]) (by simp [results, Try.results12, go_sem, x0', x1', xf', f0, f1, ff, n7, n8, n9, n10]) rfl ?_
              refine ⟨k, cc, _, _, rfl, hOK.out, Or.inl ⟨hlt, by rw [HIC2.out]; exact HCC.out.symm, hc⟩, ?_⟩
              rw [HTX.out, HMG.out]
              first
              | exact rnew_out (b5 := b5) (q := w2.heap.size) hTw (FrL.ofBelow (low1 w2 _)) (by omega) (fun q e => by have h3 := HVB.out q e; have h4 := o1 q e; omega) (fun q e => by have h3 := HVM.out q e; have h4 := o2 q e; omega) hB3
              | exact rnew_out (b5 := b5) (q := wa.heap.size) hTw (((FrL.refl _ _).set (by simp) _).set (by simp) _) (by omega) (fun q e => by have h3 := HVB.out q e; have h4 := o1 q e; omega) (fun q e => by have h3 := HVM.out q e; have h4 := o2 q e; omega) hB3
        · have HIC2 : Hid (imC l k = 2) := hide (by rw [HIC.out, HTC.out, if_neg h2])
          have h2e : ((A.length : Int) != 2) = true := by simp; omega
          clear HTP HTC HTT HTM HRA HIC HST
          generalize A.length = N at *
          go_wp2
          (try simp only [Exit.inBlock, Exit.then])
          refine bodyPost_ret (v := .tuple #[.agg #[.slice a1 tx.length c1, .slice a2 mg.length c2], .int .i64 k, .int .i64 2]) (by simp [results, Try.results12, go_sem, x0, x1, xf]) rfl ?_
          refine ⟨k, 2, _, _, rfl, hOK.out, Or.inl ⟨hlt, by rw [HIC2.out], by decide⟩, ?_⟩
          rw [HTX.out, HMG.out]
          exact rnew_out (b5 := b5) (q := wa.heap.size) HT.out (FrL.refl _ _) (by omega) (fun q e => by have h3 := HVB.out q e; have h4 := (HT.out.rb.lt q e).2; omega) (fun q e => by have h3 := HVM.out q e; have h4 := (HT.out.rm.lt q e).2; omega) HBB.out
    · obtain rfl : n = k := by omega
      clear hT hvb hvm hx hy hB hrch
      subst hv1 hv2
      go_wp2
      (try simp only [Exit.inBlock, Exit.then])
      refine bodyPost_ret (v := .tuple #[.agg #[.slice a1 (imS l n).1.length c1, .slice a2 (imS l n).2.length c2], .int .i64 n, .int .i64 0]) (by simp [results, Try.results12, go_sem, x0, x1, xf]) rfl ?_
      refine ⟨n, 0, _, _, rfl, hOK.out, Or.inr ⟨rfl, rfl⟩, ?_⟩
      exact rnew_out (b5 := b5) (q := wr.heap.size) HT.out (FrL.refl _ _) (by omega) (fun q e => by have h3 := HVB.out q e; have h4 := (HT.out.rb.lt q e).2; omega) (fun q e => by have h3 := HVM.out q e; have h4 := (HT.out.rm.lt q e).2; omega) HBB.out
end Go.Proofs.Ytlfffalfnnmliaa

namespace Go.Proofs.Ytlfffalfnnmliaa
open Go.RowKit Go.Maps
set_option linter.unusedVariables false
set_option linter.unusedSimpArgs false
attribute [local go_sem ↓] Go.wp_at_zero Go.wp_at_succ

/-- A table, the document's in a box, and texts. -/
structure GiS (w : World) (q : Nat) (vb vm : Value) (tx : List ByteArray) (mg : List (Int × Int)) (p : Nat) (F : List Nat) (v0 v1 : Value) (b2 b3 : Nat) (ao : Option Addr) (n : Nat) (l : List ByteArray) (W : World) : Prop where
  T : TAt F p v0 v1 b2 b3 tx mg (lgs tx) W
  R : RT vb vm tx mg W
  X : Box2 q vb vm W
  L : RdT W ao n l
  B : Below w.heap.size w W
theorem GiS.next {w : World} {q : Nat} {vb vm : Value} {tx : List ByteArray} {mg : List (Int × Int)} {p : Nat} {F : List Nat} {v0 v1 : Value} {b2 b3 : Nat} {ao : Option Addr} {n : Nat} {l : List ByteArray} {W W' : World} (h : GiS w q vb vm tx mg p F v0 v1 b2 b3 ao n l W) (hb : Below W.heap.size W W') : GiS w q vb vm tx mg p F v0 v1 b2 b3 ao n l W' :=
  ⟨h.T.keptB hb, h.R.kept hb, h.X.kept hb, h.L.kept hb, h.B.trans (hb.mono h.B.size)⟩
theorem im_same {l : List ByteArray} {k1 k2 : Nat} (h1 : ∀ j, j < k1 → imC l j = 0) (h2 : ∀ j, j < k2 → imC l j = 0) (g1 : imC l k1 ≠ 0) (g2 : imC l k2 ≠ 0) : k1 = k2 := by
  rcases Nat.lt_trichotomy k1 k2 with h | h | h
  · exact absurd (h2 k1 h) g1
  · exact h
  · exact absurd (h1 k2 h) g2

theorem lmerges_same (w : World) (a1 a2 : Option Addr) (n c1 c2 : Nat) (A : List (Int × Int)) (ha : ReadsM w a1 n A) (hb : ReadsM w a2 n A) (hn : n ≤ 1000000) :
    Calls Try.prog 13 #[.slice a1 n c1, .slice a2 n c2] w fun e w' => e = .returned (.bool true) ∧ Below w.heap.size w w' :=
  (lmerges_any w a1 a2 n n c1 c2 A A ha hb hn).mono fun e w' ⟨he, hb⟩ => ⟨by rw [he, decide_eq_true (rfl : A = A)], hb⟩

set_option maxRecDepth 20000 in
set_option maxHeartbeats 8000000 in
theorem gimports_walk (ao : Option Addr) (n cap : Nat) (l : List ByteArray) (w : World) (hR : RdT w ao n l) (hn : n ≤ 9223372036854775807) :
    Calls Try.prog 3 #[.slice ao n cap] w fun e w' => e = .returned (.bool true) ∧ Below w.heap.size w w' := by
  have HF := hide (few_any w ao n cap l hR hn)
  have HR := hide hR
  clear hR
  go_enter Try.func3, Try.ntmps3
  go_wp2_with fail
  refine (unhide HF).mono ?_
  rintro e w0 ⟨hE, hw⟩
  obtain rfl := hw.symm
  clear hw HF
  rcases hE with ⟨rfl, hfew⟩ | ⟨rfl, -⟩
  rotate_left
  · go_wp2_with fail
    refine (awake7_any _).mono ?_
    rintro e w1 ⟨rfl, hb1⟩
    go_wp2
    go_ret
    exact ⟨rfl, hb1⟩
  have hn40 : n ≤ 40 := by rw [← HR.out.1]; exact hfew.1
  have HSZ : Hid (∀ x ∈ l, x.size ≤ 100000) := hide (fun x hx => by have := hfew.2 x hx; omega)
  clear hfew
  have HI := hide (import_any ao n cap l w HR.out (by omega) HSZ.out)
  go_wp2_with fail
  refine (unhide HI).mono ?_
  rintro e w1 ⟨hP, hb1⟩
  have HB1 := hide hb1
  have HJ := hide (rimport_any ao n cap l w1 (HR.out.kept hb1) (by omega) HSZ.out)
  clear HI hb1
  rcases hP with ⟨k, hkn, hok, hne, rfl⟩ | ⟨hok, p, F, v0, v1, b2, b3, rfl, hT, _⟩
  · have HOK := hide hok
    have HNE := hide hne
    clear hok hne
    go_wp2_with fail
    refine (unhide HJ).mono ?_
    rintro e w2 ⟨k2, c2, vb, vm, rfl, hok2, hcase, hRT, hb2⟩
    have hk2 : k2 = k ∧ c2 = imC l k := by
      rcases hcase with ⟨hlt, hc, hc0⟩ | ⟨hk2, _⟩
      · have := im_same HOK.out hok2 HNE.out (by rw [← hc]; exact hc0)
        subst this
        exact ⟨rfl, hc⟩
      · exact absurd (hok2 k (by omega)) HNE.out
    obtain ⟨rfl, rfl⟩ := hk2
    obtain ⟨a1, c1, hv1⟩ := row_form hRT.rb
    obtain ⟨a2, c2, hv2⟩ := row_form hRT.rm
    subst hv1 hv2
    generalize (imS l k2).1.length = N1 at *
    generalize (imS l k2).2.length = N2 at *
    have HB2 := hide (HB1.out.trans ((hb2.trans ((low1 w2 (.cells #[.slice a1 N1 c1, .slice a2 N2 c2] 31)).mono hb2.size)).mono HB1.out.size))
    clear hok2 hcase hRT hb2 HJ
    have hne := HNE.out
    generalize imC l k2 = cc at *
    have hcb : (cc != 0) = true := by simpa using hne
    clear hne HNE
    go_wp2_with fail
    generalize w2.alloc (.cells #[.slice a1 N1 c1, .slice a2 N2 c2] 31) = w3 at *
    refine (awake7_any _).mono ?_
    rintro e w4 ⟨rfl, hb4⟩
    go_wp2
    go_ret
    exact ⟨rfl, HB2.out.trans (hb4.mono HB2.out.size)⟩
  · have HOK := hide hok
    have HT := hide hT
    clear hok hT
    go_wp2_with fail
    refine (unhide HJ).mono ?_
    rintro e w2 ⟨k2, c2, vb, vm, rfl, hok2, hcase, hRT, hb2⟩
    have hk2 : k2 = n ∧ c2 = 0 := by
      rcases hcase with ⟨hlt, hc, hc0⟩ | h
      · exact absurd (HOK.out k2 hlt) (by rw [← hc]; exact hc0)
      · exact h
    obtain ⟨rfl, rfl⟩ := hk2
    have hll : l.length = k2 := HR.out.1
    have htx : (imS l k2).1.drop 256 = l := by
      rw [(imS_text l k2 (by omega) HOK.out).1, List.drop_left' (tb_len 256), ← hll, List.take_length]
    have hrch := imS_rch l k2
    have HKT := hide hrch.tok
    have hml : (imS l k2).2.length ≤ 1000 := by have h1 := hrch.tok.len; have h2 := hrch.tok.cap; omega
    obtain ⟨a1, c1, hv1⟩ := row_form hRT.rb
    obtain ⟨a2, c2, hv2⟩ := row_form hRT.rm
    subst hv1 hv2
    have HDR := hide htx
    have hla := low1 w2 (.cells #[.slice a1 (imS l k2).1.length c1, .slice a2 (imS l k2).2.length c2] 31)
    have hB2 := HB1.out.trans (hb2.mono HB1.out.size)
    have HS : Hid (GiS w w2.heap.size (.slice a1 (imS l k2).1.length c1) (.slice a2 (imS l k2).2.length c2) (imS l k2).1 (imS l k2).2 p F v0 v1 b2 b3 ao k2 l (w2.alloc (.cells #[.slice a1 (imS l k2).1.length c1, .slice a2 (imS l k2).2.length c2] 31))) := hide ⟨(HT.out.keptB hb2).keptB hla, hRT.kept hla, heap_alloc_new w2 _, (HR.out.kept hB2).kept hla, hB2.trans (hla.mono hB2.size)⟩
    clear hok2 hcase hRT hb2 HJ hla hB2 hrch htx HT HB1 hll
    generalize (imS l k2).1 = tx at *
    generalize (imS l k2).2 = mg at *
    go_wp2
    generalize w2.alloc (.cells #[.slice a1 tx.length c1, .slice a2 mg.length c2] 31) = w3 at *
    generalize w2.heap.size = q at *
    obtain ⟨y0, y1, yf⟩ := HS.out.X.cells
    have CM := hide (fun (W : World) (h : GiS w q (.slice a1 tx.length c1) (.slice a2 mg.length c2) tx mg p F v0 v1 b2 b3 ao k2 l W) => tmerges_any (h.next (below_drew' W)).T hml)
    have CX : Hid (∀ (W : World), GiS w q (.slice a1 tx.length c1) (.slice a2 mg.length c2) tx mg p F v0 v1 b2 b3 ao k2 l W → Calls Try.prog 16 #[.pointer (some ⟨p, 0, none⟩)] W fun e w' => (∃ ae ce, e = .returned (.slice ae k2 ce) ∧ RdT w' ae k2 l) ∧ Below W.heap.size W w') := hide (fun W h => (export_any h.T HKT.out).mono (by
      rintro e w' ⟨⟨ae, ne, ce, rfl, hne, hre⟩, hb⟩
      rw [HDR.out] at hne hre
      have h2 : ne = k2 := hne.trans h.L.1
      subst h2
      exact ⟨⟨ae, ce, rfl, RdT.row hre hne.symm⟩, hb⟩))
    have CT : Hid (∀ (W : World) (ae : Option Addr) (ce : Nat), RdT W ae k2 l → GiS w q (.slice a1 tx.length c1) (.slice a2 mg.length c2) tx mg p F v0 v1 b2 b3 ao k2 l W → Calls Try.prog 15 #[.slice ae k2 ce, .slice ao k2 cap] W fun e w' => e = .returned (.bool true) ∧ Below W.heap.size W w') := hide (fun W ae ce h1 h2 => texts_same W ae ao k2 ce cap l h1 h2.L (by omega))
    go_region_held3 (fun W => W.cell? ⟨q, 1, none⟩ = some (.slice a2 mg.length c2)) (first | exact z1 | exact y1 | go_keep) (first
      | (go_at_call 14; refine (CM.out _ HS.out).mono ?_; rintro e W1 ⟨⟨rv, rfl, hr⟩, hb⟩; obtain ⟨am, cm, hvv⟩ := row_form hr; subst hvv; have hb2 := below_via' hb (below_drew' _); replace HS := hide (HS.out.next hb2); have z1 := HS.out.X.cells.2.1; have HRM := hide hr)
      | (go_at_call 13; refine (lmerges_same _ _ _ _ _ _ mg (ReadsM.row HRM.out rfl) (HS.out.R.reads rfl) (by omega)).mono ?_; rintro e W2 ⟨rfl, hb2⟩; replace HS := hide (HS.out.next hb2); have z1 := HS.out.X.cells.2.1)
      | (go_at_call 16; refine (CX.out _ HS.out).mono ?_; rintro e W3 ⟨⟨ae, ce, rfl, hre⟩, hb2⟩; replace HS := hide (HS.out.next hb2); have z1 := HS.out.X.cells.2.1; have HRE := hide hre)
      | (go_at_call 15; refine (CT.out _ _ _ HRE.out HS.out).mono ?_; rintro e W4 ⟨rfl, hb2⟩; replace HS := hide (HS.out.next hb2); have z1 := HS.out.X.cells.2.1)
      | (go_at_call 10; refine (awake7_any _).mono ?_; rintro e W5 ⟨rfl, hb2⟩; replace HS := hide (HS.out.next hb2); have z1 := HS.out.X.cells.2.1))
    all_goals
      go_wp2
      go_ret
      exact ⟨rfl, HS.out.B⟩

end Go.Proofs.Ytlfffalfnnmliaa
