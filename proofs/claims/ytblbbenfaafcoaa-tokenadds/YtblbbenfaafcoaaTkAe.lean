/- TokenAdds: the walk. -/
import Derived.Test.YtblbbenfaafcoaaTkAa
import Derived.BigGuard
namespace Go.Proofs.Ytblbbenfaafcoaa
open Go.RowKit Go.Maps
set_option linter.unusedVariables false
set_option linter.unusedSimpArgs false
attribute [local go_sem ↓] Go.wp_at_zero Go.wp_at_succ

set_option maxRecDepth 20000 in
set_option maxHeartbeats 64000000 in
theorem adds_walk_has (ao : Option Addr) (n cap : Nat) (M : List (Int × Int)) (a b : Int) (s : ByteArray) (w : World) (hM : ReadsM w ao n M) (hn : n ≤ 9223372036854775807) (hw : wfM (a, b)) (hsz : s.size ≤ 9223372036854775807) (HCS : Hid (0 ≤ a ∧ a < ((stT M n).1.length : Int))) :
    Calls Try.prog 4 #[.slice ao n cap, .int .i64 a, .int .i64 b, .string s] w fun e w' => e = .returned (.bool true) ∧ Below w.heap.size w w' := by
  go_enter Try.func4, Try.ntmps4
  by_cases hbig : 60 < n
  · have hb : (60 : Int) < (n : Int) := by omega
    go_wp2_with fail
    refine (awake_any _).mono ?_
    rintro e w1 ⟨rfl, hb1⟩
    go_wp2
    go_ret
    exact ⟨rfl, hb1⟩
  have hb : ¬ (60 : Int) < (n : Int) := by omega
  by_cases hbig2 : 200 < s.size
  · have hc : (200 : Int) < (s.size : Int) := by omega
    go_wp2_with fail
    refine (awake_any _).mono ?_
    rintro e w1 ⟨rfl, hb1⟩
    go_wp2
    go_ret
    exact ⟨rfl, hb1⟩
  have hc : ¬ (200 : Int) < (s.size : Int) := by omega
  go_wp2_with fail
  refine (awake_any _).mono ?_
  rintro e w1 ⟨rfl, hb1⟩
  have hM0 : ReadsM w1 none 0 [] := ⟨rfl, Or.inl rfl⟩
  have HN := hide (new_any none 0 0 [] w1 hM0 (by omega))
  go_wp2_with fail
  refine (unhide HN).mono ?_
  rintro e w2 ⟨hE, hb2⟩
  rcases hE with ⟨k, hk, _⟩ | ⟨_, p, F, v0, v1, b2, b3, rfl, hT, hF⟩
  · omega
  have hB2 := hb1.trans (hb2.mono hb1.size)
  have HRB := hide (rbegin_any w2)
  go_wp2_with fail
  refine (unhide HRB).mono ?_
  rintro e w3 ⟨⟨vb, rfl, hR, hvB⟩, hb3⟩
  obtain ⟨a1, c1, hv1⟩ := row_form hR.rb
  subst hv1
  have hT3 := hT.keptB hb3
  have hlw := low1 w3 (.cells #[.slice a1 (tb 256).length c1, .slice none 0 0] 30)
  have hB3 := hB2.trans (hb3.mono hB2.size)
  have HI : Hid (AdI w w3.heap.size F p v0 v1 b2 b3 (.slice a1 (tb 256).length c1) (.slice none 0 0) (tb 256) [] (w3.alloc (.cells #[.slice a1 (tb 256).length c1, .slice none 0 0] 30))) := by
    refine hide ⟨hT3.keptB hlw, hR.kept hlw, heap_alloc_new w3 _, fun e => ?_, fun k e => ⟨fun e2 => ?_, ?_⟩, (fun k e => by cases e), fun k hk => ?_, hB3.size, hB3.trans (hlw.mono hB3.size)⟩
    · have := hT3.flt _ e; omega
    · have h1 := hvB k e; have h2 := hT.flt k e2; omega
    · have h1 := (hR.rb.lt k e).2; omega
    · have h1 := hF k hk; have h2 := hb1.size; omega
  clear hT hT3 hR hvB hlw hB3 hF hb3 hB2 hb2 HN HRB hM0 hb1
  generalize hb5 : w3.heap.size = b5 at *
  generalize hl : (tb 256).length = l256 at *
  go_wp2
  clear hb5 hl
  go_loopw [13] (fun i wr => ∃ (k : Nat) (F : List Nat) (v0 v1 vb vm : Value), i = .int .i64 k ∧ k ≤ n ∧ Hid (AdI w b5 F p v0 v1 b2 b3 vb vm (stT M k).1 (stT M k).2 wr)) (fun i _ => n - (intOf i).toNat)
  case atStart => exact ⟨0, F, v0, v1, _, _, rfl, by omega, HI⟩
  case round =>
    obtain ⟨k, F, v0, v1, vb, vm, rfl, hk, HI2⟩ := hrel
    clear HI
    have hI := HI2.out
    have htok := stT_tok M k
    obtain ⟨a1, c1, hv1⟩ := row_form hI.R.rb
    obtain ⟨a2, c2, hv2⟩ := row_form hI.R.rm
    subst hv1 hv2
    obtain ⟨y0, y1, yf⟩ := hI.X.cells
    have hylt := hI.X.lt
    by_cases hlt : k < n
    · have hA1 := hM.kept hI.B
      obtain ⟨b', off, rfl, hbw, k0, k1⟩ := hA1.at hlt
      have hk0 : (0 : Int) ≤ (k : Int) := by omega
      have hk1 : (k : Int) < (n : Int) := by omega
      have HST := hide (show stT M (k + 1) = (nextT (stT M k).1 (gm M k), nextM (stT M k).1 (stT M k).2 (gm M k)) from rfl)
      have HTK := hide htok
      have HT := hide hI.R
      have HTA := hide hI.T
      have hlen := htok.len
      have hcap := htok.cap
      clear hA1 htok hI
      generalize gm M k = m at k0 k1 HST
      generalize (stT M k).1 = tx at *
      generalize (stT M k).2 = mg at *
      have HLEN := hide hlen
      clear hlen
      have hA0 : ∀ o, (wr.alloc o).cell? ⟨b', off + k * 2, none⟩ = some (.int .i64 m.1) := fun o => (cell_old wr _ hbw).trans k0
      have hA1 : ∀ o, (wr.alloc o).cell? ⟨b', off + k * 2 + 1, none⟩ = some (.int .i64 m.2) := fun o => (cell_old wr _ hbw).trans k1
      have hA2 : ∀ o, (wr.alloc o).cell? ⟨b5, 0, none⟩ = some (.slice a1 tx.length c1) := fun o => (cell_old wr _ hylt).trans y0
      have hA3 : ∀ o, (wr.alloc o).cell? ⟨b5, 1, none⟩ = some (.slice a2 mg.length c2) := fun o => (cell_old wr _ hylt).trans y1
      go_wp2
      go_region_with (go_at_call 14; refine (radd_any (by first | exact HT.out.drew | exact (HT.out.alloc _).drew | exact HT.out.drew.alloc _ | exact HT.out) HTK.out m).mono ?_; rintro e w2 ⟨⟨vb', vm', rfl, hT2, hvb2, hvm2⟩, hB2⟩; obtain ⟨a3, c3, hv3⟩ := row_form hT2.rb; obtain ⟨a4, c4, hv4⟩ := row_form hT2.rm; subst hv3 hv4; unfold rtR; first | (have hq : Box2 wr.heap.size (.slice none 0 0) (.slice none 0 0) w2 := Box2.kept (W := (wr.alloc (.cells #[.slice none 0 0, .slice none 0 0] 30)).drew) (heap_alloc_new wr _) hB2; obtain ⟨z0, z1, zf⟩ := hq.cells) | skip)
      all_goals
        first
        | have hlow : Below wr.heap.size wr w2 := below_via' hB2 (below_drew' wr)
        | have hlow : Below wr.heap.size wr w2 := below_via' hB2 (low1 wr _).drew
        have hz2 := hlow.size
        have hI := HI2.out
        have hY2 := hI.X.kept hlow
        have hTA2 := hI.T.keptB hlow
        have hflt : ∀ k ∈ F, k < wr.heap.size := hI.T.flt
        have hxF := hI.xF
        have k0' := (hlow.cell hbw).trans k0
        have k1' := (hlow.cell hbw).trans k1
        have hbw2 : b' < w2.heap.size := by omega
        have kA0 : ∀ o, (w2.alloc o).cell? ⟨b', off + k * 2, none⟩ = some (.int .i64 m.1) := fun o => (cell_old w2 _ hbw2).trans k0'
        have kA1 : ∀ o, (w2.alloc o).cell? ⟨b', off + k * 2 + 1, none⟩ = some (.int .i64 m.2) := fun o => (cell_old w2 _ hbw2).trans k1'
        have nb1 : wr.heap.size ≠ b' := by omega
        have nb2 : b' ≠ wr.heap.size := by omega
        have HVB := hide hvb2
        have HVM := hide hvm2
        have HR2 := hide hT2
        have o3 : Hid (∀ k, (Value.slice a3 (nextT tx m).length c3).ownBlock = some k → k < w2.heap.size) := hide (fun k e => (hT2.rb.lt k e).2)
        have o4 : Hid (∀ k, (Value.slice a4 (nextM tx mg m).length c4).ownBlock = some k → k < w2.heap.size) := hide (fun k e => (hT2.rm.lt k e).2)
        have HADD := hide (fun (W : World) (hW : TAt F p v0 v1 b2 b3 tx mg (lgs tx) W) => add_any hW HTK.out m)
        clear hvb2 hvm2 hT2 hA0 hA1 hA2 hA3 hI y0 y1 yf
        generalize hcc : addC tx m = cc at HADD ⊢
        have HCC := hide hcc
        clear hcc
        go_wp2_with fail
        first
        | (obtain ⟨q, W3, hqe, hW3, hqlt, hQ, hbq⟩ : ∃ q W3, q = w2.heap.size ∧ W3 = w2.alloc (.cells #[.slice a3 (nextT tx m).length c3, .slice a4 (nextM tx mg m).length c4] 30) ∧ q < W3.heap.size ∧ FrL [q] w2 W3 ∧ Box2 q (.slice a3 (nextT tx m).length c3) (.slice a4 (nextM tx mg m).length c4) W3 := ⟨_, _, rfl, rfl, (by simp), FrL.ofBelow (low1 w2 _), heap_alloc_new w2 _⟩
           rw [← hW3, ← hqe]
           have hqg : wr.heap.size ≤ q := by omega
           have hvA : Hid (∀ k, (Value.slice a3 (nextT tx m).length c3).ownBlock = some k → (Value.slice a1 tx.length c1).ownBlock = some k ∨ (wr.heap.size ≤ k ∧ k ≠ q)) := hide (fun k e => by have h1 := HVB.out k e; have h2 := o3.out k e; rcases h1 with h1 | h1; · { exact Or.inl h1 }; · { right; simp at h1; omega })
           have hvC : Hid (∀ k, (Value.slice a4 (nextM tx mg m).length c4).ownBlock = some k → (Value.slice a2 mg.length c2).ownBlock = some k ∨ (wr.heap.size ≤ k ∧ k ≠ q)) := hide (fun k e => by have h1 := HVM.out k e; have h2 := o4.out k e; rcases h1 with h1 | h1; · { exact Or.inl h1 }; · { right; simp at h1; omega })
           have HSTEP : Hid (∀ F2 v2 v3 w4, TAt F2 p v2 v3 b2 b3 (nextT tx m) (nextM tx mg m) (lgs (nextT tx m)) w4 → FrL F W3 w4 → NwL W3 F F2 → AdI w b5 F2 p v2 v3 b2 b3 (.slice a3 (nextT tx m).length c3) (.slice a4 (nextM tx mg m).length c4) (stT M (k + 1)).1 (stT M (k + 1)).2 ((w4.setCell ⟨b5, 0, none⟩ (.slice a3 (nextT tx m).length c3)).setCell ⟨b5, 1, none⟩ (.slice a4 (nextM tx mg m).length c4))) := hide (fun F2 v2 v3 w4 hT4 hF4 hN4 => by rw [HST.out]; exact AdI.step (q := _) HI2.out hlow HR2.out hvA.out hvC.out (by omega) hQ hT4 hF4 hN4)
           clear hqe hW3)
        | (obtain ⟨q, W3, hqe, hW3, hqlt, hQ, hbq⟩ : ∃ q W3, q = wr.heap.size ∧ W3 = (w2.setCell ⟨q, 0, none⟩ (.slice a3 (nextT tx m).length c3)).setCell ⟨q, 1, none⟩ (.slice a4 (nextM tx mg m).length c4) ∧ q < W3.heap.size ∧ FrL [q] w2 W3 ∧ Box2 q (.slice a3 (nextT tx m).length c3) (.slice a4 (nextM tx mg m).length c4) W3 := ⟨_, _, rfl, rfl, (by have := hq.lt; simpa using this), ((FrL.refl _ _).set (by simp) _).set (by simp) _, hq.set _ _⟩
           subst hqe
           rw [← hW3]
           have hqg : wr.heap.size ≤ wr.heap.size := Nat.le_refl _
           have hvA : Hid (∀ k, (Value.slice a3 (nextT tx m).length c3).ownBlock = some k → (Value.slice a1 tx.length c1).ownBlock = some k ∨ (wr.heap.size ≤ k ∧ k ≠ wr.heap.size)) := hide (fun k e => by have h1 := HVB.out k e; rcases h1 with h1 | h1; · { exact Or.inl h1 }; · { right; simp at h1; omega })
           have hvC : Hid (∀ k, (Value.slice a4 (nextM tx mg m).length c4).ownBlock = some k → (Value.slice a2 mg.length c2).ownBlock = some k ∨ (wr.heap.size ≤ k ∧ k ≠ wr.heap.size)) := hide (fun k e => by have h1 := HVM.out k e; rcases h1 with h1 | h1; · { exact Or.inl h1 }; · { right; simp at h1; omega })
           have HSTEP : Hid (∀ F2 v2 v3 w4, TAt F2 p v2 v3 b2 b3 (nextT tx m) (nextM tx mg m) (lgs (nextT tx m)) w4 → FrL F W3 w4 → NwL W3 F F2 → AdI w b5 F2 p v2 v3 b2 b3 (.slice a3 (nextT tx m).length c3) (.slice a4 (nextM tx mg m).length c4) (stT M (k + 1)).1 (stT M (k + 1)).2 ((w4.setCell ⟨b5, 0, none⟩ (.slice a3 (nextT tx m).length c3)).setCell ⟨b5, 1, none⟩ (.slice a4 (nextM tx mg m).length c4))) := hide (fun F2 v2 v3 w4 hT4 hF4 hN4 => by rw [HST.out]; exact AdI.step (q := _) HI2.out hlow HR2.out hvA.out hvC.out (by omega) hQ hT4 hF4 hN4)
           clear hW3 z0 z1 zf
           generalize hqe : wr.heap.size = q at *)
        have hT3 := hTA2.kept hQ (fun k hk e => by simp at e; have := hflt k hk; omega)
        refine ((unhide HADD) _ hT3).mono ?_
        rintro e w4 ⟨rfl, F2, v2, v3, hT4, hF4, hN4⟩
        unfold two
        have hz3 := hQ.size
        have hylt2 := hY2.lt
        have hX4 : Box2 b5 (.slice a1 tx.length c1) (.slice a2 mg.length c2) w4 := (hF4.block b5 (by omega) hxF).trans ((hQ.block b5 hylt2 (by simp; omega)).trans hY2)
        have hq4 : Box2 q (.slice a3 (nextT tx m).length c3) (.slice a4 (nextM tx mg m).length c4) w4 := (hF4.block q hqlt (fun e => by have := hflt q e; omega)).trans hbq
        obtain ⟨x0, x1, xf⟩ := hX4.cells
        obtain ⟨q0, q1, qf⟩ := hq4.cells
        have n1 : q ≠ b5 := by omega
        have n2 : b5 ≠ q := by omega
        have HH := hide (And.intro hT4 (And.intro hF4 hN4))
        clear hT3 hQ hT4 hF4 hN4 hX4 hq4 hbq hY2 hTA2 HADD hB2
        by_cases hc0 : cc = 0
        · subst hc0
          go_wp2
          obtain ⟨hT4, hF4, hN4⟩ := HH.out
          exact ⟨⟨k + 1, F2, v2, v3, _, _, by go_num, hlt, hide (HSTEP.out F2 v2 v3 w4 hT4 hF4 hN4)⟩, by simp [intOf]; omega⟩
        · have hcb : (cc == 0) = false := by simpa using hc0
          have hcb2 : (cc != 0) = true := by simpa using hc0
          rw [if_neg hc0]
          go_wp2
          obtain ⟨hT4, hF4, hN4⟩ := HH.out
          exact ⟨⟨k + 1, F2, v2, v3, _, _, by go_num, hlt, hide (HSTEP.out F2 v2 v3 w4 hT4 hF4 hN4)⟩, by simp [intOf]; omega⟩
    · obtain rfl : n = k := by omega
      have HTK := hide htok
      have hcap := htok.cap
      have hml : (stT M n).2.length ≤ 1000 := by have := htok.len; omega
      have HLEN := hide htok.len
      have hR := hI.R
      have hT := hI.T
      have hX := hI.X
      have hB := hI.B
      clear hI HI2 htok
      have ha := HCS.out
      clear HCS
      generalize (stT M n).1 = tx at *
      generalize (stT M n).2 = mg at *
      have HSM := hide (fun (W : World) (h1 : TAt F p v0 v1 b2 b3 tx mg (lgs tx) W) (h2 : RT (.slice a1 tx.length c1) (.slice a2 mg.length c2) tx mg W) => same_any h1 h2 HTK.out)
      obtain ⟨i0, rfl⟩ := Int.eq_ofNat_of_zero_le ha.1
      have hi0 : i0 < tx.length := by omega
      obtain ⟨g, cg, hvg, hgl, hcg⟩ := hR.text hi0
      simp only [Value.slice.injEq] at hvg
      obtain ⟨rfl, _, rfl⟩ := hvg
      have HTX := hide (fun (W : World) (h2 : RT (.slice (some ⟨g, 0, none⟩) tx.length c1) (.slice a2 mg.length c2) tx mg W) => (show W.cell? ⟨g, i0, none⟩ = some (.string (gs tx i0)) by obtain ⟨g', c', hv', _, hc'⟩ := h2.text hi0; simp only [Value.slice.injEq, Option.some.injEq, Addr.mk.injEq] at hv'; rw [hv'.1.1]; exact hc'))
      have HBY := hide (tbytes_any hT i0 hi0)
      generalize gs tx i0 = si at HBY HTX hcg
      clear hcg hgl
      have hE : hs tx (i0 : Int) = true := by simpa [hs] using ha
      have hI0 : (0 : Int) ≤ (i0 : Int) := by omega
      have hI1 : (i0 : Int) < (tx.length : Int) := by omega
      have HFD := hide (tfind_all hT s (by unfold maxLen; omega))
      have HPA := hide (tparents_all hT HLEN.out hml (i0 : Int))
      have HRH := hide (fun (W : World) (h2 : RT (.slice (some ⟨g, 0, none⟩) tx.length c1) (.slice a2 mg.length c2) tx mg W) => rhas_any h2 (i0 : Int))
      rw [show decide (0 ≤ (i0 : Int) ∧ (i0 : Int) < (tx.length : Int)) = hs tx (i0 : Int) from rfl, hE] at HRH
      rw [hE] at HPA
      simp only [Bool.true_and, Bool.false_and] at HPA
      clear hE ha
      go_wp2_with fail
      refine (tpair_all hT HTK.out (i0 : Int) b hw).mono ?_
      rintro e w' ⟨⟨x, ok, rfl, hp⟩, hw'⟩
      have hw2 := hw'.symm
      clear hw'
      subst hw2
      go_wp2_with fail
      refine (unhide HFD).mono ?_
      rintro e w' ⟨⟨x2, ok2, rfl, hp2⟩, hw'⟩
      have hw2 := hw'.symm
      clear hw'
      subst hw2
      go_wp2_with fail
      refine (unhide HBY).mono ?_
      rintro e w' ⟨rfl, hw'⟩
      have hw2 := hw'.symm
      clear hw'
      subst hw2
      go_wp2_with fail
      refine (unhide HPA).mono ?_
      rintro e w6 ⟨⟨m1, m2, rfl⟩, hb6⟩
      have hlw := hb6.trans ((low1 w6 (.cells #[.int .i64 m1, .int .i64 m2] 39)).mono hb6.size)
      replace hR := hR.kept hlw
      replace hX := hX.kept hlw
      replace hT := hT.keptB hlw
      replace hB := hB.trans (hlw.mono hB.size)
      have HRP := hide (fun (W : World) (h2 : RT (.slice (some ⟨g, 0, none⟩) tx.length c1) (.slice a2 mg.length c2) tx mg W) => rpair_val h2 HTK.out hp)
      have HRF := hide (fun (W : World) (h2 : RT (.slice (some ⟨g, 0, none⟩) tx.length c1) (.slice a2 mg.length c2) tx mg W) => rfind_val h2 HTK.out hp2)
      have hpc : (ok = true ∧ 0 ≤ x) ∨ ok = false := by
        rcases hp with h | ⟨i, h1, h2, _⟩
        · exact Or.inr h.1
        · exact Or.inl ⟨h1, by omega⟩
      have hpc2 : (ok2 = true ∧ 0 ≤ x2) ∨ ok2 = false := by
        rcases hp2 with h | ⟨i, h1, h2, _⟩
        · exact Or.inr h.1
        · exact Or.inl ⟨h1, by omega⟩
      clear hp hp2 y0 y1 yf hb6 hlw HFD HBY HPA
      obtain ⟨x0, x1, xf⟩ := hX.cells
      have hcg := HTX.out _ hR
      rcases hpc with ⟨rfl, hx⟩ | rfl <;> rcases hpc2 with ⟨rfl, hx2⟩ | rfl
      · simp only [if_true, Bool.false_eq_true, if_false] at HRP HRF
        go_wp2_with fail
        refine (unhide HRP _ hR).mono ?_
        rintro e w7 ⟨rfl, hb7⟩
        replace hR := hR.kept hb7
        replace hX := hX.kept hb7
        replace hT := hT.keptB hb7
        replace hB := hB.trans (hb7.mono hB.size)
        clear hb7 x0 x1 xf
        obtain ⟨x0, x1, xf⟩ := hX.cells
        replace hcg := HTX.out _ hR
        go_wp2_with fail
        refine (unhide HRP _ hR).mono ?_
        rintro e w7 ⟨rfl, hb7⟩
        replace hR := hR.kept hb7
        replace hX := hX.kept hb7
        replace hT := hT.keptB hb7
        replace hB := hB.trans (hb7.mono hB.size)
        clear hb7 x0 x1 xf
        obtain ⟨x0, x1, xf⟩ := hX.cells
        replace hcg := HTX.out _ hR
        go_wp2_with fail
        refine (unhide HRF _ hR).mono ?_
        rintro e w7 ⟨rfl, hb7⟩
        replace hR := hR.kept hb7
        replace hX := hX.kept hb7
        replace hT := hT.keptB hb7
        replace hB := hB.trans (hb7.mono hB.size)
        clear hb7 x0 x1 xf
        obtain ⟨x0, x1, xf⟩ := hX.cells
        replace hcg := HTX.out _ hR
        go_wp2_with fail
        refine (unhide HRF _ hR).mono ?_
        rintro e w7 ⟨rfl, hb7⟩
        replace hR := hR.kept hb7
        replace hX := hX.kept hb7
        replace hT := hT.keptB hb7
        replace hB := hB.trans (hb7.mono hB.size)
        clear hb7 x0 x1 xf
        obtain ⟨x0, x1, xf⟩ := hX.cells
        replace hcg := HTX.out _ hR
        go_wp2_with fail
        refine (unhide HRH _ hR).mono ?_
        rintro e w7 ⟨rfl, hb7⟩
        replace hR := hR.kept hb7
        replace hX := hX.kept hb7
        replace hT := hT.keptB hb7
        replace hB := hB.trans (hb7.mono hB.size)
        clear hb7 x0 x1 xf
        obtain ⟨x0, x1, xf⟩ := hX.cells
        replace hcg := HTX.out _ hR
        go_wp2_with fail
        refine (unhide HRH _ hR).mono ?_
        rintro e w7 ⟨rfl, hb7⟩
        replace hR := hR.kept hb7
        replace hX := hX.kept hb7
        replace hT := hT.keptB hb7
        replace hB := hB.trans (hb7.mono hB.size)
        clear hb7 x0 x1 xf
        obtain ⟨x0, x1, xf⟩ := hX.cells
        replace hcg := HTX.out _ hR
        go_wp2_with fail
        refine (unhide HSM _ hT hR).mono ?_
        rintro e w8 ⟨rfl, hb8⟩
        have hB8 := hB.trans (hb8.mono hB.size)
        go_wp2
        go_ret
        exact ⟨rfl, hB8⟩
      · simp only [if_true, Bool.false_eq_true, if_false] at HRP HRF
        obtain ⟨yy, hyy⟩ : ∃ y : Int, y = -1 := ⟨_, rfl⟩
        rw [← hyy] at HRF
        have hyn : decide (0 ≤ yy) = false := by simp; omega
        clear hyy
        go_wp2_with fail
        refine (unhide HRP _ hR).mono ?_
        rintro e w7 ⟨rfl, hb7⟩
        replace hR := hR.kept hb7
        replace hX := hX.kept hb7
        replace hT := hT.keptB hb7
        replace hB := hB.trans (hb7.mono hB.size)
        clear hb7 x0 x1 xf
        obtain ⟨x0, x1, xf⟩ := hX.cells
        replace hcg := HTX.out _ hR
        go_wp2_with fail
        refine (unhide HRP _ hR).mono ?_
        rintro e w7 ⟨rfl, hb7⟩
        replace hR := hR.kept hb7
        replace hX := hX.kept hb7
        replace hT := hT.keptB hb7
        replace hB := hB.trans (hb7.mono hB.size)
        clear hb7 x0 x1 xf
        obtain ⟨x0, x1, xf⟩ := hX.cells
        replace hcg := HTX.out _ hR
        go_wp2_with fail
        refine (unhide HRF _ hR).mono ?_
        rintro e w7 ⟨rfl, hb7⟩
        replace hR := hR.kept hb7
        replace hX := hX.kept hb7
        replace hT := hT.keptB hb7
        replace hB := hB.trans (hb7.mono hB.size)
        clear hb7 x0 x1 xf
        obtain ⟨x0, x1, xf⟩ := hX.cells
        replace hcg := HTX.out _ hR
        go_wp2_with fail
        refine (unhide HRH _ hR).mono ?_
        rintro e w7 ⟨rfl, hb7⟩
        replace hR := hR.kept hb7
        replace hX := hX.kept hb7
        replace hT := hT.keptB hb7
        replace hB := hB.trans (hb7.mono hB.size)
        clear hb7 x0 x1 xf
        obtain ⟨x0, x1, xf⟩ := hX.cells
        replace hcg := HTX.out _ hR
        go_wp2_with fail
        refine (unhide HRH _ hR).mono ?_
        rintro e w7 ⟨rfl, hb7⟩
        replace hR := hR.kept hb7
        replace hX := hX.kept hb7
        replace hT := hT.keptB hb7
        replace hB := hB.trans (hb7.mono hB.size)
        clear hb7 x0 x1 xf
        obtain ⟨x0, x1, xf⟩ := hX.cells
        replace hcg := HTX.out _ hR
        go_wp2_with fail
        refine (unhide HSM _ hT hR).mono ?_
        rintro e w8 ⟨rfl, hb8⟩
        have hB8 := hB.trans (hb8.mono hB.size)
        go_wp2
        go_ret
        exact ⟨rfl, hB8⟩
      · simp only [if_true, Bool.false_eq_true, if_false] at HRP HRF
        obtain ⟨yy, hyy⟩ : ∃ y : Int, y = -1 := ⟨_, rfl⟩
        rw [← hyy] at HRP
        have hyn : decide (0 ≤ yy) = false := by simp; omega
        clear hyy
        go_wp2_with fail
        refine (unhide HRP _ hR).mono ?_
        rintro e w7 ⟨rfl, hb7⟩
        replace hR := hR.kept hb7
        replace hX := hX.kept hb7
        replace hT := hT.keptB hb7
        replace hB := hB.trans (hb7.mono hB.size)
        clear hb7 x0 x1 xf
        obtain ⟨x0, x1, xf⟩ := hX.cells
        replace hcg := HTX.out _ hR
        go_wp2_with fail
        refine (unhide HRF _ hR).mono ?_
        rintro e w7 ⟨rfl, hb7⟩
        replace hR := hR.kept hb7
        replace hX := hX.kept hb7
        replace hT := hT.keptB hb7
        replace hB := hB.trans (hb7.mono hB.size)
        clear hb7 x0 x1 xf
        obtain ⟨x0, x1, xf⟩ := hX.cells
        replace hcg := HTX.out _ hR
        go_wp2_with fail
        refine (unhide HRF _ hR).mono ?_
        rintro e w7 ⟨rfl, hb7⟩
        replace hR := hR.kept hb7
        replace hX := hX.kept hb7
        replace hT := hT.keptB hb7
        replace hB := hB.trans (hb7.mono hB.size)
        clear hb7 x0 x1 xf
        obtain ⟨x0, x1, xf⟩ := hX.cells
        replace hcg := HTX.out _ hR
        go_wp2_with fail
        refine (unhide HRH _ hR).mono ?_
        rintro e w7 ⟨rfl, hb7⟩
        replace hR := hR.kept hb7
        replace hX := hX.kept hb7
        replace hT := hT.keptB hb7
        replace hB := hB.trans (hb7.mono hB.size)
        clear hb7 x0 x1 xf
        obtain ⟨x0, x1, xf⟩ := hX.cells
        replace hcg := HTX.out _ hR
        go_wp2_with fail
        refine (unhide HRH _ hR).mono ?_
        rintro e w7 ⟨rfl, hb7⟩
        replace hR := hR.kept hb7
        replace hX := hX.kept hb7
        replace hT := hT.keptB hb7
        replace hB := hB.trans (hb7.mono hB.size)
        clear hb7 x0 x1 xf
        obtain ⟨x0, x1, xf⟩ := hX.cells
        replace hcg := HTX.out _ hR
        go_wp2_with fail
        refine (unhide HSM _ hT hR).mono ?_
        rintro e w8 ⟨rfl, hb8⟩
        have hB8 := hB.trans (hb8.mono hB.size)
        go_wp2
        go_ret
        exact ⟨rfl, hB8⟩
      · simp only [if_true, Bool.false_eq_true, if_false] at HRP HRF
        obtain ⟨yy, hyy⟩ : ∃ y : Int, y = -1 := ⟨_, rfl⟩
        rw [← hyy] at HRP
        rw [← hyy] at HRF
        have hyn : decide (0 ≤ yy) = false := by simp; omega
        clear hyy
        go_wp2_with fail
        refine (unhide HRP _ hR).mono ?_
        rintro e w7 ⟨rfl, hb7⟩
        replace hR := hR.kept hb7
        replace hX := hX.kept hb7
        replace hT := hT.keptB hb7
        replace hB := hB.trans (hb7.mono hB.size)
        clear hb7 x0 x1 xf
        obtain ⟨x0, x1, xf⟩ := hX.cells
        replace hcg := HTX.out _ hR
        go_wp2_with fail
        refine (unhide HRF _ hR).mono ?_
        rintro e w7 ⟨rfl, hb7⟩
        replace hR := hR.kept hb7
        replace hX := hX.kept hb7
        replace hT := hT.keptB hb7
        replace hB := hB.trans (hb7.mono hB.size)
        clear hb7 x0 x1 xf
        obtain ⟨x0, x1, xf⟩ := hX.cells
        replace hcg := HTX.out _ hR
        go_wp2_with fail
        refine (unhide HRH _ hR).mono ?_
        rintro e w7 ⟨rfl, hb7⟩
        replace hR := hR.kept hb7
        replace hX := hX.kept hb7
        replace hT := hT.keptB hb7
        replace hB := hB.trans (hb7.mono hB.size)
        clear hb7 x0 x1 xf
        obtain ⟨x0, x1, xf⟩ := hX.cells
        replace hcg := HTX.out _ hR
        go_wp2_with fail
        refine (unhide HRH _ hR).mono ?_
        rintro e w7 ⟨rfl, hb7⟩
        replace hR := hR.kept hb7
        replace hX := hX.kept hb7
        replace hT := hT.keptB hb7
        replace hB := hB.trans (hb7.mono hB.size)
        clear hb7 x0 x1 xf
        obtain ⟨x0, x1, xf⟩ := hX.cells
        replace hcg := HTX.out _ hR
        go_wp2_with fail
        refine (unhide HSM _ hT hR).mono ?_
        rintro e w8 ⟨rfl, hb8⟩
        have hB8 := hB.trans (hb8.mono hB.size)
        go_wp2
        go_ret
        exact ⟨rfl, hB8⟩

end Go.Proofs.Ytblbbenfaafcoaa
