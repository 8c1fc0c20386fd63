/- Contracts of a heap of pairs: rise. -/
import Derived.Test.YtlfffalfnnmliaaHqB
namespace Go.Proofs.Ytlfffalfnnmliaa.Hq
open Go.RowKit Go.Proofs.Ytlfffalfnnmliaa
set_option linter.unusedVariables false
set_option linter.unusedSimpArgs false
attribute [local go_sem ↓] Go.wp_at_zero Go.wp_at_succ

set_option maxHeartbeats 4000000 in
theorem rise_any (base p : Nat) (v : Value) (tn : Int) (l : List It) (w : World) (h : HAt 126 133 base p v tn l w) (k0 : Nat) (hR : RI l k0) (hn : l.length ≤ 1000000) :
    Calls Try.prog 68 #[.pointer (some ⟨p, 0, none⟩), .int .i64 k0] w fun e w' => e = .returned (.tuple #[]) ∧ ∃ l', HAt 126 133 base p v tn l' w' ∧ Hp l' ∧ l'.Perm l ∧ Fr p v w w' := by
  obtain ⟨g, cap, rfl, hg, hbg, hgp, hc1, hc2⟩ := h.pos (by have := hR.1; omega)
  obtain ⟨n, hln⟩ : ∃ n, l.length = n := ⟨_, rfl⟩
  rw [hln] at h hn hc1 ⊢
  go_enter Try.func68, Try.ntmps68
  go_wp2
  go_loopw [1] (fun c wr => ∃ (k : Nat) (l1 : List It), c = .int .i64 k ∧ k < n ∧ HAt 126 133 base p (.slice (some ⟨g, 0, none⟩) n cap) tn l1 wr ∧ RI l1 k ∧ l1.Perm l ∧ Fr p (.slice (some ⟨g, 0, none⟩) n cap) w wr) (fun c _ => (intOf c).toNat)
  case atStart => exact ⟨k0, l, rfl, by have := hR.1; omega, h, hR, List.Perm.refl _, Fr.refl _ _ _⟩
  case round =>
    obtain ⟨k, l1, rfl, hkn, hH, hRI, hP, hF⟩ := hrel
    have hl1 : l1.length = n := by rw [hP.length_eq, hln]
    by_cases h0 : 0 < k
    · have hpl : (k - 1) / 2 < l1.length := by omega
      have hH' := hH
      rw [← hl1] at hH'
      obtain ⟨i0, i1, i2, i3, _, _, _⟩ := hH'.at (show k < l1.length by omega)
      obtain ⟨j0, j1, j2, j3, _, _, _⟩ := hH'.at hpl
      clear hH'
      obtain ⟨q, hq, hqn⟩ : ∃ q, (k - 1) / 2 = q ∧ q < n := ⟨_, rfl, by omega⟩
      have hp0 := hH.cell0
      obtain ⟨a, ha⟩ : ∃ a, gi l1 k = a := ⟨_, rfl⟩
      obtain ⟨b, hb⟩ : ∃ b, gi l1 ((k - 1) / 2) = b := ⟨_, rfl⟩
      rw [ha] at i0 i1 i2 i3
      rw [hb, hq] at j0 j1 j2 j3
      have HPA := hide (parent_any k wr h0 (by omega))
      rw [hq] at HPA
      have HLT := hide (less_any a b wr.drew)
      have hk0 : (0 : Int) < (k : Int) := by omega
      have hk1 : (k : Int) < (n : Int) := by omega
      have hq0 : (0 : Int) ≤ (q : Int) := by omega
      have hq1 : (q : Int) < (n : Int) := by omega
      have hgw : g < wr.heap.size := by have := hF.size; omega
      have hpw := hH.lt
      have HL1 := hide hl1
      have HQ := hide hq
      have HA := hide ha
      have HB := hide hb
      clear hl1 hq ha hb i3 j3
      cases hlt : ltB a b with
      | false =>
        go_wp2_with (go_at_call 71; refine (unhide HPA).mono ?_; rintro e w' ⟨rfl, hw⟩; have hw2 := hw.symm; clear hw; subst hw2)
        go_region_held3 (fun W => W.cell? ⟨p, 0, none⟩ = some (.slice (some ⟨g, 0, none⟩) n cap) ∧ W.cell? ⟨g, k * 7, none⟩ = some (.int .i64 a.r) ∧ W.cell? ⟨g, k * 7 + 1, none⟩ = some (.int .i64 a.p) ∧ W.cell? ⟨g, k * 7 + 2, none⟩ = some (.int .i64 a.t) ∧ W.cell? ⟨g, q * 7, none⟩ = some (.int .i64 b.r) ∧ W.cell? ⟨g, q * 7 + 1, none⟩ = some (.int .i64 b.p) ∧ W.cell? ⟨g, q * 7 + 2, none⟩ = some (.int .i64 b.t)) (go_keep) (first | (go_at_call 72; refine (unhide HLT).mono ?_; rintro e w' ⟨rfl, hbl0⟩; have hbl : Below wr.heap.size wr w' := below_via hbl0 (below_drew wr); clear hbl0; obtain ⟨hcl, hfl⟩ := bcells hbl))
        go_wp2
        (try simp only [Exit.inBlock, Exit.then])
        refine bodyPost_ret (results_none rfl _ _ _) rfl ?_
        refine ⟨rfl, l1, hH.kept hbl, hRI.done (Or.inr ?_), hP, hF.trans' (Fr.ofBelow hbl)⟩
        rw [HA.out, HB.out]
        exact hlt
      | true =>
        have HSI := hRI.step h0 (by rw [HA.out, HB.out]; exact hlt)
        rw [HQ.out] at HSI
        go_wp2_with (go_at_call 71; refine (unhide HPA).mono ?_; rintro e w' ⟨rfl, hw⟩; have hw2 := hw.symm; clear hw; subst hw2)
        go_region_held3 (fun W => W.cell? ⟨p, 0, none⟩ = some (.slice (some ⟨g, 0, none⟩) n cap) ∧ W.cell? ⟨g, k * 7, none⟩ = some (.int .i64 a.r) ∧ W.cell? ⟨g, k * 7 + 1, none⟩ = some (.int .i64 a.p) ∧ W.cell? ⟨g, k * 7 + 2, none⟩ = some (.int .i64 a.t) ∧ W.cell? ⟨g, q * 7, none⟩ = some (.int .i64 b.r) ∧ W.cell? ⟨g, q * 7 + 1, none⟩ = some (.int .i64 b.p) ∧ W.cell? ⟨g, q * 7 + 2, none⟩ = some (.int .i64 b.t)) (go_keep) (first | (go_at_call 72; refine (unhide HLT).mono ?_; rintro e w' ⟨rfl, hbl0⟩; have hbl : Below wr.heap.size wr w' := below_via hbl0 (below_drew wr); clear hbl0; obtain ⟨hcl, hfl⟩ := bcells hbl))
        have hH2 := hH.kept hbl
        go_wp2_with fail
        refine (swap_any base p _ tn l1 w' hH2 k q (by rw [HL1.out]; omega) (by rw [HL1.out]; omega) (by have := HQ.out; omega) (by rw [HL1.out]; omega)).mono ?_
        rintro e w2 ⟨rfl, hH3, hF3⟩
        go_wp2
        go_roundw
        case rel => exact ⟨q, _, rfl, hqn, hH3, HSI, (swp_perm l1 (by rw [HL1.out]; omega) (by rw [HL1.out]; omega)).trans hP, (hF.trans' (Fr.ofBelow hbl)).trans' hF3⟩
        case measure => simp [intOf]; have := HQ.out; omega
    · have hk : k = 0 := by omega
      subst hk
      go_wp2
      go_end0
      exact ⟨rfl, l1, hH, hRI.done (Or.inl rfl), hP, hF⟩

end Go.Proofs.Ytlfffalfnnmliaa.Hq
