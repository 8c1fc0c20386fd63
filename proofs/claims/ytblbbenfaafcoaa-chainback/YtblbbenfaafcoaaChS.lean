/- ChainBack: the bytes again, each token ending where it is told; what stands side by side are no token's parents. -/
import Derived.Test.YtblbbenfaafcoaaChL
import Derived.Test.YtblbbenfaafcoaaChR
import Derived.Deep.RegionHeld3
namespace Go.Proofs.Ytblbbenfaafcoaa
open Go.RowKit Go.Maps
set_option linter.unusedVariables false
set_option linter.unusedSimpArgs false
attribute [local go_sem ↓] Go.wp_at_zero Go.wp_at_succ

theorem take_gI (A : List Int) {k : Nat} (h : k < A.length) : A = A.take k ++ gI A k :: A.drop (k + 1) := by
  rw [← gI_drop A h, List.take_append_drop]
theorem take_gI2 (A : List Int) {k : Nat} (h : k + 1 < A.length) : A = A.take k ++ gI A k :: gI A (k + 1) :: A.drop (k + 1 + 1) := by
  rw [← gI_drop A h, ← gI_drop A (show k < A.length by omega), List.take_append_drop]

set_option maxRecDepth 20000 in
set_option maxHeartbeats 16000000 in
theorem back_walk (ao : Option Addr) (n cap : Nat) (U : List Int) (s : ByteArray) (w : World) (hM : ReadsH w ao n U) (hn : n ≤ 9223372036854775807) (hsz : s.size ≤ 9223372036854775807) :
    Calls Try.prog 8 #[.slice ao n cap, .string s] w fun e w' => e = .returned (.bool true) ∧ Below w.heap.size w w' := by
  go_enter Try.func8, Try.ntmps8
  by_cases hbig : 60 < n
  · have hb : (60 : Int) < (n : Int) := by omega
    go_wp2_with fail
    refine (awake5_any _).mono ?_
    rintro e w1 ⟨rfl, hb1⟩
    go_wp2
    go_ret
    exact ⟨rfl, hb1⟩
  have hb : ¬ (60 : Int) < (n : Int) := by omega
  by_cases hbig2 : 1000 < s.size
  · have hc : (1000 : Int) < (s.size : Int) := by omega
    go_wp2_with fail
    refine (awake5_any _).mono ?_
    rintro e w1 ⟨rfl, hb1⟩
    go_wp2
    go_ret
    exact ⟨rfl, hb1⟩
  have hc : ¬ (1000 : Int) < (s.size : Int) := by omega
  go_wp2_with fail
  refine (awake5_any _).mono ?_
  rintro e w1 ⟨rfl, hb1⟩
  have HTB := hide (table_any ao n cap U w1 (hM.kept hb1) (by omega))
  have HB1 := hide hb1
  clear hb1
  go_wp2_with fail
  refine (unhide HTB).mono ?_
  rintro e w2 ⟨⟨tx, mg, vb, vm, p, F, v0, v1, b2, b3, rfl, hR, hT, hA⟩, hb2⟩
  obtain ⟨a1, c1, hv1⟩ := row_form hT.rb
  obtain ⟨a2, c2, hv2⟩ := row_form hT.rm
  subst hv1 hv2
  have hl2 := low1 w2 (.cells #[.slice a1 tx.length c1, .slice a2 mg.length c2] 30)
  have HS : Hid (TbS w w2.heap.size a1 c1 a2 c2 tx mg p F v0 v1 b2 b3 (w2.alloc (.cells #[.slice a1 tx.length c1, .slice a2 mg.length c2] 30))) := hide ⟨hR, hT.kept hl2, hA.keptB hl2, heap_alloc_new w2 _, (HB1.out.trans (hb2.mono HB1.out.size)).trans (hl2.mono (HB1.out.trans (hb2.mono HB1.out.size)).size)⟩
  have HE := hide (encode_any _ HS.out.T hR.tok s (by omega))
  clear hl2 hT hA hb2 hR HTB
  go_wp2_with fail
  generalize w2.alloc (.cells #[.slice a1 tx.length c1, .slice a2 mg.length c2] 30) = w3 at *
  generalize w2.heap.size = q at *
  refine (unhide HE).mono ?_
  rintro e w4 ⟨⟨v, rfl, hva⟩, hb4⟩
  obtain ⟨aa, ca, hvv⟩ := row_form hva
  subst hvv
  replace HS := hide (HS.out.next hb4)
  have HRa := hide hva
  clear hva hb4 HE
  obtain ⟨x0, x1, xf⟩ := HS.out.X.cells
  have hk := HS.out.k.tok
  have HML := hide (show mg.length ≤ 1000 by have h1 := hk.cap; have h2 := hk.len; omega)
  have HMT := hide (made_txt hk tx.length s)
  have HMI := hide (made_in hk tx.length s)
  have HMN := hide (made_nop hk s)
  have HMP := hide (made_pos hk tx.length s)
  have hml := made_len mg tx.length s
  generalize made mg tx.length s = A at *
  have HBY := hide (rbytes_any _ HS.out.R hk aa A.length ca A (RdI.of_row HRa.out) (by omega) HMI.out)
  rw [HMT.out] at HBY
  have hsd : (⟨s.data.toList.toArray⟩ : ByteArray) = s := by simp
  rw [hsd] at HBY
  clear hsd HMT
  go_wp2_with fail
  refine (unhide HBY).mono ?_
  rintro e w5 ⟨rfl, hb5⟩
  replace HS := hide (HS.out.next hb5)
  replace HRa := hide (row_keptB HRa.out hb5)
  have HSP := hide (spans_any _ HS.out.T hk aa A.length ca A (RdI.of_row HRa.out) (by omega))
  clear hb5 HBY x0 x1 xf
  go_wp2_with fail
  refine (unhide HSP).mono ?_
  rintro e w6 ⟨hE, hb6⟩
  rcases hE with ⟨_, v, rfl, hvs⟩ | ⟨⟨x, hx, hno⟩, _⟩
  case inr => exact absurd (HMI.out x hx) hno
  obtain ⟨ap, cp, hvv⟩ := row_form hvs
  subst hvv
  replace HS := hide (HS.out.next hb6)
  replace HRa := hide (row_keptB HRa.out hb6)
  have HRs : Hid (w6.ownsRow w5.heap.size 3 1 (.slice ap A.length cp) (ends tx 0 A).length (iv (ends tx 0 A))) := hide (by rw [ends_len]; exact hvs)
  clear hvs hb6 HSP
  go_wp2
  go_loopw [11, 12] (fun t i wr => ∃ (k m : Nat), t = .int .i64 m ∧ i = .int .i64 k ∧ k ≤ A.length ∧ m ≤ 1000 ∧ Hid (m = pos tx (A.take k)) ∧ Hid (Below w6.heap.size w6 wr)) (fun _ i _ => A.length - (intOf i).toNat)
  case atStart => exact ⟨0, 0, rfl, rfl, Nat.zero_le _, by omega, hide (by simp [pos]), hide (Below.refl _ _)⟩
  case round =>
    obtain ⟨k, m, rfl, rfl, hkn, hm, HM, HB⟩ := hrel
    by_cases hlt : k < A.length
    · have hsplit := take_gI A hlt
      have hx := HMI.out _ (gI_mem A hlt)
      obtain ⟨i0, hi0⟩ := Int.eq_ofNat_of_zero_le hx.1
      have hil : i0 < tx.length := by have := hx.2; omega
      have hi1 : (i0 : Int) < (tx.length : Int) := by omega
      have hi2 : (0 : Int) ≤ (i0 : Int) := by omega
      obtain ⟨ga, cga, hvg, hgl, c0⟩ := row_at HRa.out hlt
      simp only [Value.slice.injEq] at hvg
      obtain ⟨rfl, _, rfl⟩ := hvg
      obtain ⟨gp, cgp, hvg, hgl2, d0⟩ := row_at HRs.out (i := k) (by rw [ends_len]; exact hlt)
      simp only [Value.slice.injEq] at hvg
      obtain ⟨rfl, hz9, rfl⟩ := hvg
      clear hz9
      have hend : gI (ends tx 0 A) k = ((pos tx (A.take k) + sz tx (gI A k) : Nat) : Int) := by
        have h1 := ends_at tx (A.take k) (A.drop (k + 1)) (gI A k)
        rw [← hsplit, List.length_take, Nat.min_eq_left (by omega)] at h1
        exact h1
      obtain ⟨gt, cgt, hvg, hgl3, e0⟩ := HS.out.R.text hil
      simp only [Value.slice.injEq] at hvg
      obtain ⟨rfl, _, rfl⟩ := hvg
      have hsi : (gs tx i0).size = sz tx (gI A k) := by unfold sz; rw [hi0]; rfl
      rw [hend, ← HM.out, ← hsi, Int.natCast_add] at d0
      rw [hi0] at c0
      have HM2 : Hid (m + (gs tx i0).size = pos tx (A.take (k + 1))) := hide (by rw [take_succ_gI A hlt, pos_append, ← HM.out, hsi]; simp [pos])
      have hm2 : m + (gs tx i0).size ≤ 1000 := by
        have h1 := HMP.out
        rw [hsplit, pos_append] at h1
        simp only [pos] at h1
        have := HM.out
        omega
      obtain ⟨x0, x1, xf⟩ := HS.out.X.cells
      have hq := HS.out.X.lt
      have HCS := hide (And.intro hgl (And.intro hgl2 (And.intro hgl3 (And.intro c0 (And.intro d0 e0)))))
      have hk0 : (0 : Int) ≤ (k : Int) := by omega
      have hk1 : (k : Int) < (A.length : Int) := by omega
      have HGI := hide hi0
      clear hsplit hx hi0 hend hsi c0 d0 e0 x0 x1 xf
      have x0 := (HB.out.cell (p := ⟨q, 0, none⟩) hq).trans HS.out.X.cells.1
      have x1 := (HB.out.cell (p := ⟨q, 1, none⟩) hq).trans HS.out.X.cells.2.1
      have c0 := (HB.out.cell (p := ⟨ga, k, none⟩) HCS.out.1).trans HCS.out.2.2.2.1
      have d0 := (HB.out.cell (p := ⟨gp, k, none⟩) HCS.out.2.1).trans HCS.out.2.2.2.2.1
      have e0 := (HB.out.cell (p := ⟨gt, i0, none⟩) HCS.out.2.2.1).trans HCS.out.2.2.2.2.2
      generalize gs tx i0 = si at *
      by_cases hz : k = 0
      · subst hz
        go_wp2
        go_quiet (fail)
        have HB2 : Hid (Below w6.heap.size w6 (wr.drewN nq)) := hide (HB.out.trans ⟨rfl, rfl, rfl, Nat.le_refl _, fun _ _ => rfl⟩)
        clear x0 x1 c0 d0 e0 HB
        generalize wr.drewN nq = wd at *
        have x0 := (HB2.out.cell (p := ⟨q, 0, none⟩) hq).trans HS.out.X.cells.1
        have x1 := (HB2.out.cell (p := ⟨q, 1, none⟩) hq).trans HS.out.X.cells.2.1
        have c0 := (HB2.out.cell (p := ⟨ga, 0, none⟩) HCS.out.1).trans HCS.out.2.2.2.1
        have d0 := (HB2.out.cell (p := ⟨gp, 0, none⟩) HCS.out.2.1).trans HCS.out.2.2.2.2.1
        go_wp2
        go_quiet (fail)
        have HB3 : Hid (Below w6.heap.size w6 (wd.drewN nq)) := hide (HB2.out.trans ⟨rfl, rfl, rfl, Nat.le_refl _, fun _ _ => rfl⟩)
        clear x0 x1 c0 d0 HB2
        generalize wd.drewN nq = we at *
        go_wp2
        exact ⟨⟨1, m + si.size, by simp, by simp, by omega, hm2, HM2, HB3⟩, by simp [intOf]; omega⟩
      · obtain ⟨k', rfl⟩ : ∃ k', k = k' + 1 := ⟨k - 1, by omega⟩
        have hA2 := take_gI2 A hlt
        obtain ⟨g2, cg2, hvg, _, f0⟩ := row_at HRa.out (i := k') (by omega)
        simp only [Value.slice.injEq, Option.some.injEq, Addr.mk.injEq, and_true, true_and] at hvg
        obtain ⟨rfl, rfl⟩ := hvg
        have CP := hide (fun (W : World) (h : TbS w q (some ⟨gt, 0, none⟩) c1 a2 c2 tx mg p F v0 v1 b2 b3 W) => rpair_any h.R.drew (gI A k') (i0 : Int) (by have := HML.out; omega))
        have HNP : Hid (∀ r, Prd mg (gI A k') (i0 : Int) r → r < 0) := hide (fun r hr => by
          rcases hr with ⟨rfl, _⟩ | ⟨K, _, hK, hg⟩
          · omega
          · exfalso
            have h1 := HMN.out K hK (A.take k') (A.drop (k' + 1 + 1))
            rw [hg] at h1
            have h2 := HGI.out
            rw [← h2] at h1
            exact h1 hA2)
        generalize gI A k' = y at *
        have HF0 : Hid (w6.cell? ⟨ga, k' + 1 - 1, none⟩ = some (.int .i64 y)) := hide f0
        clear f0 hA2
        generalize k' + 1 = k at *
        have hkp : (0 : Int) < (k : Int) := by omega
        have hkl : (k : Int) - 1 < (A.length : Int) := by omega
        have hkz : (0 : Int) ≤ (k : Int) - 1 := by omega
        go_wp2
        go_quiet (fail)
        have HB2 : Hid (Below w6.heap.size w6 (wr.drewN nq)) := hide (HB.out.trans ⟨rfl, rfl, rfl, Nat.le_refl _, fun _ _ => rfl⟩)
        clear x0 x1 c0 d0 e0 HB
        generalize wr.drewN nq = wd at *
        have x0 := (HB2.out.cell (p := ⟨q, 0, none⟩) hq).trans HS.out.X.cells.1
        have x1 := (HB2.out.cell (p := ⟨q, 1, none⟩) hq).trans HS.out.X.cells.2.1
        have c0 := (HB2.out.cell (p := ⟨ga, k, none⟩) HCS.out.1).trans HCS.out.2.2.2.1
        have d0 := (HB2.out.cell (p := ⟨gp, k, none⟩) HCS.out.2.1).trans HCS.out.2.2.2.2.1
        have f0 := (HB2.out.cell (p := ⟨ga, k - 1, none⟩) HCS.out.1).trans HF0.out
        have HSD := hide (HS.out.next HB2.out)
        go_wp2
        generalize hMM : (m : Int) + (si.size : Int) = M at *
        have HMM := hide hMM
        clear hMM
        have hkd : 0 < k := by omega
        have hke : (1 : Int) ≤ (k : Int) := by omega
        have hkf : 1 ≤ k := by omega
        have hkw : IntKind.i64.wrap ((k : Int) - 1) = (k : Int) - 1 := by rw [IntKind.wrap_i64]; omega
        have hMd : (M != M) = false := by simp
        go_region_held3 (fun W => W.cell? ⟨q, 0, none⟩ = some (.slice (some ⟨gt, 0, none⟩) tx.length c1) ∧ W.cell? ⟨q, 1, none⟩ = some (.slice a2 mg.length c2) ∧ W.cell? ⟨ga, k, none⟩ = some (.int .i64 (i0 : Int)) ∧ W.cell? ⟨gp, k, none⟩ = some (.int .i64 M) ∧ W.cell? ⟨ga, k - 1, none⟩ = some (.int .i64 y)) (first | exact ⟨y0, y1, y2, y3, y4⟩ | exact ⟨x0, x1, c0, d0, f0⟩) (first
          | (go_at_call 20; refine (CP.out _ HSD.out).mono ?_; rintro e W1 ⟨⟨r, rfl, hr⟩, hb⟩; have hrn := HNP.out r hr; have hrd : decide (0 ≤ r) = false := (by simp; omega); have hb2 := undrew hb; have HB3 := hide (HB2.out.trans (hb2.mono HB2.out.size)); have y0 := (HB3.out.cell (p := ⟨q, 0, none⟩) hq).trans HS.out.X.cells.1; have y1 := (HB3.out.cell (p := ⟨q, 1, none⟩) hq).trans HS.out.X.cells.2.1; have y2 := (HB3.out.cell (p := ⟨ga, k, none⟩) HCS.out.1).trans HCS.out.2.2.2.1; have y3 := (HB3.out.cell (p := ⟨gp, k, none⟩) HCS.out.2.1).trans HCS.out.2.2.2.2.1; have y4 := (HB3.out.cell (p := ⟨ga, k - 1, none⟩) HCS.out.1).trans HF0.out; clear hr hrn hb hb2))
        go_wp2
        go_roundw
        case rel => exact ⟨k + 1, m + si.size, by rw [← HMM.out]; simp, by go_num, by omega, hm2, HM2, HB3⟩
        case measure => simp [intOf]; omega
    · obtain rfl : k = A.length := by omega
      go_wp2
      go_ret
      exact ⟨rfl, HS.out.B.trans (HB.out.mono HS.out.B.size)⟩

end Go.Proofs.Ytblbbenfaafcoaa
