/- Contracts: Sub. -/
import Derived.Test.YtceofnkjdkbebaaNatD
import Derived.Deep.RegionWith
namespace Go.Proofs.Ytceofnkjdkbebaa
open Go.RowKit
set_option linter.unusedVariables false
set_option linter.unusedSimpArgs false

theorem sub_step {P Bk T U x y b d q : Int} (h1 : P = T - U + Bk * b) (h2 : x - y - b = d - 4294967296 * q) : P + Bk * d = T + Bk * x - (U + Bk * y) + Bk * 4294967296 * q := by
  have h3 : Bk * (x - y - b) = Bk * (d - 4294967296 * q) := by rw [h2]
  simp only [Int.mul_sub, Int.mul_assoc] at h3 ⊢
  omega

/-- The difference's limbs: nothing is borrowed at the end where the second number isn't greater. -/
theorem sub_final {zs us ds : List Int} {b V U : Int} {n1 : Nat} (hz : Dg 4294967296 zs) (hu : Dg 4294967296 us) (hd : Dg 4294967296 ds) (hl : ds.length = zs.length)
    (h : pv 4294967296 ds = pv 4294967296 zs - pv 4294967296 (us.take n1) + 4294967296 ^ n1 * b) (hb0 : 0 ≤ b) (hb1 : b ≤ 1) (hV : pv 4294967296 zs = V) (hU : pv 4294967296 us = U) (hle : U ≤ V) (hn : Nz us) (hnl : zs.length = n1) :
    pv 4294967296 ds = V - U := by
  have hul : us.length ≤ n1 := by
    by_cases h2 : us.length ≤ n1
    · exact h2
    · have := pv_len_lt (by decide) hz hu hn (by omega)
      omega
  rw [List.take_of_length_le hul, hV, hU] at h
  have h1 := pv_bound (by decide) hd
  rw [hl, hnl] at h1
  have hp := pow_pos' (show (0 : Int) < 4294967296 by decide) n1
  have hb : b = 0 ∨ b = 1 := by omega
  rcases hb with rfl | rfl
  · rw [Int.mul_zero, Int.add_zero] at h; exact h
  · rw [Int.mul_one] at h; omega

set_option maxHeartbeats 1600000 in
theorem sub_own (ao1 ao2 : Option Addr) (n1 cap1 n2 cap2 : Nat) (V U : Int) (w : World) (hN1 : IsNat w ao1 n1 V) (hN2 : IsNat w ao2 n2 U) (hn1 : n1 ≤ 100000) (hn2 : n2 ≤ 100000) (hle : U ≤ V) :
    Calls Try.prog 13 #[.agg #[.slice ao1 n1 cap1], .agg #[.slice ao2 n2 cap2]] w fun e w' => ∃ ao' m, e = .returned (.tuple #[.agg #[.slice ao' m m], .bool true]) ∧ (∃ ds, Own .u32 43 w' w.heap.size ao' m m ds ∧ Dg 4294967296 ds ∧ Nz ds ∧ pv 4294967296 ds = V - U) ∧ m ≤ n1 ∧ Below w.heap.size w w' := by
  have hN1' := hN1
  have hN2' := hN2
  obtain ⟨zs, hR1, hD1, hNz1, hV1⟩ := hN1
  obtain ⟨us, hR2, hD2, hNz2, hV2⟩ := hN2
  have HV := hide hV1
  have HU := hide hV2
  clear hV1 hV2
  obtain ⟨W, hW⟩ : ∃ W, W = ((w.alloc (.cells #[.slice ao1 n1 cap1] 30)).alloc (.cells #[.slice ao2 n2 cap2] 30)).alloc (.cells #[.slice none 0 0] 30) := ⟨_, rfl⟩
  have hb0 : Below w.heap.size w W := by rw [hW]; exact ((below_alloc _ _).alloc (by simp) _).alloc (by simp; omega) _
  have hx1 : W.cell? ⟨w.heap.size, 0, none⟩ = some (.slice ao1 n1 cap1) := by rw [hW, cell_old _ _ (by simp; omega), cell_old _ _ (by simp)]; exact cell_new _ _ _ rfl
  have hx2 : W.cell? ⟨w.heap.size + 1, 0, none⟩ = some (.slice ao2 n2 cap2) := by rw [hW, cell_old _ _ (by simp)]; exact cell_new _ _ _ (by simp)
  have hx3 : W.cell? ⟨w.heap.size + 1 + 1, 0, none⟩ = some (.slice none 0 0) := by rw [hW]; exact cell_new _ _ _ (by simp)
  have hxf : W.frozen? ⟨w.heap.size + 1 + 1, 0, none⟩ = false := by rw [hW]; exact frozen_new _ _ _ (by simp)
  have hxs : W.heap.size = w.heap.size + 3 := by rw [hW]; simp
  go_enter Try.func13, Try.ntmps13
  go_wp2_with fail
  rw [← hW]
  refine (compare_any ao1 ao2 n1 cap1 n2 cap2 V U W (hN1'.kept hb0) (hN2'.kept hb0) (by omega) (by omega)).mono ?_
  rintro e w1 ⟨c, rfl, hc, hb1⟩
  have hc0 : decide (c < 0) = false := by
    simp only [decide_eq_false_iff_not]
    rcases hc with ⟨h1, h2⟩ | ⟨h1, h2⟩ | ⟨h1, h2⟩ <;> omega
  have hs1 := hb1.size
  have hx1' := (bcell hb1 (b := w.heap.size) (o := 0) (by omega)).trans hx1
  have hx2' := (bcell hb1 (b := w.heap.size + 1) (o := 0) (by omega)).trans hx2
  have hx3' := (bcell hb1 (b := w.heap.size + 1 + 1) (o := 0) (by omega)).trans hx3
  have hxf' := (bfrozen hb1 (b := w.heap.size + 1 + 1) (o := 0) (by omega)).trans hxf
  clear hx1 hx2 hx3 hxf hc
  go_wp2_with fail
  refine (limbs_any ao1 n1 cap1 zs _ (hR1.kept (hb0.trans (hb1.mono (by omega)))) (by omega)).mono ?_
  rintro e w2 ⟨g, rfl, hO2, hb2⟩
  have hs2 := hb2.size
  have hx2 := (bcell hb2 (b := w.heap.size + 1) (o := 0) (by omega)).trans hx2'
  have hx3 := (bcell hb2 (b := w.heap.size + 1 + 1) (o := 0) (by omega)).trans hx3'
  have hxf := (bfrozen hb2 (b := w.heap.size + 1 + 1) (o := 0) (by omega)).trans hxf'
  have hgl := (hO2.lt g rfl)
  have hbw : Below w.heap.size w w2 := (hb0.trans (hb1.mono (by omega))).trans (hb2.mono (by omega))
  have HW := hide hW
  have HXS : Hid (W.heap.size = w.heap.size + 3) := hide hxs
  have hws : w.heap.size + 3 ≤ w1.heap.size := by omega
  clear hx1' hx2' hx3' hxf' hW hxs hs1
  go_wp2
  go_loopw [7, 18] (fun c i wr => ∃ (k : Nat) (b : Int) (ds : List Int), k ≤ n1 ∧ i = .int .i64 k ∧ c = .int .u32 b ∧ 0 ≤ b ∧ b ≤ 1 ∧ Own .u32 43 wr w1.heap.size (some ⟨g, 0, none⟩) n1 n1 (ds ++ zs.drop k) ∧ Hid (ds.length = k) ∧ Dg 4294967296 ds ∧ Hid (pv 4294967296 ds = pv 4294967296 (zs.take k) - pv 4294967296 (us.take k) + 4294967296 ^ k * b) ∧ Below w1.heap.size w2 wr)
    (fun _ i _ => n1 - (intOf i).toNat)
  case atStart => exact ⟨0, 0, [], Nat.zero_le _, rfl, rfl, by omega, by omega, hO2, hide rfl, Dg.nil _, hide (by simp [pv]), Below.refl _ _⟩
  case round =>
    obtain ⟨k, b, ds, hk, rfl, rfl, hr0, hr1, hOr, hdl, hdd, hpv, hbr⟩ := hrel
    have hy2 := (bcell hbr (b := w.heap.size + 1) (o := 0) (by omega)).trans hx2
    by_cases hlt : k < n1
    · obtain ⟨g', hg', hbg, hgs, hcell, hfr⟩ := hOr.at hlt
      simp only [Option.some.injEq, Addr.mk.injEq, and_true] at hg'
      subst hg'
      obtain ⟨z, hz⟩ : ∃ z, z = zs.getD k 0 := ⟨_, rfl⟩
      have hzb : 0 ≤ z ∧ z < 4294967296 := by rw [hz]; exact hD1.getD (by decide) k
      have hck : wr.cell? ⟨g, k, none⟩ = some (.int .u32 z) := by
        rw [hcell k hlt, hz]
        congr 2
        rw [List.getD_eq_getElem?_getD, List.getElem?_append_right (by rw [hdl.out]; exact Nat.le_refl _), hdl.out, Nat.sub_self, List.getElem?_drop, Nat.add_zero, ← List.getD_eq_getElem?_getD]
      have hfk := hfr k
      obtain ⟨u, hu⟩ : ∃ u, u = us.getD k 0 := ⟨_, rfl⟩
      have hub : 0 ≤ u ∧ u < 4294967296 := by rw [hu]; exact hD2.getD (by decide) k
      have hla : Calls Try.prog 28 #[.slice ao2 n2 cap2, .int .i64 k] wr.drew fun e w' => e = .returned (.int .u32 u) ∧ w' = wr.drew := by
        rw [hu]
        exact limbAt_any ao2 n2 cap2 us k _ (hR2.kept (hbw.trans (hbr.mono (by omega))).drew) (by omega) (by omega)
      have HLA := hide hla
      have HSU := hide (sub32 z u b wr.drew hzb hub ⟨hr0, hr1⟩)
      have HZ := hide hz
      have HU2 := hide hu
      clear hz hcell hfr hu hla
      go_wp2
      go_region_with (first | (go_at_call 28; refine (unhide HLA).mono ?_; rintro e w' ⟨rfl, rfl⟩) | (go_at_call 27; refine (unhide HSU).mono ?_; rintro e w' ⟨d, q, rfl, hd0, hd1, hq0, hq1, hdq, rfl⟩))
      all_goals
        have hkz : k < zs.length := by have := hR1.1; omega
        have hst := (hOr.below ((Below.refl _ _).drew)).stored k hlt d
        rw [set_step ds zs k _ hdl.out hkz] at hst
        have HP : Hid (pv 4294967296 (ds ++ [d]) = pv 4294967296 (zs.take (k + 1)) - pv 4294967296 (us.take (k + 1)) + 4294967296 ^ (k + 1) * q) := by
          have e1 : pv 4294967296 (us.take (k + 1)) = pv 4294967296 (us.take k) + 4294967296 ^ k * u := by
            by_cases hku : k < us.length
            · rw [pv_take_succ _ _ _ hku, ← HU2.out]
            · have hu0 : u = 0 := by rw [HU2.out, List.getD_eq_getElem?_getD, List.getElem?_eq_none (by omega)]; rfl
              rw [List.take_of_length_le (by omega), List.take_of_length_le (by omega), hu0, Int.mul_zero, Int.add_zero]
          rw [pv_snoc, hdl.out, pv_take_succ _ _ _ hkz, ← HZ.out, e1, Int.pow_succ]
          exact hide (sub_step hpv.out hdq.out)
        have HG := hide (bset (hbr.drew) (b := g) (o := k) (by omega) (.int .u32 d))
        have HS := hide hst
        clear hst hOr
        go_wp2
        go_roundw
        case rel => exact ⟨k + 1, q, ds ++ [d], by omega, by go_num, rfl, hq0, hq1, HS.out, hide (by rw [List.length_append, hdl.out]; rfl), hdd.append (Dg.cons hd0 hd1 (Dg.nil _)), HP, HG.out⟩
        case measure => simp [intOf]; omega
    · have hkn : k = n1 := by omega
      have hds : ds ++ zs.drop k = ds := by rw [hkn, ← hR1.1, List.drop_length, List.append_nil]
      rw [hds] at hOr
      have hpv2 := hpv.out
      rw [hkn, List.take_of_length_le (show zs.length ≤ n1 by rw [hR1.1]; exact Nat.le_refl _)] at hpv2
      have HP := hide hpv2
      have hd1 : ds.length = n1 := by rw [hdl.out, hkn]
      have HDL := hide hd1
      have hy3 := (bcell hbr (b := w.heap.size + 1 + 1) (o := 0) (by omega)).trans hx3
      have hyf := (bfrozen hbr (b := w.heap.size + 1 + 1) (o := 0) (by omega)).trans hxf
      have hys := hbr.size
      clear hpv2 hds hkn hd1 hdl hpv
      go_wp2_with fail
      refine (cut_any w1.heap.size _ n1 n1 ds wr hOr (by omega)).mono ?_
      rintro e w3 ⟨ao3, m, rfl, hO3, _, hw3⟩
      subst hw3
      go_wp2
      have hOf := (hO3.kept (grownBy_setCell _ (w.heap.size + 1 + 1) 0 (.slice ao3 m m)) (own_ne hO3 (by omega))).mono (show w.heap.size ≤ w1.heap.size by omega)
      have h := isNat_chop hOf hdd
      have hval : pv 4294967296 ds = V - U := sub_final hD1 hD2 hdd (by rw [hR1.1]; exact HDL.out) HP.out hr0 hr1 HV.out HU.out hle hNz2 (by have := hR1.1; omega)
      rw [hval] at h
      refine bodyPost_ret (v := .tuple #[.agg #[.slice ao3 m m], .bool true]) (by simp [results, Try.results13, go_sem, hy3]) rfl ⟨ao3, m, rfl, ⟨_, hOf, chop_Dg hdd, chop_Nz _, by rw [chop_pv]; exact hval⟩, ?_, ?_⟩
      · have := h.2; have := HDL.out; omega
      · exact bset (hbw.trans (hbr.mono (by omega))) (by omega) _


theorem sub_yes (ao1 ao2 : Option Addr) (n1 cap1 n2 cap2 : Nat) (V U : Int) (w : World) (hN1 : IsNat w ao1 n1 V) (hN2 : IsNat w ao2 n2 U) (hn1 : n1 ≤ 100000) (hn2 : n2 ≤ 100000) (hle : U ≤ V) :
    Calls Try.prog 13 #[.agg #[.slice ao1 n1 cap1], .agg #[.slice ao2 n2 cap2]] w fun e w' => ∃ ao' m, e = .returned (.tuple #[.agg #[.slice ao' m m], .bool true]) ∧ IsNat w' ao' m (V - U) ∧ m ≤ n1 ∧ Below w.heap.size w w' := by
  refine (sub_own ao1 ao2 n1 cap1 n2 cap2 V U w hN1 hN2 hn1 hn2 hle).mono ?_
  rintro e w' ⟨ao', m, rfl, ⟨ds, h1, h2, h3, h4⟩, rest⟩
  exact ⟨ao', m, rfl, ⟨ds, h1.reads, h2, h3, h4⟩, rest⟩

set_option maxHeartbeats 400000 in
theorem sub_no (ao1 ao2 : Option Addr) (n1 cap1 n2 cap2 : Nat) (V U : Int) (w : World) (hN1 : IsNat w ao1 n1 V) (hN2 : IsNat w ao2 n2 U) (hn1 : n1 ≤ 100000) (hn2 : n2 ≤ 100000) (hlt : V < U) :
    Calls Try.prog 13 #[.agg #[.slice ao1 n1 cap1], .agg #[.slice ao2 n2 cap2]] w fun e w' => e = .returned (.tuple #[.agg #[.slice none 0 0], .bool false]) ∧ Below w.heap.size w w' := by
  obtain ⟨W, hW⟩ : ∃ W, W = ((w.alloc (.cells #[.slice ao1 n1 cap1] 30)).alloc (.cells #[.slice ao2 n2 cap2] 30)).alloc (.cells #[.slice none 0 0] 30) := ⟨_, rfl⟩
  have hb0 : Below w.heap.size w W := by rw [hW]; exact ((below_alloc _ _).alloc (by simp) _).alloc (by simp; omega) _
  have hx3 : W.cell? ⟨w.heap.size + 1 + 1, 0, none⟩ = some (.slice none 0 0) := by rw [hW]; exact cell_new _ _ _ (by simp)
  have hxf : W.frozen? ⟨w.heap.size + 1 + 1, 0, none⟩ = false := by rw [hW]; exact frozen_new _ _ _ (by simp)
  have hxs : W.heap.size = w.heap.size + 3 := by rw [hW]; simp
  go_enter Try.func13, Try.ntmps13
  go_wp2_with fail
  rw [← hW]
  refine (compare_any ao1 ao2 n1 cap1 n2 cap2 V U W (hN1.kept hb0) (hN2.kept hb0) (by omega) (by omega)).mono ?_
  rintro e w1 ⟨c, rfl, hc, hb1⟩
  have hc0 : decide (c < 0) = true := by
    simp only [decide_eq_true_eq]
    rcases hc with ⟨h1, h2⟩ | ⟨h1, h2⟩ | ⟨h1, h2⟩ <;> omega
  have hs1 := hb1.size
  have hx3' := (bcell hb1 (b := w.heap.size + 1 + 1) (o := 0) (by omega)).trans hx3
  have hxf' := (bfrozen hb1 (b := w.heap.size + 1 + 1) (o := 0) (by omega)).trans hxf
  have hws : w.heap.size + 3 ≤ w1.heap.size := by omega
  have HW := hide hW
  have HXS := hide hxs
  clear hx3 hxf hc hW hxs hs1
  go_wp2
  refine bodyPost_ret (v := .tuple #[.agg #[.slice none 0 0], .bool false]) (by simp [results, Try.results13, go_sem, hx3']) rfl ⟨rfl, ?_⟩
  exact bset (hb0.trans (hb1.mono (by have := HXS.out; omega))) (by omega) _

end Go.Proofs.Ytceofnkjdkbebaa
