/- Contract: raise. -/
import Derived.Test.YtceofnkjdkbebaaAddA
import Derived.Deep.RegionWith
namespace Go.Proofs.Ytceofnkjdkbebaa
open Go.RowKit
set_option linter.unusedVariables false
set_option linter.unusedSimpArgs false

set_option maxHeartbeats 4000000 in
theorem raise_any (base : Nat) (ao1 ao2 : Option Addr) (n1 cap1 n2 cap2 : Nat) (zs us : List Int) (V U : Int) (w : World) (hO1 : Own .u32 43 w base ao1 n1 cap1 zs) (hD1 : Dg 4294967296 zs) (hV : pv 4294967296 zs = V)
    (hRU : ∀ w', Below base w w' → Reads .u32 w' ao2 n2 us) (hDU : Dg 4294967296 us) (hU : pv 4294967296 us = U) (hn1 : n1 ≤ 100000) (hn2 : n2 ≤ 100000) (hbase : base ≤ w.heap.size) (N : Nat) (hN : N = if n1 < n2 then n2 else n1) :
    Calls Try.prog 24 #[.slice ao1 n1 cap1, .slice ao2 n2 cap2] w fun e w' => RaiseEnd base ao1 N (V + U) w e w' := by
  obtain ⟨i0, hi, hz0, hz1, hz2⟩ := info_parts info_u32
  have HU := hide hU
  have hul : us.length = n2 := (hRU w (Below.refl _ _)).1
  clear hU
  by_cases hlt0 : n1 < n2
  · obtain ⟨m, hm, hmp, hmN⟩ : ∃ m : Nat, ((n2 : Int) - n1 = m) ∧ 0 < m ∧ Hid (n1 + m = n2) := ⟨n2 - n1, by omega, by omega, hide (by omega)⟩
    obtain ⟨aoS, capS, wS, hrun, hOS0, hgS, hnew⟩ := run_append_zeros (P := Try.prog) w 28 3 28 43 i0 .u32 .i64 .i64 4 Try.underlying28 Try.underlying3 hi hz0 hz1 hz2 base ao1 n1 cap1 zs hO1 m hmp (by omega) (by omega) hbase
    have eN : n1 + m = N := by rw [hN, if_pos hlt0]; exact hmN.out
    rw [eN] at hOS0 hrun
    obtain ⟨ss, hss⟩ : ∃ ss, ss = zs ++ List.replicate m 0 := ⟨_, rfl⟩
    rw [← hss] at hOS0
    have hOS := hOS0
    have hDS : Dg 4294967296 ss := by rw [hss]; exact hD1.append (dg_zeros (by decide) m)
    have HV0 : Hid (pv 4294967296 ss = V) := by rw [hss, pv_append, pv_zeros, Int.mul_zero, Int.add_zero]; exact hide hV
    have hbS : Below base w wS := Own.to_below hgS hbase (fun c hc => (hO1.lt c hc).1)
    have hNn : n2 ≤ N := by rw [hN, if_pos hlt0]; exact Nat.le_refl _
    have hNb : N ≤ 100000 := by rw [hN, if_pos hlt0]; exact hn2
    have HSG : Hid (∀ wr, wS.grownBy wr (blk aoS) → w.grownBy wr (blk ao1)) := by
      refine hide (fun wr hr => grownBy_new hgS hr (fun c hc => hnew c hc))
    have HN := hide hN
    clear hN hOS0 hss hgS eN hV hnew
    go_enter Try.func24, Try.ntmps24
    go_wp2_with (at_builtin; refine Lib.wpList_append_run _ rfl _ _ _ _ rfl _ _ rfl rfl _ _ hrun ?_)
    clear hrun
    go_loopw [5, 21] (fun c i wr => ∃ (k : Nat) (b : Int) (ds : List Int), k ≤ N ∧ i = .int .i64 k ∧ c = .int .u32 b ∧ 0 ≤ b ∧ b ≤ 1 ∧ Own .u32 43 wr base aoS N capS (ds ++ ss.drop k) ∧ Hid (ds.length = k) ∧ Dg 4294967296 ds ∧ Hid (pv 4294967296 ds + 4294967296 ^ k * b = pv 4294967296 (ss.take k) + pv 4294967296 (us.take k)) ∧ wS.grownBy wr (blk aoS))
      (fun _ i _ => N - (intOf i).toNat)
    case atStart => exact ⟨0, 0, [], Nat.zero_le _, rfl, rfl, by omega, by omega, hOS, hide rfl, Dg.nil _, hide (by simp [pv]), World.grownBy.refl _ _⟩
    case round =>
      obtain ⟨k, b, ds, hk, rfl, rfl, hr0, hr1, hOr, hdl, hdd, hpv, hgr⟩ := hrel
      by_cases hlt : k < N
      · by_cases hstop : n2 ≤ k ∧ b = 0
        · obtain ⟨hk2, rfl⟩ := hstop
          have HV : Hid (pv 4294967296 (ds ++ ss.drop k) = V + U) := by
            have h1 := hpv.out
            rw [Int.mul_zero, Int.add_zero, List.take_of_length_le (show us.length ≤ k by rw [hul]; exact hk2)] at h1
            rw [pv_append, hdl.out, h1, HU.out]
            have h2 : pv 4294967296 ss = pv 4294967296 (ss.take k) + 4294967296 ^ k * pv 4294967296 (ss.drop k) := by
              conv => lhs; rw [← List.take_append_drop k ss]
              rw [pv_append, List.length_take, Nat.min_eq_left (by rw [hOS.1]; omega)]
            rw [HV0.out] at h2
            exact hide (by omega)
          clear hpv
          go_wp2
          go_ret
          exact ⟨aoS, N, capS, _, rfl, hOr, hdd.append (hDS.drop k), HV.out, by omega, HSG.out wr hgr⟩
        · obtain ⟨g, rfl, hbg, hgs, hcell, hfr⟩ := hOr.at hlt
          obtain ⟨z, hz⟩ : ∃ z, z = ss.getD k 0 := ⟨_, rfl⟩
          have hzb : 0 ≤ z ∧ z < 4294967296 := by rw [hz]; exact hDS.getD (by decide) k
          have hck : wr.cell? ⟨g, k, none⟩ = some (.int .u32 z) := by
            rw [hcell k hlt, hz]
            congr 2
            rw [List.getD_eq_getElem?_getD, List.getElem?_append_right (by rw [hdl.out]; exact Nat.le_refl _), hdl.out, Nat.sub_self, List.getElem?_drop, Nat.add_zero, ← List.getD_eq_getElem?_getD]
          have hfk := hfr k
          obtain ⟨u, hu⟩ : ∃ u, u = us.getD k 0 := ⟨_, rfl⟩
          have hub : 0 ≤ u ∧ u < 4294967296 := by rw [hu]; exact hDU.getD (by decide) k
          have hbw : Below base w wr := hbS.trans (Own.to_below hgr (by have := hbS.size; omega) (fun c hc => (hOS.lt c hc).1))
          have hla : Calls Try.prog 28 #[.slice ao2 n2 cap2, .int .i64 k] wr.drew fun e w' => e = .returned (.int .u32 u) ∧ w' = wr.drew := by
            rw [hu]
            exact limbAt_any ao2 n2 cap2 us k _ (hRU _ hbw.drew) (by omega) (by omega)
          have HLA := hide hla
          have HSU := hide (add32 z u b wr.drew hzb hub ⟨hr0, hr1⟩)
          have HZ := hide hz
          have HU2 := hide hu
          have hguard : (decide ((n2 : Int) ≤ (k : Int)) && (b == 0)) = false := by
            cases hx : (decide ((n2 : Int) ≤ (k : Int)) && (b == 0)) with
            | false => rfl
            | true =>
              simp at hx
              exact absurd ⟨by omega, hx.2⟩ hstop
          clear hz hcell hfr hu hla hstop hbw
          rcases (show k < n2 ∨ (n2 ≤ k ∧ ¬ b = 0) by
            by_cases h : k < n2
            · exact Or.inl h
            · right
              refine ⟨by omega, fun hb0 => ?_⟩
              rw [hb0] at hguard
              simp at hguard
              omega) with hc | ⟨hc, hb0⟩
          all_goals
            clear hguard
            first | (have hbz : (b == 0) = false := by simpa using hb0) | skip
            go_wp2
            go_region_with (first | (go_at_call 28; refine (unhide HLA).mono ?_; rintro e w' ⟨rfl, rfl⟩) | (go_at_call 33; refine (unhide HSU).mono ?_; rintro e w' ⟨d, q, rfl, hd0, hd1, hq0, hq1, hdq, rfl⟩))
            all_goals
              have hkz : k < ss.length := by have := hOS.1; omega
              have hst := (hOr.below ((Below.refl _ _).drew)).stored k hlt d
              rw [set_step ds ss k _ hdl.out hkz] at hst
              have HP : Hid (pv 4294967296 (ds ++ [d]) + 4294967296 ^ (k + 1) * q = pv 4294967296 (ss.take (k + 1)) + pv 4294967296 (us.take (k + 1))) := by
                rw [pv_snoc, hdl.out, pv_take_gen, pv_take_gen, ← HZ.out, ← HU2.out, Int.pow_succ]
                exact hide (raise_step hpv.out hdq.out)
              have HG : Hid (wS.grownBy (wr.drew.setCell ⟨g, k, none⟩ (.int .u32 d)) (blk (some ⟨g, 0, none⟩))) := by
                exact hide (grownBy_trans (grownBy_trans hgr (below_grownBy (Below.refl _ _).drew _)) (grownBy_setCell _ g k _))
              have HS : Hid (Own .u32 43 (wr.drew.setCell ⟨g, k, none⟩ (.int .u32 d)) base (some ⟨g, 0, none⟩) N capS (ds ++ [d] ++ ss.drop (k + 1))) := by
                exact hide hst
              clear hst hOr hgr
              go_wp2
              go_roundw
              case rel => exact ⟨k + 1, q, ds ++ [d], by omega, by go_num, rfl, hq0, hq1, HS.out, hide (by rw [List.length_append, hdl.out]; rfl), hdd.append (Dg.cons hd0 hd1 (Dg.nil _)), HP, HG.out⟩
              case measure => simp [intOf]; omega
      · have hkN : k = N := by omega
        have hds : ds ++ ss.drop k = ds := by rw [hkN, List.drop_eq_nil_of_le (by rw [hOS.1]; exact Nat.le_refl _), List.append_nil]
        rw [hds] at hOr
        have HV : Hid (pv 4294967296 ds + 4294967296 ^ N * b = V + U) := by
          have h1 := hpv.out
          rw [hkN, List.take_of_length_le (show ss.length ≤ N by rw [hOS.1]; exact Nat.le_refl _), List.take_of_length_le (show us.length ≤ N by rw [hul]; omega), HV0.out, HU.out] at h1
          exact hide h1
        have hdN : ds.length = N := by rw [hdl.out, hkN]
        have HDN := hide hdN
        have hbw : base ≤ wr.heap.size := by have := hgr.size; have := hbS.size; omega
        clear hpv hds hkN hdN hdl
        go_wp2_with (first | (at_builtin; refine wpList_append_one wr rfl _ _ 28 rfl 43 i0 (.int .u32 0) 4 Try.underlying28 hi hz0 hz1 hz2 rfl .u32 base aoS N capS ds _ rfl hOr rfl (by omega) (by omega) hbw ?_) | fail)
        · intro ao' cap' w5 hO5 hg5
          go_wp2
          go_ret
          refine ⟨ao', N + 1, cap', _, rfl, hO5, hdd.append (Dg.cons hr0 (by omega) (Dg.nil _)), ?_, by omega, HSG.out w5 (grownBy_trans hgr hg5)⟩
          rw [pv_snoc, HDN.out]
          exact HV.out
  · have eN : n1 = N := by rw [hN, if_neg hlt0]
    subst eN
    obtain ⟨N, hNN⟩ : ∃ N, N = n1 := ⟨_, rfl⟩
    obtain ⟨aoS, hao⟩ : ∃ a, a = ao1 := ⟨_, rfl⟩
    obtain ⟨capS, hcap⟩ : ∃ a, a = cap1 := ⟨_, rfl⟩
    obtain ⟨ss, hss⟩ : ∃ a, a = zs := ⟨_, rfl⟩
    obtain ⟨wS, hwS⟩ : ∃ a, a = w := ⟨_, rfl⟩
    subst hNN hao hcap hss
    have hOS := hO1
    have hDS := hD1
    have HV0 := hide hV
    have hbS : Below base w wS := by rw [hwS]; exact Below.refl _ _
    have hNn : n2 ≤ N := by omega
    have hNb := hn1
    have HSG : Hid (∀ wr, wS.grownBy wr (blk aoS) → w.grownBy wr (blk aoS)) := hide (fun wr hr => by rw [hwS] at hr; exact hr)
    rw [← hwS] at hOS
    have hwS' := hwS
    subst hwS
    clear hN hV
    go_enter Try.func24, Try.ntmps24
    go_wp2
    go_loopw [5, 21] (fun c i wr => ∃ (k : Nat) (b : Int) (ds : List Int), k ≤ N ∧ i = .int .i64 k ∧ c = .int .u32 b ∧ 0 ≤ b ∧ b ≤ 1 ∧ Own .u32 43 wr base aoS N capS (ds ++ ss.drop k) ∧ Hid (ds.length = k) ∧ Dg 4294967296 ds ∧ Hid (pv 4294967296 ds + 4294967296 ^ k * b = pv 4294967296 (ss.take k) + pv 4294967296 (us.take k)) ∧ wS.grownBy wr (blk aoS))
      (fun _ i _ => N - (intOf i).toNat)
    case atStart => exact ⟨0, 0, [], Nat.zero_le _, rfl, rfl, by omega, by omega, hOS, hide rfl, Dg.nil _, hide (by simp [pv]), World.grownBy.refl _ _⟩
    case round =>
      obtain ⟨k, b, ds, hk, rfl, rfl, hr0, hr1, hOr, hdl, hdd, hpv, hgr⟩ := hrel
      by_cases hlt : k < N
      · by_cases hstop : n2 ≤ k ∧ b = 0
        · obtain ⟨hk2, rfl⟩ := hstop
          have HV : Hid (pv 4294967296 (ds ++ ss.drop k) = V + U) := by
            have h1 := hpv.out
            rw [Int.mul_zero, Int.add_zero, List.take_of_length_le (show us.length ≤ k by rw [hul]; exact hk2)] at h1
            rw [pv_append, hdl.out, h1, HU.out]
            have h2 : pv 4294967296 ss = pv 4294967296 (ss.take k) + 4294967296 ^ k * pv 4294967296 (ss.drop k) := by
              conv => lhs; rw [← List.take_append_drop k ss]
              rw [pv_append, List.length_take, Nat.min_eq_left (by rw [hOS.1]; omega)]
            rw [HV0.out] at h2
            exact hide (by omega)
          clear hpv
          go_wp2
          go_ret
          exact ⟨aoS, N, capS, _, rfl, hOr, hdd.append (hDS.drop k), HV.out, by omega, HSG.out wr hgr⟩
        · obtain ⟨g, rfl, hbg, hgs, hcell, hfr⟩ := hOr.at hlt
          obtain ⟨z, hz⟩ : ∃ z, z = ss.getD k 0 := ⟨_, rfl⟩
          have hzb : 0 ≤ z ∧ z < 4294967296 := by rw [hz]; exact hDS.getD (by decide) k
          have hck : wr.cell? ⟨g, k, none⟩ = some (.int .u32 z) := by
            rw [hcell k hlt, hz]
            congr 2
            rw [List.getD_eq_getElem?_getD, List.getElem?_append_right (by rw [hdl.out]; exact Nat.le_refl _), hdl.out, Nat.sub_self, List.getElem?_drop, Nat.add_zero, ← List.getD_eq_getElem?_getD]
          have hfk := hfr k
          obtain ⟨u, hu⟩ : ∃ u, u = us.getD k 0 := ⟨_, rfl⟩
          have hub : 0 ≤ u ∧ u < 4294967296 := by rw [hu]; exact hDU.getD (by decide) k
          have hbw : Below base wS wr := hbS.trans (Own.to_below hgr (by have := hbS.size; omega) (fun c hc => (hOS.lt c hc).1))
          have hla : Calls Try.prog 28 #[.slice ao2 n2 cap2, .int .i64 k] wr.drew fun e w' => e = .returned (.int .u32 u) ∧ w' = wr.drew := by
            rw [hu]
            exact limbAt_any ao2 n2 cap2 us k _ (hRU _ hbw.drew) (by omega) (by omega)
          have HLA := hide hla
          have HSU := hide (add32 z u b wr.drew hzb hub ⟨hr0, hr1⟩)
          have HZ := hide hz
          have HU2 := hide hu
          have hguard : (decide ((n2 : Int) ≤ (k : Int)) && (b == 0)) = false := by
            cases hx : (decide ((n2 : Int) ≤ (k : Int)) && (b == 0)) with
            | false => rfl
            | true =>
              simp at hx
              exact absurd ⟨by omega, hx.2⟩ hstop
          clear hz hcell hfr hu hla hstop hbw
          rcases (show k < n2 ∨ (n2 ≤ k ∧ ¬ b = 0) by
            by_cases h : k < n2
            · exact Or.inl h
            · right
              refine ⟨by omega, fun hb0 => ?_⟩
              rw [hb0] at hguard
              simp at hguard
              omega) with hc | ⟨hc, hb0⟩
          all_goals
            clear hguard
            first | (have hbz : (b == 0) = false := by simpa using hb0) | skip
            go_wp2
            go_region_with (first | (go_at_call 28; refine (unhide HLA).mono ?_; rintro e w' ⟨rfl, rfl⟩) | (go_at_call 33; refine (unhide HSU).mono ?_; rintro e w' ⟨d, q, rfl, hd0, hd1, hq0, hq1, hdq, rfl⟩))
            all_goals
              have hkz : k < ss.length := by have := hOS.1; omega
              have hst := (hOr.below ((Below.refl _ _).drew)).stored k hlt d
              rw [set_step ds ss k _ hdl.out hkz] at hst
              have HP : Hid (pv 4294967296 (ds ++ [d]) + 4294967296 ^ (k + 1) * q = pv 4294967296 (ss.take (k + 1)) + pv 4294967296 (us.take (k + 1))) := by
                rw [pv_snoc, hdl.out, pv_take_gen, pv_take_gen, ← HZ.out, ← HU2.out, Int.pow_succ]
                exact hide (raise_step hpv.out hdq.out)
              have HG : Hid (wS.grownBy (wr.drew.setCell ⟨g, k, none⟩ (.int .u32 d)) (blk (some ⟨g, 0, none⟩))) := by
                exact hide (grownBy_trans (grownBy_trans hgr (below_grownBy (Below.refl _ _).drew _)) (grownBy_setCell _ g k _))
              have HS : Hid (Own .u32 43 (wr.drew.setCell ⟨g, k, none⟩ (.int .u32 d)) base (some ⟨g, 0, none⟩) N capS (ds ++ [d] ++ ss.drop (k + 1))) := by
                exact hide hst
              clear hst hOr hgr
              go_wp2
              go_roundw
              case rel => exact ⟨k + 1, q, ds ++ [d], by omega, by go_num, rfl, hq0, hq1, HS.out, hide (by rw [List.length_append, hdl.out]; rfl), hdd.append (Dg.cons hd0 hd1 (Dg.nil _)), HP, HG.out⟩
              case measure => simp [intOf]; omega
      · have hkN : k = N := by omega
        have hds : ds ++ ss.drop k = ds := by rw [hkN, List.drop_eq_nil_of_le (by rw [hOS.1]; exact Nat.le_refl _), List.append_nil]
        rw [hds] at hOr
        have HV : Hid (pv 4294967296 ds + 4294967296 ^ N * b = V + U) := by
          have h1 := hpv.out
          rw [hkN, List.take_of_length_le (show ss.length ≤ N by rw [hOS.1]; exact Nat.le_refl _), List.take_of_length_le (show us.length ≤ N by rw [hul]; omega), HV0.out, HU.out] at h1
          exact hide h1
        have hdN : ds.length = N := by rw [hdl.out, hkN]
        have HDN := hide hdN
        have hbw : base ≤ wr.heap.size := by have := hgr.size; have := hbS.size; omega
        clear hpv hds hkN hdN hdl
        go_wp2_with (first | (at_builtin; refine wpList_append_one wr rfl _ _ 28 rfl 43 i0 (.int .u32 0) 4 Try.underlying28 hi hz0 hz1 hz2 rfl .u32 base aoS N capS ds _ rfl hOr rfl (by omega) (by omega) hbw ?_) | fail)
        · intro ao' cap' w5 hO5 hg5
          go_wp2
          go_ret
          refine ⟨ao', N + 1, cap', _, rfl, hO5, hdd.append (Dg.cons hr0 (by omega) (Dg.nil _)), ?_, by omega, HSG.out w5 (grownBy_trans hgr hg5)⟩
          rw [pv_snoc, HDN.out]
          exact HV.out

end Go.Proofs.Ytceofnkjdkbebaa
