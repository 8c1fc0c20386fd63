/- Contracts: timesPlus, Times, divideBy, Divide. -/
import Derived.Test.YtceofnkjdkbebaaNatB
namespace Go.Proofs.Ytceofnkjdkbebaa
open Go.RowKit
set_option linter.unusedVariables false
set_option linter.unusedSimpArgs false

theorem set_step (ds zs : List Int) (k : Nat) (d : Int) (hl : ds.length = k) (hk : k < zs.length) : (ds ++ zs.drop k).set k d = (ds ++ [d]) ++ zs.drop (k + 1) := by
  rw [List.set_append_right _ _ (by omega), hl, Nat.sub_self, drop_getD zs k hk, List.set_cons_zero, List.append_assoc]
  rfl

theorem times_step {P Bk T x m cy z d c : Int} (h1 : P + Bk * cy = T * x + m) (h2 : d + 4294967296 * c = cy + z * x) : P + Bk * d + Bk * 4294967296 * c = (T + Bk * z) * x + m := by
  have h3 : Bk * (d + 4294967296 * c) = Bk * (cy + z * x) := by rw [h2]
  simp only [Int.mul_add, Int.add_mul, Int.mul_assoc] at h1 h3 ⊢
  omega

set_option maxHeartbeats 400000 in
theorem timesPlus_any (base : Nat) (ao : Option Addr) (n cap : Nat) (zs : List Int) (x m : Int) (w : World) (hO : Own .u32 43 w base ao n cap zs) (hD : Dg 4294967296 zs) (hn : n ≤ 1000000) (hx : 0 ≤ x ∧ x < 4294967296) (hm : 0 ≤ m ∧ m < 4294967296) (hbase : base ≤ w.heap.size) :
    Calls Try.prog 32 #[.slice ao n cap, .int .u32 x, .int .u32 m] w fun e w' => ∃ ao' cap' ds, e = .returned (.slice ao' (n + 1) cap') ∧ Own .u32 43 w' base ao' (n + 1) cap' ds ∧ Dg 4294967296 ds ∧ pv 4294967296 ds = pv 4294967296 zs * x + m ∧ w.grownBy w' (blk ao) := by
  obtain ⟨i0, hi, hz0, hz1, hz2⟩ := info_parts info_u32
  go_enter Try.func32, Try.ntmps32
  go_wp2
  go_loopw [7, 13] (fun c i wr => ∃ (k : Nat) (cy : Int) (ds : List Int), k ≤ n ∧ i = .int .i64 k ∧ c = .int .u64 cy ∧ 0 ≤ cy ∧ cy < 4294967296 ∧ Own .u32 43 wr base ao n cap (ds ++ zs.drop k) ∧ Hid (ds.length = k) ∧ Dg 4294967296 ds ∧ Hid (pv 4294967296 ds + 4294967296 ^ k * cy = pv 4294967296 (zs.take k) * x + m) ∧ w.grownBy wr (blk ao))
    (fun _ i _ => n - (intOf i).toNat)
  case atStart => exact ⟨0, m, [], Nat.zero_le _, rfl, rfl, hm.1, hm.2, hO, hide rfl, Dg.nil _, hide (by simp [pv]), World.grownBy.refl _ _⟩
  case round =>
    obtain ⟨k, cy, ds, hk, rfl, rfl, hc0, hc1, hOr, hdl, hdd, hpv, hgr⟩ := hrel
    by_cases hlt : k < n
    · obtain ⟨g, rfl, hbg, hgs, hcell, hfr⟩ := hOr.at hlt
      obtain ⟨z, hz⟩ : ∃ z, z = zs.getD k 0 := ⟨_, rfl⟩
      have hzb : 0 ≤ z ∧ z < 4294967296 := by rw [hz]; exact hD.getD (by decide) k
      have hck : wr.cell? ⟨g, k, none⟩ = some (.int .u32 z) := by
        rw [hcell k hlt, hz]
        congr 2
        rw [List.getD_eq_getElem?_getD, List.getElem?_append_right (by rw [hdl.out]; exact Nat.le_refl _), hdl.out, Nat.sub_self, List.getElem?_drop, Nat.add_zero, ← List.getD_eq_getElem?_getD]
      have hfk := hfr k
      have HZ := hide hz
      have hzx : 0 ≤ z * x ∧ z * x ≤ 18446744065119617025 := by
        refine ⟨Int.mul_nonneg hzb.1 hx.1, ?_⟩
        have h1 : z * x ≤ 4294967295 * x := Int.mul_le_mul_of_nonneg_right (by omega) hx.1
        omega
      clear hz hcell hfr
      have hkz : k < zs.length := by have := hO.1; omega
      have hst := hOr.stored k hlt ((cy + z * x) % 4294967296)
      rw [set_step ds zs k _ hdl.out hkz] at hst
      have HP : Hid (pv 4294967296 (ds ++ [(cy + z * x) % 4294967296]) + 4294967296 ^ (k + 1) * ((cy + z * x) / 4294967296) = pv 4294967296 (zs.take (k + 1)) * x + m) := by
        rw [pv_snoc, hdl.out, pv_take_succ _ _ _ hkz, ← HZ.out, Int.pow_succ]
        exact hide (times_step hpv.out (by omega))
      have HG := hide (grownBy_trans hgr (grownBy_setCell wr g k (.int .u32 ((cy + z * x) % 4294967296))))
      have HS := hide hst
      clear hst hgr hOr
      go_wp2
      go_roundw
      case rel => exact ⟨k + 1, _, ds ++ [(cy + z * x) % 4294967296], by omega, by go_num, rfl, by omega, by omega, HS.out, hide (by rw [List.length_append, hdl.out]; rfl), hdd.append (Dg.cons (by omega) (by omega) (Dg.nil _)), HP, HG.out⟩
      case measure => simp [intOf]; omega
    · have hkn : k = n := by omega
      have hds : ds ++ zs.drop k = ds := by rw [hkn, ← hO.1, List.drop_length, List.append_nil]
      rw [hds] at hOr
      have hpv2 := hpv.out
      rw [hkn, ← hO.1, List.take_length, hO.1] at hpv2
      have HP := hide hpv2
      have HN := hide hkn
      have hbw : base ≤ wr.heap.size := by have := hgr.size; omega
      clear hpv2 hds hkn
      go_wp2_with (first | (at_builtin; refine wpList_append_int _ rfl _ _ 28 rfl 43 i0 (.int .u32 0) 4 Try.underlying28 hi hz0 hz1 hz2 rfl .u32 base ao n cap ds rfl (hOr.below (below_alloc _ _)) ⟨wr.heap.size, 0, none⟩ 1 1 [cy] rfl rfl ?_ ?_ ?_ ?_ ?_) | fail)
      · intro j hj
        match j, hj with
        | 0, _ => simp [Addr.add]
      · omega
      · omega
      · simp; omega
      · intro ao' cap' w1 hO1 hg1
        go_wp2
        go_ret
        refine ⟨ao', cap', ds ++ [cy], rfl, hO1, hdd.append (Dg.cons hc0 hc1 (Dg.nil _)), ?_, ?_⟩
        · rw [pv_snoc, hdl.out, HN.out]; exact HP.out
        · exact grownBy_trans (grownBy_trans hgr (World.grownBy_alloc _ _ _)) hg1


/-- The slice (ao, m) holds the limbs of the number V, without noughts at the end. -/
def IsNat (w : World) (ao : Option Addr) (m : Nat) (V : Int) : Prop := ∃ ds, Reads .u32 w ao m ds ∧ Dg 4294967296 ds ∧ Nz ds ∧ pv 4294967296 ds = V

theorem IsNat.kept {w w' : World} {ao : Option Addr} {m : Nat} {V : Int} (h : IsNat w ao m V) (hb : Below w.heap.size w w') : IsNat w' ao m V := by
  obtain ⟨ds, hR, r⟩ := h
  exact ⟨ds, hR.kept hb, r⟩

theorem IsNat.nonneg {w : World} {ao : Option Addr} {m : Nat} {V : Int} (h : IsNat w ao m V) : 0 ≤ V := by
  obtain ⟨ds, _, hD, _, rfl⟩ := h
  exact pv_nonneg (by decide) hD

theorem IsNat.zero {w : World} {ao : Option Addr} {m : Nat} {V : Int} (h : IsNat w ao m V) : m = 0 ↔ V = 0 := by
  obtain ⟨ds, hR, hD, hN, rfl⟩ := h
  constructor
  · intro h
    have := hR.1
    rw [h] at this
    rw [List.eq_nil_of_length_eq_zero this]; rfl
  · intro h
    have h1 := hR.1
    rw [pv_zero (by decide) hD hN h] at h1
    exact h1.symm

theorem isNat_chop {w : World} {ao : Option Addr} {m cap base : Nat} {zs : List Int} (hO : Own .u32 43 w base ao m cap (chop zs)) (hD : Dg 4294967296 zs) : IsNat w ao m (pv 4294967296 zs) ∧ m ≤ zs.length :=
  ⟨⟨chop zs, hO.reads, chop_Dg hD, chop_Nz zs, chop_pv _ zs⟩, by rw [← hO.1]; exact chop_len zs⟩

theorem of_nat (ao : Option Addr) (n cap : Nat) (zs : List Int) (w : World) (hR : Reads .u32 w ao n zs) (hD : Dg 4294967296 zs) (hn : n ≤ 1000000) :
    Calls Try.prog 7 #[.slice ao n cap] w fun e w' => ∃ ao' m, e = .returned (.agg #[.slice ao' m m]) ∧ IsNat w' ao' m (pv 4294967296 zs) ∧ m ≤ n ∧ Below w.heap.size w w' := by
  refine (of_any ao n cap zs w hR hn).mono ?_
  rintro e w' ⟨ao', m, rfl, hO, hb⟩
  have h := isNat_chop hO hD
  exact ⟨ao', m, rfl, h.1, by rw [← hR.1]; exact h.2, hb⟩

theorem int_nat (n : Int) (w : World) (h0 : 0 ≤ n) (h1 : n < 18446744073709551616) :
    Calls Try.prog 19 #[.int .u64 n] w fun e w' => ∃ ao' m, e = .returned (.agg #[.slice ao' m m]) ∧ IsNat w' ao' m n ∧ m ≤ 2 ∧ Below w.heap.size w w' := by
  refine (int_any n w h0 h1).mono ?_
  rintro e w' ⟨ao', m, rfl, hO, hb⟩
  have h := isNat_chop hO (Dg.cons (by omega) (by omega) (Dg.cons (by omega) (by omega) (Dg.nil _)))
  have e1 : pv 4294967296 [n % 4294967296, n / 4294967296] = n := by simp only [pv]; omega
  rw [e1] at h
  exact ⟨ao', m, rfl, h.1, h.2, hb⟩

set_option maxHeartbeats 400000 in
theorem times_any (ao : Option Addr) (n cap : Nat) (V x : Int) (w : World) (hN : IsNat w ao n V) (hn : n ≤ 100000) (hx : 0 ≤ x ∧ x < 4294967296) :
    Calls Try.prog 18 #[.agg #[.slice ao n cap], .int .u32 x] w fun e w' => ∃ ao' m, e = .returned (.agg #[.slice ao' m m]) ∧ IsNat w' ao' m (V * x) ∧ m ≤ n + 1 ∧ Below w.heap.size w w' := by
  obtain ⟨zs, hR, hD, hNz, hV⟩ := hN
  have HV := hide hV
  clear hV
  go_enter Try.func18, Try.ntmps18
  go_wp2_with fail
  refine (limbs_any ao n cap zs _ (hR.kept ((below_alloc _ _).alloc (by simp) _)) (by omega)).mono ?_
  rintro e w1 ⟨g, rfl, hO1, hb1⟩
  obtain ⟨hc1, hf1, hs1⟩ := keep_cell hb1 (a := ⟨w.heap.size + 1, 0, none⟩) (v := .slice none 0 0) (by simp) (by simp)
  have hz1 : w.heap.size + 2 ≤ w1.heap.size := by have := hb1.size; simp at this; omega
  go_wp2_with fail
  refine (timesPlus_any (w.heap.size + 2) _ n n zs x 0 w1 (hO1.mono (by simp)) hD (by omega) hx (by omega) (by omega)).mono ?_
  rintro e w2 ⟨ao2, cap2, ds, rfl, hO2, hD2, hpv, hg2⟩
  have hb2 : Below (w.heap.size + 2) w1 w2 := Own.to_below hg2 (by omega) (fun b hb => by have := (hO1.lt b hb).1; simp at this; omega)
  have HP := hide hpv
  clear hpv
  go_wp2_with fail
  refine (cut_any (w.heap.size + 2) ao2 (n + 1) cap2 ds w2 hO2 (by omega)).mono ?_
  rintro e w3 ⟨ao3, m, rfl, hO3, _, hw3⟩
  subst hw3
  have hc2 : w3.cell? ⟨w.heap.size + 1, 0, none⟩ = some (.slice none 0 0) := (bcell hb2 (by omega)).trans hc1
  have hf2 : w3.frozen? ⟨w.heap.size + 1, 0, none⟩ = false := (bfrozen hb2 (by omega)).trans hf1
  have hs2 : w.heap.size + 1 < w3.heap.size := by have := hb2.size; omega
  go_wp2
  have h := isNat_chop ((hO3.mono (Nat.le_refl _)).kept (grownBy_setCell _ (w.heap.size + 1) 0 (.slice ao3 m m)) (own_ne hO3 (by omega))) hD2
  rw [HP.out, HV.out, Int.add_zero] at h
  refine bodyPost_ret (v := .agg #[.slice ao3 m m]) (by simp [results, Try.results18, go_sem, hc2]) rfl ⟨ao3, m, rfl, h.1, ?_, ?_⟩
  · have := hO2.1; omega
  · exact bset ((((below_alloc w _).alloc (by simp) _).trans (hb1.mono (by simp; omega))).trans (hb2.mono (by omega))) (by omega) _

end Go.Proofs.Ytceofnkjdkbebaa
