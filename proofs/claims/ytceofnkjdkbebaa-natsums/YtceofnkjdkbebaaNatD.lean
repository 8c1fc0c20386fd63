/- Contracts: divideBy, Divide, Compare. -/
import Derived.Test.YtceofnkjdkbebaaNatC
namespace Go.Proofs.Ytceofnkjdkbebaa
open Go.RowKit
set_option linter.unusedVariables false
set_option linter.unusedSimpArgs false

theorem set_back (zs qs : List Int) (j : Nat) (q : Int) (hj : j < zs.length) : (zs.take (j + 1) ++ qs).set j q = zs.take j ++ q :: qs := by
  rw [take_getD zs j hj, List.append_assoc, List.set_append_right _ _ (by rw [List.length_take]; omega), List.length_take, Nat.min_eq_left (by omega), Nat.sub_self]
  rfl

theorem div_step {z B P x r q r' D : Int} (h1 : D = P * x + r) (h2 : r * B + z = q * x + r') : z + B * D = (q + B * P) * x + r' := by
  rw [h1]
  simp only [Int.mul_add, Int.add_mul, Int.mul_assoc] at h2 ⊢
  rw [Int.mul_comm B r]
  omega

set_option maxHeartbeats 400000 in
theorem divideBy_any (base : Nat) (ao : Option Addr) (n cap : Nat) (zs : List Int) (x : Int) (w : World) (hO : Own .u32 43 w base ao n cap zs) (hD : Dg 4294967296 zs) (hn : n ≤ 1000000) (hx : 0 < x ∧ x < 4294967296) :
    Calls Try.prog 25 #[.slice ao n cap, .int .u32 x] w fun e w' => ∃ (r : Int) (qs : List Int), e = .returned (.int .u32 r) ∧ Own .u32 43 w' base ao n cap qs ∧ Dg 4294967296 qs ∧ 0 ≤ r ∧ r < x ∧ pv 4294967296 zs = pv 4294967296 qs * x + r ∧ w.grownBy w' (blk ao) := by
  go_enter Try.func25, Try.ntmps25
  go_wp2
  go_loopw [5, 10] (fun c i wr => ∃ (k : Nat) (r : Int) (qs : List Int), k ≤ n ∧ i = .int .i64 k ∧ c = .int .u32 r ∧ 0 ≤ r ∧ r < x ∧ Own .u32 43 wr base ao n cap (zs.take (n - k) ++ qs) ∧ Dg 4294967296 qs ∧ Hid (pv 4294967296 (zs.drop (n - k)) = pv 4294967296 qs * x + r) ∧ w.grownBy wr (blk ao))
    (fun _ i _ => n - (intOf i).toNat)
  case atStart => exact ⟨0, 0, [], Nat.zero_le _, rfl, rfl, by omega, by omega, by rw [Nat.sub_zero, List.append_nil, ← hO.1, List.take_length, hO.1]; exact hO, Dg.nil _, hide (by rw [Nat.sub_zero, ← hO.1, List.drop_length]; simp [pv]), World.grownBy.refl _ _⟩
  case round =>
    obtain ⟨k, r, qs, hk, rfl, rfl, hr0, hr1, hOr, hqd, hpv, hgr⟩ := hrel
    by_cases hlt : k < n
    · obtain ⟨g, rfl, hbg, hgs, hcell, hfr⟩ := hOr.at hlt
      obtain ⟨j, hj⟩ : ∃ j, j = n - 1 - k := ⟨_, rfl⟩
      have hjn : j < zs.length := by have := hO.1; omega
      obtain ⟨z, hz⟩ : ∃ z, z = zs.getD j 0 := ⟨_, rfl⟩
      have hzb : 0 ≤ z ∧ z < 4294967296 := by rw [hz]; exact hD.getD (by decide) j
      have hck : wr.cell? ⟨g, n - 1 - k, none⟩ = some (.int .u32 z) := by
        rw [hcell (n - 1 - k) (by omega), hz, ← hj]
        congr 2
        rw [List.getD_eq_getElem?_getD, List.getElem?_append_left (by rw [List.length_take]; omega), List.getElem?_take_of_lt (by omega), ← List.getD_eq_getElem?_getD]
      have hfk := hfr (n - 1 - k)
      have HZ := hide hz
      have HJ := hide hj
      clear hz hcell hfr hj
      go_wp2_with fail
      refine (div32 r z x _ hr0 hr1 hx.2 hzb).mono ?_
      rintro e w1 ⟨q, r', rfl, hq0, hq1, hr0', hr1', hqr, nd, rfl⟩
      have hd : Below wr.heap.size wr (wr.drewN nd) := below_drewN (Below.refl _ _) nd
      have hst := (hOr.below hd).stored (n - 1 - k) (by omega) q
      have ek : n - k = j + 1 := by have := HJ.out; omega
      have ej : n - 1 - k = j := by have := HJ.out; omega
      rw [ek, ej, set_back zs qs j q hjn] at hst
      have HP : Hid (pv 4294967296 (zs.drop j) = pv 4294967296 (q :: qs) * x + r') := by
        have h1 := hpv.out
        rw [ek] at h1
        rw [drop_getD zs j hjn, ← HZ.out]
        exact hide (div_step h1 hqr.out)
      have HG := hide (grownBy_trans (grownBy_trans hgr (below_grownBy hd _)) (grownBy_setCell (wr.drewN nd) g (n - 1 - k) (.int .u32 q)))
      have HS := hide hst
      clear hst hgr hOr hd ek ej
      go_wp2
      go_roundw
      case rel => exact ⟨k + 1, r', q :: qs, by omega, by go_num, rfl, hr0', hr1', by rw [show n - (k + 1) = j by have := HJ.out; omega, show n - 1 - k = j by have := HJ.out; omega]; exact HS.out, Dg.cons hq0 hq1 hqd, by rw [show n - (k + 1) = j by have := HJ.out; omega]; exact HP, HG.out⟩
      case measure => simp [intOf]; omega
    · have hkn : k = n := by omega
      rw [hkn, Nat.sub_self, List.take_zero, List.nil_append] at hOr
      have h1 := hpv.out
      rw [hkn, Nat.sub_self, List.drop_zero] at h1
      have HP := hide h1
      clear h1 hkn
      go_wp2
      go_ret
      exact ⟨r, qs, rfl, hOr, hqd, hr0, hr1, HP.out, hgr⟩

set_option maxHeartbeats 400000 in
theorem cmp32_lt (x y : Int) (w : World) (h : x < y) : Calls Try.prog 30 #[.int .u32 x, .int .u32 y] w fun e w' => e = .returned (.int .i64 (-1)) ∧ w' = w := by
  have := cmp32 x y w; rw [if_pos h] at this; exact this
theorem cmp32_gt (x y : Int) (w : World) (h : y < x) : Calls Try.prog 30 #[.int .u32 x, .int .u32 y] w fun e w' => e = .returned (.int .i64 1) ∧ w' = w := by
  have := cmp32 x y w; rw [if_neg (by omega), if_pos h] at this; exact this
theorem cmp32_eq (x : Int) (w : World) : Calls Try.prog 30 #[.int .u32 x, .int .u32 x] w fun e w' => e = .returned (.int .i64 0) ∧ w' = w := by
  have := cmp32 x x w; rw [if_neg (by omega), if_neg (by omega)] at this; exact this
theorem cmpInt_lt (x y : Int) (w : World) (h : x < y) : Calls Try.prog 29 #[.int .i64 x, .int .i64 y] w fun e w' => e = .returned (.int .i64 (-1)) ∧ w' = w := by
  have := cmpInt x y w; rw [if_pos h] at this; exact this
theorem cmpInt_gt (x y : Int) (w : World) (h : y < x) : Calls Try.prog 29 #[.int .i64 x, .int .i64 y] w fun e w' => e = .returned (.int .i64 1) ∧ w' = w := by
  have := cmpInt x y w; rw [if_neg (by omega), if_pos h] at this; exact this
theorem cmpInt_eq (x : Int) (w : World) : Calls Try.prog 29 #[.int .i64 x, .int .i64 x] w fun e w' => e = .returned (.int .i64 0) ∧ w' = w := by
  have := cmpInt x x w; rw [if_neg (by omega), if_neg (by omega)] at this; exact this

/-- Which of two is greater, as a number told by Compare. -/
def Cmp (c V U : Int) : Prop := c = -1 ∧ V < U ∨ c = 0 ∧ V = U ∨ c = 1 ∧ U < V

set_option maxHeartbeats 800000 in
theorem compare_any (ao1 ao2 : Option Addr) (n1 cap1 n2 cap2 : Nat) (V U : Int) (w : World) (hN1 : IsNat w ao1 n1 V) (hN2 : IsNat w ao2 n2 U) (hn1 : n1 ≤ 1000000) (hn2 : n2 ≤ 1000000) :
    Calls Try.prog 14 #[.agg #[.slice ao1 n1 cap1], .agg #[.slice ao2 n2 cap2]] w fun e w' => ∃ c : Int, e = .returned (.int .i64 c) ∧ Cmp c V U ∧ Below w.heap.size w w' := by
  obtain ⟨zs, hR1, hD1, hNz1, hV1⟩ := hN1
  obtain ⟨us, hR2, hD2, hNz2, hV2⟩ := hN2
  have HV := hide hV1
  have HU := hide hV2
  clear hV1 hV2
  have hb0 : Below w.heap.size w ((w.alloc (.cells #[.slice ao1 n1 cap1] 30)).alloc (.cells #[.slice ao2 n2 cap2] 30)) := (below_alloc _ _).alloc (by simp) _
  rcases Nat.lt_trichotomy n1 n2 with h | h | h
  · go_enter Try.func14, Try.ntmps14
    go_wp2_with fail
    refine (cmpInt_lt _ _ _ (by omega)).mono ?_
    rintro e w1 ⟨rfl, rfl⟩
    go_wp2
    go_ret
    refine ⟨-1, rfl, Or.inl ⟨rfl, ?_⟩, hb0⟩
    rw [← HV.out, ← HU.out]
    exact pv_len_lt (by decide) hD1 hD2 hNz2 (by have := hR1.1; have := hR2.1; omega)
  · subst h
    go_enter Try.func14, Try.ntmps14
    go_wp2_with fail
    refine (cmpInt_eq _ _).mono ?_
    rintro e w1 ⟨rfl, rfl⟩
    go_wp2
    go_loopw [22] (fun i wr => ∃ k : Nat, k ≤ n1 ∧ i = .int .i64 k ∧ Below ((w.alloc (.cells #[.slice ao1 n1 cap1] 30)).alloc (.cells #[.slice ao2 n1 cap2] 30)).heap.size ((w.alloc (.cells #[.slice ao1 n1 cap1] 30)).alloc (.cells #[.slice ao2 n1 cap2] 30)) wr ∧ Hid (zs.drop (n1 - k) = us.drop (n1 - k))) (fun i _ => n1 - (intOf i).toNat)
    case atStart => exact ⟨0, Nat.zero_le _, rfl, Below.refl _ _, hide (by rw [Nat.sub_zero, List.drop_eq_nil_of_le (by have := hR1.1; omega), List.drop_eq_nil_of_le (by have := hR2.1; omega)])⟩
    case round =>
      obtain ⟨k, hk, rfl, hbr, hdr⟩ := hrel
      have hbx1 : wr.cell? ⟨w.heap.size, 0, none⟩ = some (.slice ao1 n1 cap1) := (bcell hbr (by simp; omega)).trans (by simp)
      have hbx2 : wr.cell? ⟨w.heap.size + 1, 0, none⟩ = some (.slice ao2 n1 cap2) := (bcell hbr (by simp)).trans (by simp)
      have hbw : Below w.heap.size w wr := hb0.trans (hbr.mono (by simp; omega))
      have HBR := hide hbr
      clear hbr
      by_cases hlt : k < n1
      · obtain ⟨b1, off1, rfl, hcell1⟩ := hR1.at hlt
        obtain ⟨b2, off2, rfl, hcell2⟩ := hR2.at hlt
        obtain ⟨j, hj, hjn, hjk⟩ : ∃ j : Nat, ((n1 : Int) - 1 - k = j) ∧ j < n1 ∧ Hid (n1 - k = j + 1) := ⟨n1 - 1 - k, by omega, by omega, hide (by omega)⟩
        obtain ⟨z, hz⟩ : ∃ z, z = zs.getD j 0 := ⟨_, rfl⟩
        obtain ⟨u, hu⟩ : ∃ u, u = us.getD j 0 := ⟨_, rfl⟩
        have c1 := (bcell hbw (World.block_lt_of_cell? w _ (hcell1 j hjn))).trans (hcell1 j hjn)
        have c2 := (bcell hbw (World.block_lt_of_cell? w _ (hcell2 j hjn))).trans (hcell2 j hjn)
        rw [← hz] at c1
        rw [← hu] at c2
        have HZ := hide hz
        have HU2 := hide hu
        have hdr2 := hdr.out
        rw [hjk.out] at hdr2
        have HD2 := hide hdr2
        have hlz : zs.length = us.length := by rw [hR1.1, hR2.1]
        have HL := hide hlz
        have ez : zs = zs.take j ++ z :: zs.drop (j + 1) := by rw [hz, ← drop_getD zs j (by have := hR1.1; omega), List.take_append_drop]
        have eu : us = us.take j ++ u :: zs.drop (j + 1) := by rw [hdr2, hu, ← drop_getD us j (by have := hR2.1; omega), List.take_append_drop]
        have hlt' : (zs.take j).length = (us.take j).length := by rw [List.length_take, List.length_take, hlz]
        have HLT := hide hlt'
        have EZ := hide ez
        have EU := hide eu
        clear hz hu hcell1 hcell2 hdr hdr2 hlz ez eu hlt'
        rcases Int.lt_trichotomy z u with h | h | h
        · go_wp2
          go_quiet ((go_at_call 30; exact Calls.quiet_of_same (cmp32_lt _ _ _ h)))
          go_wp2
          go_ret
          refine ⟨-1, rfl, Or.inl ⟨rfl, ?_⟩, below_drewN hbw _⟩
          rw [← HV.out, ← HU.out, EZ.out, EU.out]
          exact pv_cmp (by decide) HLT.out (hD1.take _) (hD2.take _) h
        · subst h
          go_wp2
          go_quiet ((go_at_call 30; exact Calls.quiet_of_same (cmp32_eq _ _)))
          go_wp2
          go_roundw
          case rel => exact ⟨k + 1, by omega, by go_num, below_drewN HBR.out _, hide (by rw [show n1 - (k + 1) = j by have := hjk.out; omega, drop_getD zs j (by have := hR1.1; omega), drop_getD us j (by have := hR2.1; omega), HD2.out, ← HZ.out, ← HU2.out])⟩
          case measure => simp [intOf]; omega
        · go_wp2
          go_quiet ((go_at_call 30; exact Calls.quiet_of_same (cmp32_gt _ _ _ h)))
          go_wp2
          go_ret
          refine ⟨1, rfl, Or.inr (Or.inr ⟨rfl, ?_⟩), below_drewN hbw _⟩
          rw [← HV.out, ← HU.out, EZ.out, EU.out]
          exact pv_cmp (by decide) HLT.out.symm (hD2.take _) (hD1.take _) h
      · have hkn : k = n1 := by omega
        have h1 := hdr.out
        rw [hkn, Nat.sub_self, List.drop_zero, List.drop_zero] at h1
        have HE := hide h1
        clear h1 hkn
        go_wp2
        go_ret
        refine ⟨0, rfl, Or.inr (Or.inl ⟨rfl, ?_⟩), hbw⟩
        rw [← HV.out, ← HU.out, HE.out]
  · go_enter Try.func14, Try.ntmps14
    go_wp2_with fail
    refine (cmpInt_gt _ _ _ (by omega)).mono ?_
    rintro e w1 ⟨rfl, rfl⟩
    go_wp2
    go_ret
    refine ⟨1, rfl, Or.inr (Or.inr ⟨rfl, ?_⟩), hb0⟩
    rw [← HV.out, ← HU.out]
    exact pv_len_lt (by decide) hD2 hD1 hNz1 (by have := hR1.1; have := hR2.1; omega)

end Go.Proofs.Ytceofnkjdkbebaa
