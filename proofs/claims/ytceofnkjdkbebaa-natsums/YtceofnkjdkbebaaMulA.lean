/- Contract: multiplied. -/
import Derived.Test.YtceofnkjdkbebaaAddC
import Derived.BigQuiet
namespace Go.Proofs.Ytceofnkjdkbebaa
open Go.RowKit
set_option linter.unusedVariables false
set_option linter.unusedSimpArgs false

theorem mul_step {Pd Bj T U z y p cy d c : Int} (h1 : Pd + Bj * cy = T + z * U) (h2 : d + 4294967296 * c = cy + (z * y + p)) : Pd + Bj * d + Bj * 4294967296 * c = T + Bj * p + z * (U + Bj * y) := by
  have h3 : Bj * (d + 4294967296 * c) = Bj * (cy + (z * y + p)) := by rw [h2]
  have h4 : z * (Bj * y) = Bj * (z * y) := by rw [← Int.mul_assoc, Int.mul_comm z Bj, Int.mul_assoc]
  simp only [Int.mul_add, Int.mul_assoc] at h1 h3 ⊢
  rw [h4]
  omega
theorem mul_outer {Pk Bk Pd Bn cy T U z V Q : Int} (h1 : Pd + Bn * cy = T + z * U) (h2 : Q = V * U) (h3 : Q = Pk + Bk * T) : Pk + Bk * (Pd + Bn * cy) = (V + Bk * z) * U := by
  rw [h1, Int.mul_add, Int.add_mul, ← h2, h3, Int.mul_assoc]
  omega
theorem take_split (P : List Int) (k n : Nat) : P.take (k + n) = P.take k ++ (P.drop k).take n := by
  rw [List.take_add]

section
variable {w : World}
set_option maxRecDepth 20000 in
set_option maxHeartbeats 4000000 in
theorem multiplied_any (ao1 ao2 : Option Addr) (n1 cap1 n2 cap2 : Nat) (zs us : List Int) (w : World) (hR1 : Reads .u32 w ao1 n1 zs) (hR2 : Reads .u32 w ao2 n2 us) (hD1 : Dg 4294967296 zs) (hD2 : Dg 4294967296 us) (hn1 : n1 ≤ 100000) (hn2 : n2 ≤ 100000) :
    Calls Try.prog 31 #[.slice ao1 n1 cap1, .slice ao2 n2 cap2] w fun e w' => ∃ g ps, e = .returned (.slice (some ⟨g, 0, none⟩) (n1 + n2) (n1 + n2)) ∧ Own .u32 43 w' w.heap.size (some ⟨g, 0, none⟩) (n1 + n2) (n1 + n2) ps ∧ Dg 4294967296 ps ∧ pv 4294967296 ps = pv 4294967296 zs * pv 4294967296 us ∧ Below w.heap.size w w' := by
  obtain ⟨W1, cur, hmk, hg, hcur, hb1⟩ := run_make_block (P := Try.prog) w 28 43 Try.underlying28 _ _ info_u32 (n1 + n2) (by omega) (by unfold maxLen; omega)
  have hO1 : Own .u32 43 W1 w.heap.size (some ⟨w.heap.size, 0, none⟩) (n1 + n2) (n1 + n2) (List.replicate (n1 + n2) 0) := by
    have hsz : cur.size = n1 + n2 := by rw [← Array.length_toList, hcur]; simp [madeCells]
    refine ⟨by simp, Or.inr ⟨w.heap.size, cur, rfl, Nat.le_refl _, hg, Nat.le_refl _, by omega, ?_⟩⟩
    rw [List.take_of_length_le (by rw [Array.length_toList]; omega), hcur]
    have hm : (madeCells (Value.int .u32 0).cells (n1 + n2)).toList = List.replicate (n1 + n2) (Value.int .u32 0) := by
      rw [List.eq_replicate_iff]
      refine ⟨by rw [Array.length_toList, size_madeCells], fun b hb => ?_⟩
      simp only [madeCells, Array.toList_map, List.mem_map] at hb
      obtain ⟨i, _, rfl⟩ := hb
      show (#[Value.int .u32 0] : Array Value)[i % 1]! = _
      rw [Nat.mod_one]
      rfl
    rw [hm, List.map_replicate]
  rw [Int.natCast_add] at hmk
  have HO1 := hide hO1
  have HB1 := hide hb1
  have hl1 := hR1.1
  have hl2 := hR2.1
  clear hg hcur hO1 hb1
  go_enter Try.func31, Try.ntmps31
  go_wp2
  go_loopw [17] (fun i wr => ∃ (k : Nat) (P : List Int), i = .int .i64 k ∧ k ≤ n1 ∧ Hid (Own .u32 43 wr w.heap.size (some ⟨w.heap.size, 0, none⟩) (n1 + n2) (n1 + n2) P) ∧ Hid (Dg 4294967296 P) ∧ Hid (pv 4294967296 (P.take (k + n2)) = pv 4294967296 (zs.take k) * pv 4294967296 us) ∧ Hid (Below w.heap.size w wr)) (fun i _ => n1 - (intOf i).toNat)
  case atStart => exact ⟨0, _, rfl, Nat.zero_le _, HO1, hide (dg_zeros (by decide) _), hide (by rw [List.take_replicate, pv_zeros]; simp [pv]), HB1⟩
  case round =>
    clear HO1 HB1 hmk
    obtain ⟨k, P, rfl, hk, HO, HD, HP, HB⟩ := hrel
    by_cases hlt : k < n1
    · have hk0 : (0 : Int) ≤ (k : Int) := by omega
      have hk1 : (k : Int) < (n1 : Int) := by omega
      obtain ⟨b1, off1, rfl, hcc⟩ := hR1.at hlt
      have hc1 := hcc k hlt
      have hbl1 := World.block_lt_of_cell? w _ hc1
      clear hcc
      have hz : 0 ≤ zs.getD k 0 ∧ zs.getD k 0 < 4294967296 := hD1.getD (by decide) k
      have HV : Hid (pv 4294967296 (zs.take (k + 1)) = pv 4294967296 (zs.take k) + 4294967296 ^ k * zs.getD k 0) := hide (pv_take_succ _ _ _ (by omega))
      have HC1 := hide (And.intro hbl1 hc1)
      clear hbl1 hc1
      generalize zs.getD k 0 = z at *
      have hPl := HO.out.1
      go_wp2
      go_loopw [7, 22] (fun c i wr => ∃ (j : Nat) (cy : Int) (ds : List Int), i = .int .i64 j ∧ c = .int .u64 cy ∧ j ≤ n2 ∧ 0 ≤ cy ∧ cy < 4294967296 ∧ Hid (Own .u32 43 wr w.heap.size (some ⟨w.heap.size, 0, none⟩) (n1 + n2) (n1 + n2) ((P.take k ++ ds) ++ P.drop (k + j))) ∧ Hid (ds.length = j) ∧ Hid (Dg 4294967296 ds) ∧ Hid (pv 4294967296 ds + 4294967296 ^ j * cy = pv 4294967296 ((P.drop k).take j) + z * pv 4294967296 (us.take j)) ∧ Hid (Below w.heap.size w wr)) (fun _ i _ => n2 - (intOf i).toNat)
      case atStart => exact ⟨0, 0, [], rfl, rfl, Nat.zero_le _, by omega, by omega, hide (by simpa using HO.out), hide rfl, hide (Dg.nil _), hide (by simp [pv]), HB⟩
      case round =>
        clear HO HB
        obtain ⟨j, cy, ds, rfl, rfl, hj, hcy0, hcy1, HO, HDL, HDD, HPV, HB⟩ := hrel
        by_cases hjl : j < n2
        · have hj0 : (0 : Int) ≤ (j : Int) := by omega
          have hj1 : (j : Int) < (n2 : Int) := by omega
          obtain ⟨b2, off2, rfl, hcc⟩ := hR2.at hjl
          have hc2 := hcc j hjl
          have hbl2 := World.block_lt_of_cell? w _ hc2
          clear hcc
          have hy : 0 ≤ us.getD j 0 ∧ us.getD j 0 < 4294967296 := hD2.getD (by decide) j
          have hp : 0 ≤ P.getD (k + j) 0 ∧ P.getD (k + j) 0 < 4294967296 := HD.out.getD (by decide) _
          obtain ⟨g, hge, hbg, hgs, hcell, hfr⟩ := HO.out.at (show k + j < n1 + n2 by omega)
          simp only [Option.some.injEq, Addr.mk.injEq, and_true] at hge
          subst hge
          have hq : wr.cell? ⟨w.heap.size, k + j, none⟩ = some (.int .u32 (P.getD (k + j) 0)) := by
            rw [hcell (k + j) (by omega)]
            congr 2
            have hl : (P.take k ++ ds).length = k + j := by rw [List.length_append, List.length_take, HDL.out, Nat.min_eq_left (by omega)]
            rw [List.getD_eq_getElem?_getD, List.getElem?_append_right (by omega), hl, Nat.sub_self, List.getElem?_drop, Nat.add_zero, ← List.getD_eq_getElem?_getD]
          have hqf := hfr (k + j)
          have c1 := (HB.out.cell HC1.out.1).trans HC1.out.2
          have c2 := (HB.out.cell hbl2).trans hc2
          have HPN : Hid (pv 4294967296 (ds ++ [(cy + (z * us.getD j 0 + P.getD (k + j) 0)) % 4294967296]) + 4294967296 ^ (j + 1) * ((cy + (z * us.getD j 0 + P.getD (k + j) 0)) / 4294967296) = pv 4294967296 ((P.drop k).take (j + 1)) + z * pv 4294967296 (us.take (j + 1))) := hide (by
            rw [pv_snoc, HDL.out, pv_take_succ _ us j (by omega), pv_take_succ _ (P.drop k) j (by rw [List.length_drop]; omega), Int.pow_succ]
            have e : (P.drop k).getD j 0 = P.getD (k + j) 0 := by rw [List.getD_eq_getElem?_getD, List.getD_eq_getElem?_getD, List.getElem?_drop]
            rw [e]
            exact mul_step HPV.out (by omega))
          have hzy : 0 ≤ z * us.getD j 0 ∧ z * us.getD j 0 ≤ 18446744065119617025 := by
            refine ⟨Int.mul_nonneg hz.1 hy.1, ?_⟩
            have h1 : z * us.getD j 0 ≤ 4294967295 * us.getD j 0 := Int.mul_le_mul_of_nonneg_right (by omega) hy.1
            omega
          clear hcell hfr hc2 hbl2
          generalize us.getD j 0 = y at *
          generalize P.getD (k + j) 0 = q at *
          have hi0 : (0 : Int) ≤ (k : Int) + (j : Int) := by omega
          have hi1 : (k : Int) + (j : Int) < (n1 : Int) + (n2 : Int) := by omega
          go_wp2
          go_quiet (fail)
          have HOd : Hid (Own .u32 43 (wr.drewN nq) w.heap.size (some ⟨w.heap.size, 0, none⟩) (n1 + n2) (n1 + n2) ((P.take k ++ ds) ++ P.drop (k + j))) := hide HO.out
          have HBd : Hid (Below w.heap.size w (wr.drewN nq)) := hide (HB.out.trans ⟨rfl, rfl, rfl, Nat.le_refl _, fun _ _ => rfl⟩)
          have qd : (wr.drewN nq).cell? ⟨w.heap.size, k + j, none⟩ = some (.int .u32 q) := hq
          have qf : (wr.drewN nq).frozen? ⟨w.heap.size, k + j, none⟩ = false := hqf
          clear HO HB hq hqf c1 c2
          generalize wr.drewN nq = wd at *
          have hll : (P.take k ++ ds).length = k + j := by rw [List.length_append, List.length_take, HDL.out, Nat.min_eq_left (by omega)]
          have hst := HOd.out.stored (k + j) (by omega) ((cy + (z * y + q)) % 4294967296)
          rw [set_step (P.take k ++ ds) P (k + j) _ hll (by omega), List.append_assoc (P.take k) ds] at hst
          have HS := hide hst
          have HBS := hide (HBd.out.setCell (p := ⟨w.heap.size, k + j, none⟩) (Nat.le_refl _) (.int .u32 ((cy + (z * y + q)) % 4294967296)))
          have HB3 := hide (show 0 ≤ (cy + (z * y + q)) % 4294967296 ∧ (cy + (z * y + q)) % 4294967296 < 4294967296 ∧ 0 ≤ (cy + (z * y + q)) / 4294967296 ∧ (cy + (z * y + q)) / 4294967296 < 4294967296 by omega)
          have hS0 : 0 ≤ cy + (z * y + q) := by omega
          have hS1 : cy + (z * y + q) < 18446744073709551616 := by omega
          clear hst hll HOd HBd
          generalize cy + (z * y + q) = S at *
          go_wp2
          go_roundw
          case rel => exact ⟨j + 1, _, ds ++ [S % 4294967296], by go_num, rfl, by omega, HB3.out.2.2.1, HB3.out.2.2.2, hide (by rw [← Nat.add_assoc]; exact HS.out), hide (by rw [List.length_append, HDL.out]; rfl), hide (HDD.out.append (Dg.cons HB3.out.1 HB3.out.2.1 (Dg.nil _))), HPN, HBS⟩
          case measure => simp [intOf]; omega
        · have hjn : j = n2 := by omega
          subst hjn
          have hll : (P.take k ++ ds).length = k + j := by rw [List.length_append, List.length_take, HDL.out, Nat.min_eq_left (by omega)]
          obtain ⟨g, hge, hbg, hgs, hcell, hfr⟩ := HO.out.at (show k + j < n1 + j by omega)
          simp only [Option.some.injEq, Addr.mk.injEq, and_true] at hge
          subst hge
          have hq := hcell (k + j) (by omega)
          have hqf := hfr (k + j)
          have hst := HO.out.stored (k + j) (by omega) cy
          rw [set_step (P.take k ++ ds) P (k + j) _ hll (by omega)] at hst
          have HS := hide hst
          have HBS := hide (HB.out.setCell (p := ⟨w.heap.size, k + j, none⟩) (Nat.le_refl _) (.int .u32 cy))
          have HDN : Hid (Dg 4294967296 ((P.take k ++ ds ++ [cy]) ++ P.drop (k + j + 1))) := hide ((((HD.out.take k).append HDD.out).append (Dg.cons hcy0 hcy1 (Dg.nil _))).append (HD.out.drop _))
          have HPN : Hid (pv 4294967296 (((P.take k ++ ds ++ [cy]) ++ P.drop (k + j + 1)).take (k + 1 + j)) = pv 4294967296 (zs.take (k + 1)) * pv 4294967296 us) := hide (by
            rw [List.take_append_of_le_length (by simp only [List.length_append, List.length_singleton] at hll ⊢; omega), List.take_of_length_le (by simp only [List.length_append, List.length_singleton] at hll ⊢; omega), List.append_assoc, pv_append, pv_snoc, HDL.out, HV.out, List.length_take, Nat.min_eq_left (by omega)]
            have h1 := HPV.out
            rw [show us.take j = us by rw [← hl2]; exact List.take_length] at h1
            have h2 := HP.out
            rw [take_split] at h2
            have h3 := pv_append 4294967296 (P.take k) ((P.drop k).take j)
            rw [List.length_take, Nat.min_eq_left (by omega)] at h3
            exact mul_outer h1 h2 h3)
          clear hst hll hcell hfr HO HB HP HD HV HPV
          generalize ((P.take k ++ ds) ++ P.drop (k + j)).getD (k + j) 0 = q0 at *
          have hi0 : (0 : Int) ≤ (k : Int) + (j : Int) := by omega
          have hi1 : (k : Int) + (j : Int) < (n1 : Int) + (j : Int) := by omega
          go_wp2
          go_roundw
          case rel => exact ⟨k + 1, _, by go_num, by omega, HS, HDN, HPN, HBS⟩
          case measure => simp [intOf]; omega
    · obtain rfl : k = n1 := by omega
      have hfin : Hid (pv 4294967296 P = pv 4294967296 zs * pv 4294967296 us) := hide (by
        have h := HP.out
        rw [← HO.out.1, List.take_length, show zs.take k = zs by rw [← hl1]; exact List.take_length] at h
        exact h)
      clear HP
      go_wp2
      go_ret
      exact ⟨_, P, rfl, HO.out, HD.out, hfin.out, HB.out⟩
end

end Go.Proofs.Ytceofnkjdkbebaa
