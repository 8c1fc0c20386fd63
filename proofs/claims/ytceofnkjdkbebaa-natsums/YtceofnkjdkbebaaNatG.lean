/- Contract: String: a number's decimal digits. -/
import Derived.Test.YtceofnkjdkbebaaNatE
import Derived.Test.YtceofnkjdkbebaaNatF
import Derived.Deep.LoopGhost
namespace Go.Proofs.Ytceofnkjdkbebaa
open Go.RowKit
set_option linter.unusedVariables false
set_option linter.unusedSimpArgs false

theorem info_byte : (Try.prog.info? 5).map (fun i => (i.zero, i.size, i.bytes)) = some (some (.int .u8 0), 1, 1) := by kernel_rfl

/-- Digits, the lowest first, as bytes of a text. -/
def asc (D : List Int) : List Int := D.map (fun d => 48 + d)
/-- A number's text. -/
def decStr (D : List Int) : ByteArray := if D = [] then strOfNums [48] else strOfNums (asc D).reverse

theorem asc_append (a b : List Int) : asc (a ++ b) = asc a ++ asc b := List.map_append ..
theorem asc_length (a : List Int) : (asc a).length = a.length := List.length_map ..
theorem asc_take (a : List Int) (n : Nat) : asc (a.take n) = (asc a).take n := List.map_take ..

theorem pow_base {a b : Int} (h0 : 0 ≤ a) (h : a ≤ b) (n : Nat) : 0 ≤ a ^ n ∧ a ^ n ≤ b ^ n := by
  induction n with
  | zero => simp
  | succ n ih =>
    rw [Int.pow_succ, Int.pow_succ]
    exact ⟨Int.mul_nonneg ih.1 h0, Int.mul_le_mul ih.2 h h0 (by omega)⟩

theorem digit_step {P T r V : Int} (h : P + T * r = V) : P + T * (r % 10) + T * 10 * (r / 10) = V := by
  have e : r = r % 10 + 10 * (r / 10) := by omega
  have : T * r = T * (r % 10) + T * 10 * (r / 10) := by
    conv => lhs; rw [e]
    rw [Int.mul_add, Int.mul_assoc]
  omega

theorem outer_step {V P T L Q r E : Int} (h : V = P + T * L) (hq : L = Q * 1000000000 + r) (he : E = r) : V = P + T * E + T * 1000000000 * Q := by
  rw [h, hq, he, Int.mul_add, Int.mul_comm Q, Int.mul_assoc]
  omega

/-- How many digits a number of n limbs has at most. -/
theorem digits_bound {V P L : Int} {n nd : Nat} (h : V = P + 10 ^ nd * L) (hP : 0 ≤ P) (hL : 0 < L) (hV : V < 4294967296 ^ n) : nd < 10 * n := by
  have h1 : (4294967296 : Int) ^ n ≤ 10 ^ (10 * n) := by
    rw [Int.pow_mul]
    exact (pow_base (by decide) (by decide) n).2
  have hp := pow_pos' (show (0 : Int) < 10 by decide) nd
  have h2 : (10 : Int) ^ nd * 1 ≤ 10 ^ nd * L := Int.mul_le_mul_of_nonneg_left (by omega) (by omega)
  by_cases hlt : nd < 10 * n
  · exact hlt
  · have := pow_mono (show (1 : Int) < 10 by decide) (show 10 * n ≤ nd by omega)
    omega

set_option maxHeartbeats 2000000 in
theorem string_zero (ao : Option Addr) (cap : Nat) (w : World) :
    Calls Try.prog 11 #[.agg #[.slice ao 0 cap]] w fun e w' => e = .returned (.string (strOfNums [48])) ∧ Below w.heap.size w w' := by
  go_enter Try.func11, Try.ntmps11
  go_wp2_with fail
  refine (zero_any ao 0 cap _ (by omega)).mono ?_
  rintro e w1 ⟨rfl, hb⟩
  go_wp2
  go_ret
  exact ⟨rfl, (below_alloc _ _).trans (hb.mono (by simp))⟩

set_option maxHeartbeats 4000000 in
theorem string_pos (ao : Option Addr) (n cap : Nat) (V : Int) (w : World) (hN : IsNat w ao n V) (hn : n ≤ 100000) (hn0 : ¬ n = 0) :
    Calls Try.prog 11 #[.agg #[.slice ao n cap]] w fun e w' => ∃ D, e = .returned (.string (decStr D)) ∧ Dg 10 D ∧ Nz D ∧ pv 10 D = V ∧ Below w.heap.size w w' := by
  obtain ⟨i0, hi, hz0, hz1, hz2⟩ := info_parts info_byte
  have hVpos : 0 < V := by have h1 := hN.nonneg; have h2 := hN.zero; omega
  obtain ⟨zs, hR, hD, hNz, hV⟩ := hN
  have hVlt : V < 4294967296 ^ n := by rw [← hV, ← hR.1]; exact (pv_bound (by decide) hD).2
  have HV := hide hV
  have HVL := hide hVlt
  clear hV hVlt
  go_enter Try.func11, Try.ntmps11
  go_wp2_with fail
  refine (zero_any ao n cap _ (by omega)).mono ?_
  rintro e w1 ⟨rfl, hb1⟩
  obtain ⟨hc1, hf1, hs1⟩ := keep_cell hb1 (a := ⟨w.heap.size, 0, none⟩) (v := .slice ao n cap) (by simp) (by simp)
  have hbw1 : Below w.heap.size w w1 := (below_alloc _ _).trans (hb1.mono (by simp))
  have hdn : decide (n = 0) = false := by simpa using hn0
  rw [hdn]
  go_wp2_with fail
  refine (limbs_any ao n cap zs _ (hR.kept hbw1) (by omega)).mono ?_
  rintro e w2 ⟨g, rfl, hO2, hb2⟩
  have hbw2 : Below w.heap.size w w2 := hbw1.trans (hb2.mono (by omega))
  have hgl := hO2.lt g rfl
  have hs2 := hb2.size
  clear hb1 hb2 hc1 hf1 hdn
  obtain ⟨base, hbase⟩ : ∃ base, base = w2.heap.size := ⟨_, rfl⟩
  have HB := hide hbase
  have hbg : g < base := by omega
  have hbb : w.heap.size ≤ base := by omega
  have hb0 : base ≤ w2.heap.size := by omega
  clear hbase
  go_wp2
  go_loopg [3, 4] (V.toNat) (fun gk v3 v4 wr => ∃ (aoD : Option Addr) (nD capD : Nat) (D : List Int) (aoL : Option Addr) (m capL : Nat) (ls : List Int), v3 = .slice aoD nD capD ∧ v4 = .slice aoL m capL ∧ Own .u8 5 wr base aoD nD capD (asc D) ∧ Own .u32 43 wr w.heap.size aoL m capL ls ∧ (aoL = none ∨ aoL = some ⟨g, 0, none⟩) ∧ Dg 4294967296 ls ∧ Nz ls ∧ Dg 10 D ∧ Hid (V = pv 10 D + 10 ^ nD * pv 4294967296 ls) ∧ Hid (gk = (pv 4294967296 ls).toNat) ∧ Below w.heap.size w wr ∧ base ≤ wr.heap.size ∧ m ≤ n ∧ nD ≤ 10 * n + 9)
  case atStart => exact ⟨none, 0, 0, [], some ⟨g, 0, none⟩, n, n, zs, rfl, rfl, Own.nil _ _ _ _, hO2.mono (by omega), Or.inr rfl, hD, hNz, Dg.nil _, hide (by rw [HV.out]; simp [pv]), hide (by rw [HV.out]), hbw2, hb0, Nat.le_refl _, by omega⟩
  case round =>
    obtain ⟨aoD, nD, capD, D, aoL, m, capL, ls, rfl, rfl, hOD, hOL, haoL, hDl, hNl, hDD, hval, hgk, hbr, hbs, hmn, hnDb⟩ := hrel
    by_cases hm0 : m = 0
    · subst hm0
      have hls : ls = [] := List.eq_nil_of_length_eq_zero hOL.1
      have hVD := hval.out
      rw [hls] at hVD
      simp only [pv, Int.mul_zero, Int.add_zero] at hVD
      have HVD := hide hVD
      clear hVD hls hval hgk
      go_wp2
      go_loopg [3] nD (fun gk v3 wq => ∃ E : List Int, v3 = .slice aoD gk capD ∧ Own .u8 5 wq base aoD gk capD (asc E) ∧ Dg 10 E ∧ Hid (pv 10 E = V) ∧ Below w.heap.size w wq ∧ gk ≤ nD)
      case atStart => exact ⟨D, rfl, hOD, hDD, hide HVD.out.symm, hbr, Nat.le_refl _⟩
      case round =>
        obtain ⟨E, rfl, hOE, hED, hEV, hbq, hgn⟩ := hrel
        have hgk0 : gk ≠ 0 := by
          intro h0
          have h1 := hOE.1
          rw [h0, asc_length] at h1
          have h2 := hEV.out
          rw [List.eq_nil_of_length_eq_zero h1] at h2
          simp [pv] at h2
          omega
        obtain ⟨j, rfl⟩ : ∃ j, gk = j + 1 := ⟨gk - 1, by omega⟩
        have hEl : E.length = j + 1 := by have := hOE.1; rw [asc_length] at this; exact this
        obtain ⟨g2, rfl, hbg2, hgs2, hcell, hfr2⟩ := hOE.at (i := j) (by omega)
        obtain ⟨d, hd⟩ : ∃ d, d = E.getD j 0 := ⟨_, rfl⟩
        have hdb : 0 ≤ d ∧ d < 10 := by rw [hd]; exact hED.getD (by decide) j
        have hcj : wr.cell? ⟨g2, j, none⟩ = some (.int .u8 (48 + d)) := by
          rw [hcell j (by omega), hd]
          congr 2
          rw [asc, List.getD_eq_getElem?_getD, List.getElem?_map, List.getD_eq_getElem?_getD, List.getElem?_eq_getElem (by omega)]
          rfl
        have hjm : j ≤ 10000000 := by omega
        have hjc := hOE.le_cap
        have HD := hide hd
        have HEL := hide hEl
        clear hd hcell hfr2 hEl hgk0
        by_cases hd0 : d = 0
        · subst hd0
          have HE : Hid (pv 10 (E.take j) = V) := by
            have h1 := pv_take_succ 10 E j (by rw [HEL.out]; omega)
            rw [List.take_of_length_le (by rw [HEL.out]; exact Nat.le_refl _), ← HD.out, Int.mul_zero, Int.add_zero] at h1
            rw [← h1]; exact hEV
          have HO := hide (hOE.take (m := j) (by omega))
          clear hOE
          go_wp2
          go_roundg j
          case measure => omega
          case rel => exact ⟨E.take j, rfl, by rw [asc_take]; exact HO.out, hED.take j, HE, hbq, by omega⟩
        · have hd48 : ((48 + d) == 48) = false := by simp; omega
          have HN : Hid (Nz E) := by
            refine hide (Or.inr ?_)
            rw [HEL.out, Nat.add_sub_cancel, ← HD.out]; exact hd0
          clear hd0
          go_wp2_with fail
          refine (reverse_any base g2 (j + 1) capD (asc E) wr hOE (by omega)).mono ?_
          rintro e w3 ⟨rfl, hO3, hg3⟩
          obtain ⟨g3, hg3', _, _, hcell3, _⟩ := hO3.at (i := j) (by omega)
          simp only [Option.some.injEq, Addr.mk.injEq, and_true] at hg3'
          subst hg3'
          have hcv := run_convert_bytes_arg (P := Try.prog) w3 26 5 Try.underlying26 Try.underlying5 g2 0 (j + 1) capD (asc E).reverse (by rw [List.length_reverse]; exact hOE.1) (by intro i hi; rw [Nat.zero_add]; exact hcell3 i hi) 9 Try.underlying9
          have HB3 := hide (hbq.grown hg3 (by have := hbq.size; omega) (fun b hb => by cases hb; omega))
          clear hcell3 hg3 hO3
          go_wp2
          go_ret
          refine ⟨E, ?_, hED, HN.out, hEV.out, HB3.out⟩
          rw [decStr, if_neg (by intro h; have := HEL.out; rw [h] at this; simp at this)]
          rfl
    · have hlpos : 0 < pv 4294967296 ls := by
        have h1 := pv_nonneg (B := 4294967296) (by decide) hDl
        have h2 : pv 4294967296 ls ≠ 0 := fun h => by
          have := pv_zero (by decide) hDl hNl h
          have h3 := hOL.1
          rw [this] at h3
          simp at h3
          omega
        omega
      have hnD : nD < 10 * n := digits_bound hval.out (pv_nonneg (by decide) hDD) hlpos HVL.out
      have HLP := hide hlpos
      clear hlpos
      have hm1 : 0 < m := by omega
      go_wp2_with fail
      refine (divideBy_any w.heap.size aoL m capL ls 1000000000 wr hOL hDl (by omega) (by omega)).mono ?_
      rintro e w3 ⟨r, qs, rfl, hO3, hD3, hr0, hr1, hq, hg3⟩
      have hblk : ∀ b, blk aoL = some b → b = g := by
        intro b hb
        rcases haoL with rfl | rfl
        · simp [blk] at hb
        · simp [blk] at hb; exact hb.symm
      have hOD3 : Own .u8 5 w3 base aoD nD capD (asc D) := hOD.kept hg3 (by
        cases hx : blk aoD with
        | none => exact Or.inl rfl
        | some c =>
          right
          intro he
          have h1 := (hOD.lt c hx).1
          have h2 := hblk c he.symm
          omega)
      have hb3 : Below w.heap.size w w3 := hbr.grown hg3 (by omega) (fun b hb => (hOL.lt b hb).1)
      have hs3 := hg3.size
      have HQ := hide hq
      clear hq hOD hOL hg3 hbr
      go_wp2_with fail
      refine (cut_any w.heap.size aoL m capL qs w3 hO3 (by omega)).mono ?_
      rintro e w4 ⟨aoL', m', rfl, hO4, hao4, hw4⟩
      subst hw4
      have haoL' : aoL' = none ∨ aoL' = some ⟨g, 0, none⟩ := by
        rcases hao4 with h | h
        · exact Or.inl h
        · rw [h]; exact haoL
      have hm4 : m' ≤ m := by have h1 := chop_len qs; rw [hO4.1, hO3.1] at h1; exact h1
      clear hao4 hblk
      go_wp2
      go_loopw [3, 5, 17] (fun v3 v5 i wq => ∃ (k : Nat) (aoE : Option Addr) (capE : Nat) (E : List Int) (s : Int), k ≤ 9 ∧ i = .int .i64 k ∧ v3 = .slice aoE (nD + k) capE ∧ v5 = .int .u32 s ∧ 0 ≤ s ∧ s < 1000000000 ∧ Own .u8 5 wq base aoE (nD + k) capE (asc (D ++ E)) ∧ Hid (E.length = k) ∧ Dg 10 E ∧ Hid (pv 10 E + 10 ^ k * s = r) ∧ Own .u32 43 wq w.heap.size aoL' m' m' (chop qs) ∧ Below w.heap.size w wq ∧ base ≤ wq.heap.size)
        (fun _ _ i _ => 9 - (intOf i).toNat)
      case atStart => exact ⟨0, aoD, capD, [], r, by omega, rfl, rfl, rfl, hr0, hr1, by rw [List.append_nil]; exact hOD3, hide rfl, Dg.nil _, hide (by simp [pv]), hO4, hb3, by omega⟩
      case round =>
        obtain ⟨k, aoE, capE, E, s, hk, rfl, rfl, rfl, hs0, hs9, hOE, hEl, hED, hEp, hOL, hbq, hbq2⟩ := hrel
        by_cases hk9 : k < 9
        · go_wp2_with (first | (at_builtin; refine wpList_append_int _ rfl _ _ 26 rfl 5 i0 (.int .u8 0) 1 Try.underlying26 hi hz0 hz1 hz2 rfl .u8 base aoE (nD + k) capE (asc (D ++ E)) rfl (hOE.below (below_alloc _ _)) ⟨wr.heap.size, 0, none⟩ 1 1 [48 + s % 10] rfl rfl ?_ ?_ ?_ ?_ ?_) | fail)
          · intro j hj
            match j, hj with
            | 0, _ => simp [Addr.add]
          · omega
          · omega
          · simp; omega
          · intro ao' cap' w5 hO5 hg5
            have hOE' : Own .u8 5 w5 base ao' (nD + (k + 1)) cap' (asc (D ++ (E ++ [s % 10]))) := by
              rw [← List.append_assoc, asc_append (D ++ E)]; exact hO5
            have hOL' : Own .u32 43 w5 w.heap.size aoL' m' m' (chop qs) := (hOL.below (below_alloc _ _)).kept hg5 (by
              cases hx : blk aoL' with
              | none => exact Or.inl rfl
              | some c =>
                right
                intro he
                have h1 := (hOE.lt c he.symm).1
                rcases haoL' with rfl | rfl
                · simp [blk] at hx
                · simp [blk] at hx; omega)
            have hb5 : Below w.heap.size w w5 := (hbq.alloc (by omega) _).grown hg5 (by simp; omega) (fun b hb => by have := (hOE.lt b hb).1; omega)
            have hs5 : base ≤ w5.heap.size := by have := hg5.size; simp at this; omega
            have HOE := hide hOE'
            have HOL := hide hOL'
            have HEP : Hid (pv 10 (E ++ [s % 10]) + 10 ^ (k + 1) * (s / 10) = r) := by
              rw [pv_snoc, hEl.out, Int.pow_succ]
              exact hide (digit_step hEp.out)
            clear hO5 hOE' hOL' hg5 hOE hOL
            go_wp2
            go_roundw
            case rel => exact ⟨k + 1, ao', cap', E ++ [s % 10], s / 10, by omega, by go_num, rfl, rfl, by omega, by omega, HOE.out, hide (by rw [List.length_append, hEl.out]; rfl), hED.append (Dg.cons (by omega) (by omega) (Dg.nil _)), HEP, HOL.out, hb5, hs5⟩
            case measure => simp [intOf]; omega
        · have hk9' : k = 9 := by omega
          subst hk9'
          have hEr : pv 10 E = r := by
            have h1 := hEp.out
            have h2 := pv_nonneg (B := 10) (by decide) hED
            have h3 : (10 : Int) ^ 9 = 1000000000 := by decide
            rw [h3] at h1
            omega
          have hDl' : D.length = nD := by have := hOD3.1; rw [asc_length] at this; exact this
          have hVn : V = pv 10 (D ++ E) + 10 ^ (nD + 9) * pv 4294967296 (chop qs) := by
            rw [pv_append, hDl', chop_pv, Int.pow_add, show (10 : Int) ^ 9 = 1000000000 from by decide]
            exact outer_step hval.out HQ.out hEr
          have HVN := hide hVn
          have hdec : (pv 4294967296 (chop qs)).toNat < gk := by
            rw [hgk.out, chop_pv]
            have h1 := HQ.out
            have h2 := HLP.out
            have h3 := pv_nonneg (B := 4294967296) (by decide) hD3
            omega
          have HDEC := hide hdec
          clear hEr hDl' hVn hdec hk9
          go_wp2
          go_roundg (pv 4294967296 (chop qs)).toNat
          case measure => exact HDEC.out
          case rel => exact ⟨aoE, nD + 9, capE, D ++ E, aoL', m', m', chop qs, rfl, rfl, hOE, hOL, haoL', chop_Dg hD3, chop_Nz qs, hDD.append hED, HVN, hide rfl, hbq, hbq2, by omega, by omega⟩

theorem string_any (ao : Option Addr) (n cap : Nat) (V : Int) (w : World) (hN : IsNat w ao n V) (hn : n ≤ 100000) :
    Calls Try.prog 11 #[.agg #[.slice ao n cap]] w fun e w' => ∃ D, e = .returned (.string (decStr D)) ∧ Dg 10 D ∧ Nz D ∧ pv 10 D = V ∧ Below w.heap.size w w' := by
  by_cases h0 : n = 0
  · subst h0
    refine (string_zero ao cap w).mono ?_
    rintro e w' ⟨rfl, hb⟩
    exact ⟨[], by rw [decStr, if_pos rfl], Dg.nil _, Or.inl rfl, by rw [hN.zero.1 rfl]; rfl, hb⟩
  · exact string_pos ao n cap V w hN hn h0

end Go.Proofs.Ytceofnkjdkbebaa
