/- The walk of the statement NatProducts. -/
import Derived.Test.YtgkcaflnhhfbgaaLawA
import Derived.Test.YtgkcaflnhhfbgaaAddC
import Derived.Deep.RegionHeld3
namespace Go.Proofs.Ytgkcaflnhhfbgaa
open Go.RowKit
set_option linter.unusedVariables false
set_option linter.unusedSimpArgs false

theorem div_unique {V Q r r' x : Int} (h : V * x + r' = Q * x + r) (h0 : 0 ≤ r) (h1 : r < x) (h2 : 0 ≤ r') (h3 : r' < x) : Q = V ∧ r = r' := by
  have hx : 0 < x := by omega
  have e1 : (V * x + r') / x = V := by rw [Int.add_comm, Int.add_mul_ediv_right _ _ (by omega), Int.ediv_eq_zero_of_lt h2 h3]; omega
  have e2 : (Q * x + r) / x = Q := by rw [Int.add_comm, Int.add_mul_ediv_right _ _ (by omega), Int.ediv_eq_zero_of_lt h0 h1]; omega
  have hQ : Q = V := by rw [← e1, ← e2, h]
  subst hQ
  exact ⟨rfl, by omega⟩

theorem nats_one {w : World} {ao : Option Addr} {m : Nat} {V : Int} (h : IsNat w ao m V) (hm : m ≤ 1000) (T : TypeId) : Nats (w.alloc (.cells #[.slice ao m m] T)) (some ⟨w.heap.size, 0, none⟩) [(ao, m, m, V)] := by
  refine ⟨Or.inr ⟨w.heap.size, 0, rfl, fun i hi => ?_⟩, fun x hx => ?_⟩
  · obtain rfl : i = 0 := by simp at hi; omega
    simp
  · simp at hx
    subst hx
    exact ⟨h.kept (below_alloc _ _), hm⟩

theorem bcells {W w1 : World} (hb : Below W.heap.size W w1) : (∀ b o, b < W.heap.size → w1.cell? ⟨b, o, none⟩ = W.cell? ⟨b, o, none⟩) ∧ (∀ b o, b < W.heap.size → w1.frozen? ⟨b, o, none⟩ = W.frozen? ⟨b, o, none⟩) :=
  ⟨fun b o h => hb.cell (p := ⟨b, o, none⟩) h, fun b o h => hb.frozen (p := ⟨b, o, none⟩) h⟩

/-- A number that lies in a slice of one, in a world behind that in which it was made. -/
theorem nats_at {w W : World} {ao a : Option Addr} {m : Nat} {V : Int} {b : Nat} (h : IsNat w ao m V) (hm : m ≤ 1000) (hb : Below w.heap.size w W) (ha : a = some ⟨b, 0, none⟩) (hc : W.cell? ⟨b, 0, none⟩ = some (.slice ao m m)) : Nats W a [(ao, m, m, V)] := by
  refine ⟨Or.inr ⟨b, 0, ha, fun i hi => ?_⟩, fun x hx => ?_⟩
  · obtain rfl : i = 0 := by simp at hi; omega
    simpa using hc
  · simp at hx
    subst hx
    exact ⟨h.kept hb, hm⟩

theorem below_d0 (w : World) : Below w.heap.size w w.drew := (Below.refl _ _).drew
theorem below_d1 (w : World) (o : Obj) : Below w.heap.size w (w.alloc o).drew := (below_alloc _ _).drew
theorem below_a2 (w : World) (o p : Obj) : Below w.heap.size w ((w.alloc o).alloc p) := (below_alloc _ _).alloc (by simp) _
theorem below_via {a W c : World} (h : Below W.heap.size W c) (h0 : Below a.heap.size a W) : Below a.heap.size a c := h0.trans (h.mono h0.size)

/-- The sum of a product and a rest, in any of the worlds in which it may be asked for. -/
theorem prod_add {w7 w8 W : World} {aoP aoI a : Option Addr} {mP mI b : Nat} {P I : Int} (hP : IsNat w7 aoP mP P) (hI : IsNat w8 aoI mI I) (hmP : mP ≤ 21) (hmI : mI ≤ 2) (h78 : Below w7.heap.size w7 w8) (h8W : Below w8.heap.size w8 W) (ha : a = some ⟨b, 0, none⟩) (hc : W.cell? ⟨b, 0, none⟩ = some (.slice aoI mI mI)) :
    Hid (Calls Try.prog 20 #[.agg #[.slice aoP mP mP], .slice a 1 1] W fun e w' => ∃ ao' m, e = .returned (.agg #[.slice ao' m m]) ∧ IsNat w' ao' m (P + I) ∧ m ≤ 1001 ∧ Below W.heap.size W w') := by
  refine hide ((add_any aoP mP mP P a 1 1 [(aoI, mI, mI, I)] W (hP.kept (below_via h8W h78)) (by omega) (nats_at hI (by omega) h8W ha hc) rfl (by omega)).mono ?_)
  rintro e w' ⟨ao', m, rfl, h1, h2, h3⟩
  refine ⟨ao', m, rfl, ?_, h2, h3⟩
  have e1 : sumN [(aoI, mI, mI, I)] = I := by simp [sumN]
  rw [e1] at h1
  exact h1

theorem fin_set {w7 wd : World} {b base m : Nat} {old v : Value} {ao : Option Addr} {ds : List Int} (h7d : Below w7.heap.size w7 wd) (hb : w7.heap.size ≤ b) (hc : wd.cell? ⟨b, 0, none⟩ = some old) (hO : Own .u32 34 wd base ao m m ds) (hbb : b < base) :
    ∃ wf, wf = wd.setCell ⟨b, 0, none⟩ v ∧ wf.cell? ⟨b, 0, none⟩ = some v ∧ Below w7.heap.size w7 wf ∧ Reads .u32 wf ao m ds :=
  ⟨_, rfl, World.cell?_setCell_same _ _ _ hc, bset h7d hb _, (hO.kept (grownBy_setCell _ _ _ _) (own_ne hO hbb)).reads⟩
theorem fin_alloc {w7 wd : World} {base m : Nat} {v : Value} {T : TypeId} {ao : Option Addr} {ds : List Int} (h7d : Below w7.heap.size w7 wd) (hO : Own .u32 34 wd base ao m m ds) :
    ∃ wf, wf = wd.alloc (.cells #[v] T) ∧ wf.cell? ⟨wd.heap.size, 0, none⟩ = some v ∧ Below w7.heap.size w7 wf ∧ Reads .u32 wf ao m ds :=
  ⟨_, rfl, cell_new _ _ _ rfl, h7d.alloc h7d.size _, (hO.below (below_alloc _ _)).reads⟩

set_option maxHeartbeats 2000000 in
theorem products_walk (a0 : Option Addr) (len0 cap0 : Nat) (z0 : List Int) (x rest : Int) (w : World) (r0 : IsRow .u32 w a0 len0 cap0 z0) (hwx : (Lit.int .u32 x).wf = true) (hwr : (Lit.int .u32 rest).wf = true) :
    Calls Try.prog 6 #[.slice a0 len0 cap0, .int .u32 x, .int .u32 rest] w fun e w' => e = .returned (.bool true) ∧ Below w.heap.size w w' := by
  have hx := wf_u32 hwx
  have hrs := wf_u32 hwr
  clear hwx hwr
  obtain ⟨hR0, hm0⟩ := r0.reads
  have hD0 := r0.dg
  generalize z0.take len0 = x0 at hR0 hD0
  clear r0
  go_enter Try.func6, Try.ntmps6
  go_wp2_with fail
  refine (few_any _ 1 1 [(a0, len0, cap0)] _ ?_ rfl (by omega) (by intro x hx; simp at hx; rcases hx with rfl; assumption)).mono ?_
  · refine Or.inr ⟨w.heap.size, 0, rfl, fun i hi => ?_⟩
    match i, hi with
    | 0, _ => simp
  rintro e w1 ⟨rfl, hw1⟩
  have hb1 : Below w.heap.size w w1 := by rw [hw1]; exact below_alloc _ _
  clear hw1
  by_cases hl0 : len0 ≤ 20
  · have hall : ([(a0, len0, cap0)].all (fun x => decide (x.2.1 ≤ 20))) = true := by simp [hl0]
    rw [hall]
    clear hall
    go_wp2_with fail
    refine (of_nat a0 len0 cap0 x0 w1 (hR0.kept hb1) hD0 (by omega)).mono ?_
    rintro e w2 ⟨aoX, mX, rfl, hX, hmX, hb⟩
    have hb2 := hb1.trans (hb.mono hb1.size)
    clear hb
    go_wp2_with fail
    obtain ⟨W2, hW2, hb, hc7, hs7⟩ := one_box w2 (.slice aoX mX mX) 26
    rw [← hW2]
    have hX := hX.kept hb
    have hB2 := hb2.trans (hb.mono hb2.size)
    clear hb hW2
    refine (times_any aoX mX mX _ x W2 hX (by omega) hx).mono ?_
    rintro e w3 ⟨aoP, mP, rfl, hP, hmP, hb⟩
    have hX := hX.kept hb
    have hc7 := (bcell hb hs7).trans hc7
    have hs7 : w2.heap.size < w3.heap.size := by have := hb.size; omega
    have hb3 := hB2.trans (hb.mono hB2.size)
    clear hb
    go_wp2_with fail
    obtain ⟨W3, hW3, hb, hc8, hs8⟩ := one_box w3 (.slice aoP mP mP) 26
    rw [← hW3]
    have hX := hX.kept hb
    have hP := hP.kept hb
    have hc7 := (bcell hb hs7).trans hc7
    have hs7 : w2.heap.size < W3.heap.size := by omega
    have hB3 := hb3.trans (hb.mono hb3.size)
    clear hb hW3
    refine (string_any aoP mP mP _ W3 hP (by omega)).mono ?_
    rintro e w4 ⟨D1, rfl, hD1, hN1, hV1, hb⟩
    have hX := hX.kept hb
    have hP := hP.kept hb
    have hc7 := (bcell hb hs7).trans hc7
    have hc8 := (bcell hb hs8).trans hc8
    have hs7 : w2.heap.size < w4.heap.size := by have := hb.size; omega
    have hs8 : w3.heap.size < w4.heap.size := by have := hb.size; omega
    have hb4 := hB3.trans (hb.mono hB3.size)
    clear hb
    go_wp2_with fail
    refine (rof_any a0 len0 cap0 x0 w4 (hR0.kept hb4) hD0 (by omega)).mono ?_
    rintro e w5 ⟨aoA, mA, capA, rfl, hA, hmA, hb⟩
    have hX := hX.kept hb
    have hP := hP.kept hb
    have hc7 := (bcell hb hs7).trans hc7
    have hc8 := (bcell hb hs8).trans hc8
    have hs7 : w2.heap.size < w5.heap.size := by have := hb.size; omega
    have hs8 : w3.heap.size < w5.heap.size := by have := hb.size; omega
    have hb5 := hb4.trans (hb.mono hb4.size)
    clear hb
    go_wp2_with fail
    refine (rtimes_any aoA mA capA _ x 0 w5 hA (by omega) (by omega) (by omega)).mono ?_
    rintro e w6 ⟨aoB, mB, capB, rfl, hB, hb⟩
    rw [Int.add_zero] at hB
    have hmB : mB ≤ 210 := hB.len (by
      have h1 := limbs_lt (n := 20) hD0 (by rw [hR0.1]; exact hl0)
      have h2 := pv_nonneg (B := 4294967296) (by decide) hD0
      have h3 : pv 4294967296 x0 * x ≤ pv 4294967296 x0 * 10 ^ 10 := Int.mul_le_mul_of_nonneg_left (by omega) h2
      have h4 : pv 4294967296 x0 * 10 ^ 10 < 10 ^ (10 * 20) * 10 ^ 10 := Int.mul_lt_mul_of_pos_right h1 (by decide)
      rw [← Int.pow_add] at h4
      exact Int.lt_of_le_of_lt h3 h4)
    have hX := hX.kept hb
    have hP := hP.kept hb
    have hc7 := (bcell hb hs7).trans hc7
    have hc8 := (bcell hb hs8).trans hc8
    have hs7 : w2.heap.size < w6.heap.size := by have := hb.size; omega
    have hs8 : w3.heap.size < w6.heap.size := by have := hb.size; omega
    have hb6 := hb5.trans (hb.mono hb5.size)
    obtain ⟨D2, hR2, hD2, hN2, hV2⟩ := hB
    clear hb
    go_wp2_with fail
    refine (print_any aoB mB capB D2 w6 hR2 hD2 (by omega)).mono ?_
    rintro e w7 ⟨rfl, hb⟩
    rw [decStr_eq hD1 hN1 hV1 hD2 hN2 hV2]
    have hX := hX.kept hb
    have hP := hP.kept hb
    have hc7 := (bcell hb hs7).trans hc7
    have hc8 := (bcell hb hs8).trans hc8
    have hs7 : w2.heap.size < w7.heap.size := by have := hb.size; omega
    have hs8 : w3.heap.size < w7.heap.size := by have := hb.size; omega
    have hb7 := hb6.trans (hb.mono hb6.size)
    clear hb hV1 hV2
    by_cases hx0 : x = 0
    · subst hx0
      rw [Int.mul_zero] at hP
      have hmP0 : mP = 0 := hP.zero.2 rfl
      subst hmP0
      go_wp2_with fail
      refine (divide_zero aoX mX mX w7).mono ?_
      rintro e w8 ⟨rfl, hb⟩
      have hc8 := (bcell hb hs8).trans hc8
      have hs8 : w3.heap.size < w8.heap.size := by have := hb.size; omega
      have hb8 := hb7.trans (hb.mono hb7.size)
      clear hb
      go_wp2_with fail
      refine (zero_any aoP 0 0 _ (by omega)).mono ?_
      rintro e w9 ⟨rfl, hb⟩
      obtain ⟨hc9, hf9, hs9⟩ := own_cell hb
      have hb9 : Below w.heap.size w w9 := (hb8.alloc hb8.size _).trans (hb.mono (by have := hb8.size; simp; omega))
      clear hb
      go_wp2_with fail
      refine (zero_any none 0 0 w9 (by omega)).mono ?_
      rintro e wa ⟨rfl, hb⟩
      have hba := hb9.trans (hb.mono hb9.size)
      clear hb
      go_wp2_with fail
      refine (awake_any _).mono ?_
      rintro e wb ⟨rfl, hb⟩
      go_wp2
      go_ret
      exact ⟨rfl, hba.trans (hb.mono hba.size)⟩
    · have hx1 : (x == 0) = false := by simpa using hx0
      have hxp : 0 < x := by omega
      have hrm : 0 ≤ rest % x ∧ rest % x < x := ⟨Int.emod_nonneg _ (by omega), Int.emod_lt_of_pos _ hxp⟩
      clear hx0
      have hrt : rest.tmod x = rest % x := Int.tmod_eq_emod_of_nonneg hrs.1
      have hrw : IntKind.u64.wrap (rest.tmod x) = rest % x := by
        rw [hrt]
        simp only [IntKind.wrap, IntKind.bits, IntKind.signed]
        simp
        omega
      have hi0 := int_nat (rest % x) w7.drew hrm.1 (by omega)
      rw [← hrw] at hi0
      have HI := hide hi0
      have HRT := hide hrt
      have HRW := hide hrw
      clear hi0 hrt hrw
      have hzd : ¬ x = 0 := by omega
      go_wp2
      have hmP' : mP ≤ 21 := by omega
      have hq7 : w7.heap.size ≠ w3.heap.size := by omega
      have hp7 : w3.heap.size ≠ w7.heap.size := by omega
      go_region_held3 (fun W => W.cell? ⟨w3.heap.size, 0, none⟩ = some (.slice aoP mP mP)) (go_keep) (first | (go_at_call 26; refine (int_nat _ _ ?_ ?_).mono ?_; (rw [HRW.out]; exact hrm.1); (rw [HRW.out]; omega); rintro e w8 ⟨aoI, mI, rfl, hI, hmI, hbI⟩; obtain ⟨hcI, hfI⟩ := bcells hbI; have hzI := hbI.size; have h78 : Below w7.heap.size w7 w8 := below_via hbI (by first | exact below_d0 _ | exact below_d1 _ _); have hcP8 := (bcell h78 hs8).trans hc8; have hqw8 : w8.heap.size ≠ w3.heap.size := (by have := h78.size; omega); have hpw8 : w3.heap.size ≠ w8.heap.size := (by have := h78.size; omega); have hq81 : w8.heap.size + 1 ≠ w3.heap.size := (by have := h78.size; omega); have hp81 : w3.heap.size ≠ w8.heap.size + 1 := (by have := h78.size; omega); (try (have hl78 : w7.heap.size < w8.heap.size := (by have := hbI.size; simp at this; omega))); have HAD1 := prod_add (W := w8.alloc (.cells #[.slice aoI mI mI] 26)) (a := some ⟨w8.heap.size, 0, none⟩) hP hI hmP' hmI h78 (below_alloc _ _) rfl (cell_new _ _ _ rfl); have HAD2 := prod_add (W := (w8.alloc (.cells #[.slice none 0 0] 26)).alloc (.cells #[.slice aoI mI mI] 26)) (a := some ⟨w8.heap.size + 1, 0, none⟩) hP hI hmP' hmI h78 (below_a2 _ _ _) rfl (cell_new _ _ _ (by simp)); have HAD3 := prod_add (W := (w8.alloc (.cells #[.slice aoI mI mI] 26)).alloc (.cells #[.slice none 0 0] 26)) (a := some ⟨w8.heap.size, 0, none⟩) hP hI hmP' hmI h78 (below_a2 _ _ _) rfl ((cell_old _ _ (by simp)).trans (cell_new _ _ _ rfl))) | (go_at_call 20; (first | (with_reducible refine (unhide HAD1).mono ?_) | (with_reducible refine (unhide HAD2).mono ?_) | (with_reducible refine (unhide HAD3).mono ?_)); rintro e w9 ⟨aoS, mS, rfl, hS, hmS, hbS⟩; obtain ⟨hcS, hfS⟩ := bcells hbS; have hzS := hbS.size; have h79 : Below w7.heap.size w7 w9 := below_via hbS (by first | exact below_via (below_alloc _ _) h78 | exact below_via (below_a2 _ _ _) h78); have hcP9 := (bcell h79 hs8).trans hc8; have hqw9 : w9.heap.size ≠ w3.heap.size := (by have := h79.size; omega); have hpw9 : w3.heap.size ≠ w9.heap.size := (by have := h79.size; omega); have hl89 : w8.heap.size < w9.heap.size := (by have := hbS.size; simp at this; omega); (try (have hl891 : w8.heap.size + 1 < w9.heap.size := (by have := hbS.size; simp at this; omega))); (try (have hl79 : w7.heap.size < w9.heap.size := (by omega))); have HDV1 := hide (divide_own aoS mS mS _ x w9 hS (by omega) ⟨hxp, hx.2⟩); have HDV2 := hide (divide_own aoS mS mS _ x (w9.alloc (.cells #[.slice none 0 0] 26)) (hS.kept (below_alloc _ _)) (by omega) ⟨hxp, hx.2⟩)) | (go_at_call 25; (first | (with_reducible refine (unhide HDV1).mono ?_) | (with_reducible refine (unhide HDV2).mono ?_)); rintro e wd ⟨aoQ, mQ, Q, r, rfl, ⟨ds, hOQ, hDQ, hNQ, hVQ⟩, hmQ, hQV, hr0, hr1, hbD⟩; obtain ⟨hcD, hfD⟩ := bcells hbD; have hzD := hbD.size; have h7d : Below w7.heap.size w7 wd := below_via hbD (by first | exact h79 | exact below_via (below_alloc _ _) h79); have hcPd := (bcell h7d hs8).trans hc8; have hqwd : wd.heap.size ≠ w3.heap.size := (by have := h7d.size; omega); have hpwd : w3.heap.size ≠ wd.heap.size := (by have := h7d.size; omega)))
      · obtain ⟨wf, hwf, hcQ, h7f, hRf⟩ := fin_alloc (v := .slice aoQ mQ mQ) (T := 26) h7d hOQ
        rw [← hwf]
        clear hwf
        have hXf := hX.kept h7f
        have hQf : IsNat wf aoQ mQ Q := ⟨ds, hRf, hDQ, hNQ, hVQ⟩
        have hc7f := (bcell h7f hs7).trans hc7
        have hbf := hb7.trans (h7f.mono hb7.size)
        have hdu := div_unique hQV hr0 hr1 (by rw [HRW.out]; exact hrm.1) (by rw [HRW.out]; exact hrm.2)
        obtain ⟨rfl, hrr⟩ := hdu
        have hrr' : r = rest.tmod x := by rw [hrr, HRW.out, HRT.out]
        subst hrr'
        have HXF := hide hXf
        have HQF := hide hQf
        have HBF := hide hbf
        clear hrr hQV hcI hfI hcS hfS hcD hfD hcP8 hcP9 hcPd hXf hQf hbf hOQ hVQ hDQ hNQ HAD1 HAD2 HAD3 HDV1 HDV2 hRf h78 h79 h7d h7f
        go_wp2_with fail
        refine (compare_any aoQ aoX mQ mQ mX mX _ _ wf HQF.out HXF.out (by omega) (by omega)).mono ?_
        rintro e wg ⟨c, rfl, hc, hb⟩
        obtain rfl : c = 0 := hc.eq rfl
        have hbg := HBF.out.trans (hb.mono HBF.out.size)
        clear hb hc
        go_wp2_with fail
        refine (awake_any _).mono ?_
        rintro e wh ⟨rfl, hb⟩
        go_wp2
        go_ret
        exact ⟨rfl, hbg.trans (hb.mono hbg.size)⟩
      · obtain ⟨wf, hwf, hcQ, h7f, hRf⟩ := fin_set (b := w9.heap.size) (v := .slice aoQ mQ mQ) (old := .slice none 0 0) h7d (by have := h78.size; have := h79.size; omega) ((hcD _ _ (by simp)).trans (cell_new _ _ _ rfl)) hOQ (by simp)
        rw [← hwf]
        clear hwf
        have hXf := hX.kept h7f
        have hQf : IsNat wf aoQ mQ Q := ⟨ds, hRf, hDQ, hNQ, hVQ⟩
        have hc7f := (bcell h7f hs7).trans hc7
        have hbf := hb7.trans (h7f.mono hb7.size)
        have hdu := div_unique hQV hr0 hr1 (by rw [HRW.out]; exact hrm.1) (by rw [HRW.out]; exact hrm.2)
        obtain ⟨rfl, hrr⟩ := hdu
        have hrr' : r = rest.tmod x := by rw [hrr, HRW.out, HRT.out]
        subst hrr'
        have HXF := hide hXf
        have HQF := hide hQf
        have HBF := hide hbf
        clear hrr hQV hcI hfI hcS hfS hcD hfD hcP8 hcP9 hcPd hXf hQf hbf hOQ hVQ hDQ hNQ HAD1 HAD2 HAD3 HDV1 HDV2 hRf h78 h79 h7d h7f
        go_wp2_with fail
        refine (compare_any aoQ aoX mQ mQ mX mX _ _ wf HQF.out HXF.out (by omega) (by omega)).mono ?_
        rintro e wg ⟨c, rfl, hc, hb⟩
        obtain rfl : c = 0 := hc.eq rfl
        have hbg := HBF.out.trans (hb.mono HBF.out.size)
        clear hb hc
        go_wp2_with fail
        refine (awake_any _).mono ?_
        rintro e wh ⟨rfl, hb⟩
        go_wp2
        go_ret
        exact ⟨rfl, hbg.trans (hb.mono hbg.size)⟩
      · obtain ⟨wf, hwf, hcQ, h7f, hRf⟩ := fin_set (b := w8.heap.size + 1) (v := .slice aoQ mQ mQ) (old := .slice none 0 0) h7d (by have := h78.size; have := h79.size; omega) (((hcD _ _ hl891).trans (hcS _ _ (by simp))).trans (cell_new _ _ _ (by simp))) hOQ (hl891)
        rw [← hwf]
        clear hwf
        have hXf := hX.kept h7f
        have hQf : IsNat wf aoQ mQ Q := ⟨ds, hRf, hDQ, hNQ, hVQ⟩
        have hc7f := (bcell h7f hs7).trans hc7
        have hbf := hb7.trans (h7f.mono hb7.size)
        have hdu := div_unique hQV hr0 hr1 (by rw [HRW.out]; exact hrm.1) (by rw [HRW.out]; exact hrm.2)
        obtain ⟨rfl, hrr⟩ := hdu
        have hrr' : r = rest.tmod x := by rw [hrr, HRW.out, HRT.out]
        subst hrr'
        have HXF := hide hXf
        have HQF := hide hQf
        have HBF := hide hbf
        clear hrr hQV hcI hfI hcS hfS hcD hfD hcP8 hcP9 hcPd hXf hQf hbf hOQ hVQ hDQ hNQ HAD1 HAD2 HAD3 HDV1 HDV2 hRf h78 h79 h7d h7f
        go_wp2_with fail
        refine (compare_any aoQ aoX mQ mQ mX mX _ _ wf HQF.out HXF.out (by omega) (by omega)).mono ?_
        rintro e wg ⟨c, rfl, hc, hb⟩
        obtain rfl : c = 0 := hc.eq rfl
        have hbg := HBF.out.trans (hb.mono HBF.out.size)
        clear hb hc
        go_wp2_with fail
        refine (awake_any _).mono ?_
        rintro e wh ⟨rfl, hb⟩
        go_wp2
        go_ret
        exact ⟨rfl, hbg.trans (hb.mono hbg.size)⟩
      · obtain ⟨wf, hwf, hcQ, h7f, hRf⟩ := fin_set (b := w8.heap.size) (v := .slice aoQ mQ mQ) (old := .slice none 0 0) h7d (by have := h78.size; have := h79.size; omega) (((hcD _ _ hl89).trans (hcS _ _ (by simp; omega))).trans ((cell_old _ _ (by simp)).trans (cell_new _ _ _ rfl))) hOQ (hl89)
        rw [← hwf]
        clear hwf
        have hXf := hX.kept h7f
        have hQf : IsNat wf aoQ mQ Q := ⟨ds, hRf, hDQ, hNQ, hVQ⟩
        have hc7f := (bcell h7f hs7).trans hc7
        have hbf := hb7.trans (h7f.mono hb7.size)
        have hdu := div_unique hQV hr0 hr1 (by rw [HRW.out]; exact hrm.1) (by rw [HRW.out]; exact hrm.2)
        obtain ⟨rfl, hrr⟩ := hdu
        have hrr' : r = rest.tmod x := by rw [hrr, HRW.out, HRT.out]
        subst hrr'
        have HXF := hide hXf
        have HQF := hide hQf
        have HBF := hide hbf
        clear hrr hQV hcI hfI hcS hfS hcD hfD hcP8 hcP9 hcPd hXf hQf hbf hOQ hVQ hDQ hNQ HAD1 HAD2 HAD3 HDV1 HDV2 hRf h78 h79 h7d h7f
        go_wp2_with fail
        refine (compare_any aoQ aoX mQ mQ mX mX _ _ wf HQF.out HXF.out (by omega) (by omega)).mono ?_
        rintro e wg ⟨c, rfl, hc, hb⟩
        obtain rfl : c = 0 := hc.eq rfl
        have hbg := HBF.out.trans (hb.mono HBF.out.size)
        clear hb hc
        go_wp2_with fail
        refine (awake_any _).mono ?_
        rintro e wh ⟨rfl, hb⟩
        go_wp2
        go_ret
        exact ⟨rfl, hbg.trans (hb.mono hbg.size)⟩
      · obtain ⟨wf, hwf, hcQ, h7f, hRf⟩ := fin_set (b := w7.heap.size) (v := .slice aoQ mQ mQ) (old := .slice none 0 0) h7d (by have := h78.size; have := h79.size; omega) ((((hcD _ _ hl79).trans (hcS _ _ (by simp; omega))).trans (cell_old _ _ hl78)).trans ((hcI _ _ (by simp)).trans (by simp))) hOQ (hl79)
        rw [← hwf]
        clear hwf
        have hXf := hX.kept h7f
        have hQf : IsNat wf aoQ mQ Q := ⟨ds, hRf, hDQ, hNQ, hVQ⟩
        have hc7f := (bcell h7f hs7).trans hc7
        have hbf := hb7.trans (h7f.mono hb7.size)
        have hdu := div_unique hQV hr0 hr1 (by rw [HRW.out]; exact hrm.1) (by rw [HRW.out]; exact hrm.2)
        obtain ⟨rfl, hrr⟩ := hdu
        have hrr' : r = rest.tmod x := by rw [hrr, HRW.out, HRT.out]
        subst hrr'
        have HXF := hide hXf
        have HQF := hide hQf
        have HBF := hide hbf
        clear hrr hQV hcI hfI hcS hfS hcD hfD hcP8 hcP9 hcPd hXf hQf hbf hOQ hVQ hDQ hNQ HAD1 HAD2 HAD3 HDV1 HDV2 hRf h78 h79 h7d h7f
        go_wp2_with fail
        refine (compare_any aoQ aoX mQ mQ mX mX _ _ wf HQF.out HXF.out (by omega) (by omega)).mono ?_
        rintro e wg ⟨c, rfl, hc, hb⟩
        obtain rfl : c = 0 := hc.eq rfl
        have hbg := HBF.out.trans (hb.mono HBF.out.size)
        clear hb hc
        go_wp2_with fail
        refine (awake_any _).mono ?_
        rintro e wh ⟨rfl, hb⟩
        go_wp2
        go_ret
        exact ⟨rfl, hbg.trans (hb.mono hbg.size)⟩
  · have hall : ([(a0, len0, cap0)].all (fun x => decide (x.2.1 ≤ 20))) = false := by simp; omega
    rw [hall]
    go_wp2_with fail
    refine (awake_any _).mono ?_
    rintro e w2 ⟨rfl, hb2⟩
    go_wp2
    go_ret
    exact ⟨rfl, hb1.trans (hb2.mono hb1.size)⟩

end Go.Proofs.Ytgkcaflnhhfbgaa
