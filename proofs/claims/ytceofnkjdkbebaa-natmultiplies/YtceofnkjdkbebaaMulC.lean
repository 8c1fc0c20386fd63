/- The walk of the statement NatMultiplies. -/
import Derived.Test.YtceofnkjdkbebaaMulD
import Derived.Deep.RegionHeld3
namespace Go.Proofs.Ytceofnkjdkbebaa
open Go.RowKit
set_option linter.unusedVariables false
set_option linter.unusedSimpArgs false

set_option maxRecDepth 20000 in
set_option maxHeartbeats 16000000 in
theorem multiplies_walk (a0 : Option Addr) (len0 cap0 : Nat) (z0 : List Int) (a1 : Option Addr) (len1 cap1 : Nat) (z1 : List Int) (a2 : Option Addr) (len2 cap2 : Nat) (z2 : List Int) (w : World) (r0 : IsRow .u32 w a0 len0 cap0 z0) (r1 : IsRow .u32 w a1 len1 cap1 z1) (r2 : IsRow .u32 w a2 len2 cap2 z2) :
    Calls Try.prog 4 #[.slice a0 len0 cap0, .slice a1 len1 cap1, .slice a2 len2 cap2] w fun e w' => e = .returned (.bool true) ∧ Below w.heap.size w w' := by
  obtain ⟨hR0, hm0⟩ := r0.reads
  obtain ⟨hR1, hm1⟩ := r1.reads
  obtain ⟨hR2, hm2⟩ := r2.reads
  have hD0 := r0.dg
  have hD1 := r1.dg
  have hD2 := r2.dg
  generalize z0.take len0 = x0 at hR0 hD0
  generalize z1.take len1 = x1 at hR1 hD1
  generalize z2.take len2 = x2 at hR2 hD2
  clear r0 r1 r2
  go_enter Try.func4, Try.ntmps4
  go_wp2_with fail
  refine (few_any _ 3 3 [(a0, len0, cap0), (a1, len1, cap1), (a2, len2, cap2)] _ ?_ rfl (by omega) (by intro x hx; simp at hx; rcases hx with rfl | rfl | rfl <;> assumption)).mono ?_
  · refine Or.inr ⟨w.heap.size, 0, rfl, fun i hi => ?_⟩
    match i, hi with
    | 0, _ => simp
    | 1, _ => simp
    | 2, _ => simp
  rintro e w1 ⟨rfl, hw1⟩
  have hb1 : Below w.heap.size w w1 := by rw [hw1]; exact below_alloc _ _
  clear hw1
  by_cases hfew : len0 ≤ 20 ∧ len1 ≤ 20 ∧ len2 ≤ 20
  case neg =>
    have hall : ([(a0, len0, cap0), (a1, len1, cap1), (a2, len2, cap2)].all (fun x => decide (x.2.1 ≤ 20))) = false := by
      simp only [List.all_cons, List.all_nil, Bool.and_true]
      by_cases h0 : len0 ≤ 20
      · by_cases h1 : len1 ≤ 20
        · have h2 : ¬ len2 ≤ 20 := fun h => hfew ⟨h0, h1, h⟩
          simp [h2]
        · simp [h1]
      · simp [h0]
    rw [hall]
    clear hall
    go_wp2_with fail
    refine (awake_any _).mono ?_
    rintro e w2 ⟨rfl, hb⟩
    go_wp2
    go_ret
    exact ⟨rfl, hb1.trans (hb.mono hb1.size)⟩
  obtain ⟨hl0, hl1, hl2⟩ := hfew
  have hall : ([(a0, len0, cap0), (a1, len1, cap1), (a2, len2, cap2)].all (fun x => decide (x.2.1 ≤ 20))) = true := by simp [hl0, hl1, hl2]
  rw [hall]
  clear hall
  by_cases h8 : 8 < len0
  · have h8i : (8 : Int) < (len0 : Int) := by omega
    go_wp2_with fail
    refine (awake_any _).mono ?_
    rintro e w2 ⟨rfl, hb⟩
    go_wp2
    go_ret
    exact ⟨rfl, hb1.trans (hb.mono hb1.size)⟩
  have h8i : ¬ (8 : Int) < (len0 : Int) := by omega
  by_cases h9 : 8 < len1
  · have h9i : (8 : Int) < (len1 : Int) := by omega
    go_wp2_with fail
    refine (awake_any _).mono ?_
    rintro e w2 ⟨rfl, hb⟩
    go_wp2
    go_ret
    exact ⟨rfl, hb1.trans (hb.mono hb1.size)⟩
  have h9i : ¬ (8 : Int) < (len1 : Int) := by omega
  go_wp2_with fail
  refine (of_nat a0 len0 cap0 x0 w1 (hR0.kept hb1) hD0 (by omega)).mono ?_
  rintro e w2 ⟨aoX, mX, rfl, hX, hmX, hb⟩
  have hb2 := hb1.trans (hb.mono hb1.size)
  clear hb
  go_wp2_with fail
  refine (of_nat a1 len1 cap1 x1 w2 (hR1.kept hb2) hD1 (by omega)).mono ?_
  rintro e w3 ⟨aoY, mY, rfl, hY, hmY, hb⟩
  have hX := hX.kept hb
  have hb3 := hb2.trans (hb.mono hb2.size)
  clear hb
  go_wp2_with fail
  refine (of_nat a2 len2 cap2 x2 w3 (hR2.kept hb3) hD2 (by omega)).mono ?_
  rintro e w4 ⟨aoZ, mZ, rfl, hZ, hmZ, hb⟩
  have hX := hX.kept hb
  have hY := hY.kept hb
  have hb4 := hb3.trans (hb.mono hb3.size)
  clear hb
  have HX := hide hX
  have HY := hide hY
  have HZ := hide hZ
  have HB4 := hide hb4
  have HR0 := hide hR0
  have HR1 := hide hR1
  have H8 := hide (show len0 ≤ 8 ∧ len1 ≤ 8 by omega)
  have hy1 := hR1.1
  have HVX := hide (pv_lt8 hD0 (by have := hR0.1; omega))
  have HVY := hide (pv_lt8 hD1 (by have := hR1.1; omega))
  have HVZ := hide (show 0 ≤ pv 4294967296 x2 ∧ pv 4294967296 x2 < 4294967296 ^ 20 by have h := pv_bound (by decide) hD2; exact ⟨h.1, Int.lt_of_lt_of_le h.2 (pow_mono (by decide) (by have := hR2.1; omega))⟩)
  clear hX hY hZ hb1 hb2 hb3 hb4 h8 h9 hR0 hR1 hR2
  go_wp2
  clear h8i h9i
  obtain ⟨W4, hW4, hbW, k7, k8, k9, ks⟩ := three_boxes w4 (.slice aoX mX mX) (.slice aoY mY mY) (.slice aoZ mZ mZ) 30
  rw [← hW4]
  have HK := hide (And.intro k7 (And.intro k8 (And.intro k9 ks)))
  have HBW := hide (HB4.out.trans (hbW.mono HB4.out.size))
  replace HX := hide (HX.out.kept hbW)
  replace HY := hide (HY.out.kept hbW)
  replace HZ := hide (HZ.out.kept hbW)
  clear hW4 hbW k7 k8 k9 ks HB4
  generalize w4.heap.size = t at *
  go_loopw [10, 11] (fun v i wr => ∃ (m : Nat) (aoW : Option Addr) (nW cW : Nat), v = .slice aoW nW cW ∧ i = .int .i64 ((m : Int) - 1) ∧ m ≤ len1 ∧ nW ≤ 400 ∧ Hid (IsDec wr aoW nW (pv 4294967296 x0 * pv 4294967296 (x1.drop m))) ∧ Hid (Below W4.heap.size W4 wr)) (fun _ i _ => ((intOf i) + 1).toNat)
  case atStart => exact ⟨len1, none, 0, 0, rfl, rfl, Nat.le_refl _, by omega, hide (by rw [← hy1, List.drop_length]; simpa [pv] using IsDec.nil W4 none), hide (Below.refl _ _)⟩
  case round =>
    obtain ⟨m, aoW, nW, cW, rfl, rfl, hm, hnW, HW, HB⟩ := hrel
    have HBr := hide (HBW.out.trans (HB.out.mono HBW.out.size))
    cases m with
    | succ m =>
      rw [show (((m + 1 : Nat) : Int) - 1) = (m : Int) by omega]
      have hm0 : (0 : Int) ≤ (m : Int) := by omega
      have hm1 : (m : Int) < (len1 : Int) := by omega
      obtain ⟨bb, off, hab, hcc⟩ := HR1.out.at (show m < len1 by omega)
      subst hab
      have hc := hcc m (by omega)
      have hbl := World.block_lt_of_cell? w _ hc
      clear hcc
      have hy : 0 ≤ x1.getD m 0 ∧ x1.getD m 0 < 4294967296 := hD1.getD (by decide) m
      have HDR := hide (show pv 4294967296 (x1.drop m) = x1.getD m 0 + 4294967296 * pv 4294967296 (x1.drop (m + 1)) by rw [drop_getD x1 m (by omega)]; rfl)
      have hPb := pv_lt8 (hD1.drop (m + 1)) (by rw [List.length_drop]; have := H8.out; omega)
      have hPb0 := pv_lt8 (hD1.drop m) (by rw [List.length_drop]; have := H8.out; omega)
      have HPB := hide hPb
      have HPB0 := hide hPb0
      generalize x1.getD m 0 = y at *
      have c0 := (HBr.out.cell hbl).trans hc
      have hd : Below wr.heap.size wr wr.drew := (Below.refl _ _).drew
      have HC := hide (And.intro hbl hc)
      have HYB := hide (show 0 ≤ y ∧ y ≤ 4294967296 by omega)
      have HZB := hide (show (0 : Int) ≤ 0 ∧ (0 : Int) < 4294967296 by omega)
      have hyw : IntKind.u64.wrap y = y := IntWalk.u64_in _ (by omega)
      have CT1 := hide (rtimes_any aoW nW cW _ 4294967296 0 wr.drew (HW.out.kept hd) (by omega) (by omega) (by omega))
      have CO := hide (fun (W : World) (h : Below w.heap.size w W) => rof_any a0 len0 cap0 x0 W (HR0.out.kept h) hD0 (by have := H8.out; omega))
      have HL1 := hide (fun (W : World) (a : Option Addr) (q : Nat) (h : IsDec W a q (pv 4294967296 x0 * pv 4294967296 (x1.drop (m + 1)) * 4294967296 + 0)) => (show q ≤ 100000 from Nat.le_trans (h.len (K := 170) (by rw [Int.add_zero, Int.mul_assoc]; exact big170 HVX.out.1 HVX.out.2 (Int.mul_nonneg hPb.1 (by decide)) (pow89 hPb.2))) (by omega)))
      have HL2 := hide (fun (W : World) (a : Option Addr) (q : Nat) (h : IsDec W a q (pv 4294967296 x0 * y + 0)) => (show q ≤ 100000 from Nat.le_trans (h.len (K := 170) (by rw [Int.add_zero]; exact big170 HVX.out.1 HVX.out.2 hy.1 (Int.lt_trans hy.2 (by decide +kernel)))) (by omega)))
      have HL3 := hide (fun (W : World) (a : Option Addr) (q : Nat) (h : IsDec W a q (pv 4294967296 x0 * pv 4294967296 (x1.drop m))) => (show q ≤ 400 from Nat.le_trans (h.len (K := 170) (big170 HVX.out.1 HVX.out.2 hPb0.1 (Int.lt_trans hPb0.2 (by decide +kernel)))) (by omega)))
      clear hc hPb hPb0 hd
      go_wp2
      go_region_held3 (fun W => W.cell? ⟨bb, off + m, none⟩ = some (.int .u32 y)) (first | exact yd | exact yc | exact yb | exact ya | go_keep) (first
        | (go_at_call 16; refine (rtimes_any aoA mA cA _ y 0 _ HA.out HAL.out HYB.out HZB.out).mono ?_; rintro e Wc ⟨aoV, mV, cV, rfl, hV, hb⟩; have HV := hide hV; have HT3 := hide (HT.out.kept hb); have HQ3 := hide (HQ2.out.trans (hb.mono HQ2.out.size)); have HB3 := hide (HB2.out.trans (hb.mono HB2.out.size)); have yc := (HB3.out.cell HC.out.1).trans HC.out.2; clear hV hb)
        | (go_at_call 16; refine (unhide CT1).mono ?_; rintro e Wa ⟨aoT, mT, cT, rfl, hT, hb⟩; have hb' := undrew' hb; have HQ1 := hide (HB.out.trans (hb'.mono HB.out.size)); have HT := hide hT; have HB1 := hide (HBr.out.trans (hb'.mono HBr.out.size)); have ya := (HB1.out.cell HC.out.1).trans HC.out.2; clear hT hb hb')
        | (go_at_call 9; refine (CO.out _ HB1.out).mono ?_; rintro e Wb ⟨aoA, mA, cA, rfl, hA, hmA, hb⟩; have HA := hide hA; have HAL : Hid (mA ≤ 100000) := hide (by have := H8.out; omega); replace HT := hide (HT.out.kept hb); have HQ2 := hide (HQ1.out.trans (hb.mono HQ1.out.size)); have HB2 := hide (HB1.out.trans (hb.mono HB1.out.size)); have yb := (HB2.out.cell HC.out.1).trans HC.out.2; clear hA hmA hb)
        | (go_at_call 8; refine (radd_any aoT aoV mT cT mV cV _ _ _ HT3.out HV.out (HL1.out _ _ _ HT3.out) (HL2.out _ _ _ HV.out)).mono ?_; rintro e Wd ⟨aoS, mS, cS, rfl, hS, hb⟩; have HS := hide hS; have HQ4 := hide (HQ3.out.trans (hb.mono HQ3.out.size)); have HB4 := hide (HB3.out.trans (hb.mono HB3.out.size)); have yd := (HB4.out.cell HC.out.1).trans HC.out.2; clear hS hb))
      have HS2 : Hid (IsDec Wd aoS mS (pv 4294967296 x0 * pv 4294967296 (x1.drop m))) := hide (by rw [HDR.out, ← horner]; exact HS.out)
      have hmS : mS ≤ 400 := HL3.out _ _ _ HS2.out
      clear HS HL1 HL2 HL3 HDR hyw CT1 CO HT HT3 HV HA HAL
      go_wp2
      go_roundw
      case rel => exact ⟨m, aoS, mS, cS, rfl, rfl, by omega, hmS, HS2, HQ4⟩
      case measure => simp [intOf]
    | zero =>
      rw [show (((0 : Nat) : Int) - 1) = -1 from rfl]
      have hVY := HVY.out
      have HW2 : Hid (IsDec wr aoW nW (pv 4294967296 x0 * pv 4294967296 x1)) := hide (by have := HW.out; rw [List.drop_zero] at this; exact this)
      obtain ⟨D, hDr, hDd, hDn, hDv⟩ := HW2.out
      have hts := HK.out.2.2.2
      have k7 := (HB.out.cell (p := ⟨t, 0, none⟩) (show t < W4.heap.size by omega)).trans HK.out.1
      have k8 := (HB.out.cell (p := ⟨t + 1, 0, none⟩) (show t + 1 < W4.heap.size by omega)).trans HK.out.2.1
      have k9 := (HB.out.cell (p := ⟨t + 1 + 1, 0, none⟩) (show t + 1 + 1 < W4.heap.size by omega)).trans HK.out.2.2.1
      have hX := HX.out.kept HB.out
      have hY := HY.out.kept HB.out
      have hZ := HZ.out.kept HB.out
      have hmX' : mX ≤ 8 := by have := H8.out; omega
      have hmY' : mY ≤ 8 := by have := H8.out; omega
      have hba := below_alloc wr (.cells #[.slice aoY mY mY] 30)
      have HPR := hide (product_any aoX mX mX _ (some ⟨wr.heap.size, 0, none⟩) 1 1 [(aoY, mY, mY, pv 4294967296 x1)] _ (hX.kept hba) (by omega) (Nats.one (cell_new wr _ _ rfl) (hY.kept hba) (by omega)) rfl (by omega))
      have HF := hide (And.intro hX (And.intro hY (And.intro hZ (And.intro hDr (And.intro k7 (And.intro k8 k9))))))
      have HBA := hide hba
      have HDD := hide (And.intro hDd (And.intro hDn hDv))
      have HWr := hide (HBW.out.trans (HB.out.mono HBW.out.size))
      clear hX hY hZ hba hDr hDd hDn hDv HW HW2 hts
      go_wp2_with fail
      refine (unhide HPR).mono ?_
      rintro e w5 ⟨aoP, mP, rfl, hP, hmP, hb5⟩
      have e1 : pv 4294967296 x0 * prodN [(aoY, mY, mY, pv 4294967296 x1)] = pv 4294967296 x0 * pv 4294967296 x1 := by simp [prodN]
      rw [e1] at hP
      have hbr : Below wr.heap.size wr (w5.alloc (.cells #[.slice aoP mP mP] 30)) := (HBA.out.trans (hb5.mono HBA.out.size)).trans ((below_alloc w5 _).mono (Nat.le_trans HBA.out.size hb5.size))
      have hlt : ∀ {b o : Nat} {v : Value}, wr.cell? ⟨b, o, none⟩ = some v → (w5.alloc (.cells #[.slice aoP mP mP] 30)).cell? ⟨b, o, none⟩ = some v := fun h => (hbr.cell (World.block_lt_of_cell? wr _ h)).trans h
      have HS0 : Hid (MuS w t w5.heap.size aoX mX (pv 4294967296 x0) aoY mY (pv 4294967296 x1) aoZ mZ (pv 4294967296 x2) aoP mP aoW nW D (w5.alloc (.cells #[.slice aoP mP mP] 30))) := hide ⟨HF.out.1.kept hbr, HF.out.2.1.kept hbr, HF.out.2.2.1.kept hbr, hP.kept (below_alloc _ _), HF.out.2.2.2.1.kept hbr, hlt HF.out.2.2.2.2.1, hlt HF.out.2.2.2.2.2.1, hlt HF.out.2.2.2.2.2.2, cell_new w5 _ _ rfl, HWr.out.trans (hbr.mono HWr.out.size)⟩
      have hmP2 : mP ≤ 1000 := Nat.le_trans (hP.len (mulpow HVX.out.1 HVX.out.2 HVY.out.1 HVY.out.2)) (by omega)
      have HC0 := hide (muC (w := w) (t := t) (q := w5.heap.size) (aoX := aoX) (aoY := aoY) (aoZ := aoZ) (aoP := aoP) (aoW := aoW) HVX.out HVY.out HVZ.out hmX' hmY' (show mZ ≤ 20 by omega) hmP2 hnW cW HDD.out.1 HDD.out.2.1 HDD.out.2.2)
      generalize hq : w5.heap.size = q at *
      obtain ⟨M, hM⟩ : ∃ M, M = MuS w t q aoX mX (pv 4294967296 x0) aoY mY (pv 4294967296 x1) aoZ mZ (pv 4294967296 x2) aoP mP aoW nW D := ⟨_, rfl⟩
      have HS : Hid (M (w5.alloc (.cells #[.slice aoP mP mP] 30))) := hide (by rw [hM]; exact HS0.out)
      rw [← hM] at HC0
      have HCell : Hid (∀ W, M W → W.cell? ⟨t, 0, none⟩ = some (.slice aoX mX mX) ∧ W.cell? ⟨t + 1, 0, none⟩ = some (.slice aoY mY mY) ∧ W.cell? ⟨t + 1 + 1, 0, none⟩ = some (.slice aoZ mZ mZ) ∧ W.cell? ⟨q, 0, none⟩ = some (.slice aoP mP mP)) := hide (fun W h => by rw [hM] at h; exact ⟨h.x7, h.x8, h.x9, h.x12⟩)
      have HNat : Hid (∀ W, M W → IsNat W aoX mX (pv 4294967296 x0) ∧ IsNat W aoP mP (pv 4294967296 x0 * pv 4294967296 x1) ∧ Below w.heap.size w W) := hide (fun W h => by rw [hM] at h; exact ⟨h.X, h.P, h.B⟩)
      have HC := HC0
      clear HC0 HS0 hM hlt hbr hP hmP hb5 e1 HF HBA HPR k7 k8 k9 HX HY HZ HDD HWr hVY
      generalize decStr D = sd at *
      generalize pv 4294967296 x0 = Vx at *
      generalize pv 4294967296 x1 = Vy at *
      generalize pv 4294967296 x2 = Vz at *
      go_wp2
      clear hq
      generalize w5.alloc (.cells #[.slice aoP mP mP] 30) = W6 at *
      have y0 := HCell.out _ HS.out
      have HA1 : Hid (∀ W o, M W → M (W.alloc o)) := hide (fun W o h => HC.out.kept _ _ h (below_alloc _ _))
      have HMX := hide (show mX ≤ 1000 by omega)
      go_region_held3 (fun W => W.cell? ⟨t, 0, none⟩ = some (.slice aoX mX mX) ∧ W.cell? ⟨t + 1, 0, none⟩ = some (.slice aoY mY mY) ∧ W.cell? ⟨t + 1 + 1, 0, none⟩ = some (.slice aoZ mZ mZ) ∧ W.cell? ⟨q, 0, none⟩ = some (.slice aoP mP mP)) (first | exact yy | exact HCell.out _ HS.out | exact HCell.out _ (HC.out.kept _ _ HS.out (Below.refl _ _).drew) | exact HCell.out _ (HA1.out _ _ HS.out) | exact HCell.out _ (HA1.out _ _ (HA1.out _ _ HS.out)) | go_keep) (first
        | (go_at_call 11; refine (HC.out.str _ HS.out).mono ?_; rintro e V1 ⟨rfl, hb⟩; replace HS : Hid (M V1) := hide (by first | exact HC.out.kept _ _ HS.out hb | exact HC.out.kept _ _ (HA1.out _ _ HS.out) hb | exact HC.out.kept _ _ (HA1.out _ _ (HA1.out _ _ HS.out)) hb); (try first | replace zA := ckeep hb zA | replace zA := ckeep hb (calloc zA) | replace zA := ckeep hb (calloc (calloc zA))); (try first | replace zB := ckeep hb zB | replace zB := ckeep hb (calloc zB) | replace zB := ckeep hb (calloc (calloc zB))); (try first | replace zC := ckeep hb zC | replace zC := ckeep hb (calloc zC) | replace zC := ckeep hb (calloc (calloc zC))); (try first | replace zD := ckeep hb zD | replace zD := ckeep hb (calloc zD) | replace zD := ckeep hb (calloc (calloc zD))); (try first | replace HT := hide (And.intro (HT.out.1.kept hb) HT.out.2) | replace HT := hide (And.intro ((HT.out.1.kept (below_alloc _ _)).kept hb) HT.out.2)); have yy := HCell.out _ HS.out)
        | (go_at_call 12; refine (HC.out.prt _ HS.out).mono ?_; rintro e V2 ⟨rfl, hb⟩; replace HS : Hid (M V2) := hide (by first | exact HC.out.kept _ _ HS.out hb | exact HC.out.kept _ _ (HA1.out _ _ HS.out) hb | exact HC.out.kept _ _ (HA1.out _ _ (HA1.out _ _ HS.out)) hb); (try first | replace zA := ckeep hb zA | replace zA := ckeep hb (calloc zA) | replace zA := ckeep hb (calloc (calloc zA))); (try first | replace zB := ckeep hb zB | replace zB := ckeep hb (calloc zB) | replace zB := ckeep hb (calloc (calloc zB))); (try first | replace zC := ckeep hb zC | replace zC := ckeep hb (calloc zC) | replace zC := ckeep hb (calloc (calloc zC))); (try first | replace zD := ckeep hb zD | replace zD := ckeep hb (calloc zD) | replace zD := ckeep hb (calloc (calloc zD))); (try first | replace HT := hide (And.intro (HT.out.1.kept hb) HT.out.2) | replace HT := hide (And.intro ((HT.out.1.kept (below_alloc _ _)).kept hb) HT.out.2)); have yy := HCell.out _ HS.out)
        | (go_at_call 17; have hz := HE87; refine (HC.out.px0 _ HS.out).mono ?_; rintro e V11 ⟨ao92, m92, rfl, h92, hm92, hb⟩; replace HS : Hid (M V11) := hide (by first | exact HC.out.kept _ _ HS.out hb | exact HC.out.kept _ _ (HA1.out _ _ HS.out) hb | exact HC.out.kept _ _ (HA1.out _ _ (HA1.out _ _ HS.out)) hb); (try first | replace zA := ckeep hb zA | replace zA := ckeep hb (calloc zA) | replace zA := ckeep hb (calloc (calloc zA))); (try first | replace zB := ckeep hb zB | replace zB := ckeep hb (calloc zB) | replace zB := ckeep hb (calloc (calloc zB))); (try first | replace zC := ckeep hb zC | replace zC := ckeep hb (calloc zC) | replace zC := ckeep hb (calloc (calloc zC))); (try first | replace zD := ckeep hb zD | replace zD := ckeep hb (calloc zD) | replace zD := ckeep hb (calloc (calloc zD))); (try first | replace HT := hide (And.intro (HT.out.1.kept hb) HT.out.2) | replace HT := hide (And.intro ((HT.out.1.kept (below_alloc _ _)).kept hb) HT.out.2)); have yy := HCell.out _ HS.out; have H92 := hide (And.intro h92 hm92); clear h92 hm92 hb)
        | (go_at_call 17; have hz := HT; refine (HC.out.pxz _ _ (by first | exact HS.out | exact HA1.out _ _ HS.out | exact HA1.out _ _ (HA1.out _ _ HS.out)) (by first | exact zA | exact zB | exact zC | exact zD | exact cell_new _ _ _ rfl)).mono ?_; rintro e V8 ⟨ao84, m84, rfl, h84, hm84, hb⟩; replace HS : Hid (M V8) := hide (by first | exact HC.out.kept _ _ HS.out hb | exact HC.out.kept _ _ (HA1.out _ _ HS.out) hb | exact HC.out.kept _ _ (HA1.out _ _ (HA1.out _ _ HS.out)) hb); (try first | replace zA := ckeep hb zA | replace zA := ckeep hb (calloc zA) | replace zA := ckeep hb (calloc (calloc zA))); (try first | replace zB := ckeep hb zB | replace zB := ckeep hb (calloc zB) | replace zB := ckeep hb (calloc (calloc zB))); (try first | replace zC := ckeep hb zC | replace zC := ckeep hb (calloc zC) | replace zC := ckeep hb (calloc (calloc zC))); (try first | replace zD := ckeep hb zD | replace zD := ckeep hb (calloc zD) | replace zD := ckeep hb (calloc (calloc zD))); (try first | replace HT := hide (And.intro (HT.out.1.kept hb) HT.out.2) | replace HT := hide (And.intro ((HT.out.1.kept (below_alloc _ _)).kept hb) HT.out.2)); have yy := HCell.out _ HS.out; have HU := hide (And.intro h84 hm84); clear h84 hm84 hb)
        | (go_at_call 17; have hz := H77; refine (HC.out.pxs _ _ ao77 m77 (by first | exact HS.out | exact HA1.out _ _ HS.out | exact HA1.out _ _ (HA1.out _ _ HS.out)) (by first | exact cell_new _ _ _ rfl | exact cell_new2 _ _ _ _ | exact calloc (cell_new _ _ _ rfl)) (by first | exact H77.out.1.kept (below_alloc _ _) | exact (H77.out.1.kept (below_alloc _ _)).kept (below_alloc _ _)) H77.out.2).mono ?_; rintro e V7 ⟨ao79, m79, rfl, h79, hm79, hb⟩; replace HS : Hid (M V7) := hide (by first | exact HC.out.kept _ _ HS.out hb | exact HC.out.kept _ _ (HA1.out _ _ HS.out) hb | exact HC.out.kept _ _ (HA1.out _ _ (HA1.out _ _ HS.out)) hb); (try first | replace zA := ckeep hb zA | replace zA := ckeep hb (calloc zA) | replace zA := ckeep hb (calloc (calloc zA))); (try first | replace zB := ckeep hb zB | replace zB := ckeep hb (calloc zB) | replace zB := ckeep hb (calloc (calloc zB))); (try first | replace zC := ckeep hb zC | replace zC := ckeep hb (calloc zC) | replace zC := ckeep hb (calloc (calloc zC))); (try first | replace zD := ckeep hb zD | replace zD := ckeep hb (calloc zD) | replace zD := ckeep hb (calloc (calloc zD))); (try first | replace HT := hide (And.intro (HT.out.1.kept hb) HT.out.2) | replace HT := hide (And.intro ((HT.out.1.kept (below_alloc _ _)).kept hb) HT.out.2)); have yy := HCell.out _ HS.out; have HT := hide (And.intro h79 hm79); (try have zC : V7.cell? ⟨V6.heap.size, 0, none⟩ = some (.slice aoZ mZ mZ) := ckeep hb (calloc (cell_new _ _ _ rfl))); (try have zD : V7.cell? ⟨V6.heap.size + 1, 0, none⟩ = some (.slice aoZ mZ mZ) := ckeep hb (cell_new2 _ _ _ _)); clear h79 hm79 hb)
        | (go_at_call 17; refine (HC.out.pyx _ _ (HA1.out _ _ HS.out) (cell_new _ _ _ rfl)).mono ?_; rintro e V3 ⟨ao67, m67, rfl, h67, hm67, hb⟩; replace HS : Hid (M V3) := hide (by first | exact HC.out.kept _ _ HS.out hb | exact HC.out.kept _ _ (HA1.out _ _ HS.out) hb | exact HC.out.kept _ _ (HA1.out _ _ (HA1.out _ _ HS.out)) hb); (try first | replace zA := ckeep hb zA | replace zA := ckeep hb (calloc zA) | replace zA := ckeep hb (calloc (calloc zA))); (try first | replace zB := ckeep hb zB | replace zB := ckeep hb (calloc zB) | replace zB := ckeep hb (calloc (calloc zB))); (try first | replace zC := ckeep hb zC | replace zC := ckeep hb (calloc zC) | replace zC := ckeep hb (calloc (calloc zC))); (try first | replace zD := ckeep hb zD | replace zD := ckeep hb (calloc zD) | replace zD := ckeep hb (calloc (calloc zD))); (try first | replace HT := hide (And.intro (HT.out.1.kept hb) HT.out.2) | replace HT := hide (And.intro ((HT.out.1.kept (below_alloc _ _)).kept hb) HT.out.2)); have yy := HCell.out _ HS.out; have H67 := hide (And.intro h67 hm67); clear h67 hm67 hb)
        | (go_at_call 14; have hz := H92; refine (HC.out.cmp _ ao92 m92 aoX mX _ H92.out.1 H92.out.2 (HNat.out _ HS.out).1 HMX.out).mono ?_; rintro e V12 ⟨rfl, hb⟩; replace HS : Hid (M V12) := hide (by first | exact HC.out.kept _ _ HS.out hb | exact HC.out.kept _ _ (HA1.out _ _ HS.out) hb | exact HC.out.kept _ _ (HA1.out _ _ (HA1.out _ _ HS.out)) hb); (try first | replace zA := ckeep hb zA | replace zA := ckeep hb (calloc zA) | replace zA := ckeep hb (calloc (calloc zA))); (try first | replace zB := ckeep hb zB | replace zB := ckeep hb (calloc zB) | replace zB := ckeep hb (calloc (calloc zB))); (try first | replace zC := ckeep hb zC | replace zC := ckeep hb (calloc zC) | replace zC := ckeep hb (calloc (calloc zC))); (try first | replace zD := ckeep hb zD | replace zD := ckeep hb (calloc zD) | replace zD := ckeep hb (calloc (calloc zD))); (try first | replace HT := hide (And.intro (HT.out.1.kept hb) HT.out.2) | replace HT := hide (And.intro ((HT.out.1.kept (below_alloc _ _)).kept hb) HT.out.2)); have yy := HCell.out _ HS.out; clear hb)
        | (go_at_call 14; have hz := HA86; refine (HC.out.cmp _ ao79 m79 ao86 m86 _ HT.out.1 HT.out.2 HA86.out.1 HA86.out.2).mono ?_; rintro e V10 ⟨rfl, hb⟩; replace HS : Hid (M V10) := hide (by first | exact HC.out.kept _ _ HS.out hb | exact HC.out.kept _ _ (HA1.out _ _ HS.out) hb | exact HC.out.kept _ _ (HA1.out _ _ (HA1.out _ _ HS.out)) hb); (try first | replace zA := ckeep hb zA | replace zA := ckeep hb (calloc zA) | replace zA := ckeep hb (calloc (calloc zA))); (try first | replace zB := ckeep hb zB | replace zB := ckeep hb (calloc zB) | replace zB := ckeep hb (calloc (calloc zB))); (try first | replace zC := ckeep hb zC | replace zC := ckeep hb (calloc zC) | replace zC := ckeep hb (calloc (calloc zC))); (try first | replace zD := ckeep hb zD | replace zD := ckeep hb (calloc zD) | replace zD := ckeep hb (calloc (calloc zD))); (try first | replace HT := hide (And.intro (HT.out.1.kept hb) HT.out.2) | replace HT := hide (And.intro ((HT.out.1.kept (below_alloc _ _)).kept hb) HT.out.2)); have yy := HCell.out _ HS.out; have HE87 := hide True.intro; clear hb)
        | (go_at_call 14; refine (HC.out.cmp _ ao67 m67 aoP mP _ H67.out.1 H67.out.2 (HNat.out _ HS.out).2.1 hmP2).mono ?_; rintro e V4 ⟨rfl, hb⟩; replace HS : Hid (M V4) := hide (by first | exact HC.out.kept _ _ HS.out hb | exact HC.out.kept _ _ (HA1.out _ _ HS.out) hb | exact HC.out.kept _ _ (HA1.out _ _ (HA1.out _ _ HS.out)) hb); (try first | replace zA := ckeep hb zA | replace zA := ckeep hb (calloc zA) | replace zA := ckeep hb (calloc (calloc zA))); (try first | replace zB := ckeep hb zB | replace zB := ckeep hb (calloc zB) | replace zB := ckeep hb (calloc (calloc zB))); (try first | replace zC := ckeep hb zC | replace zC := ckeep hb (calloc zC) | replace zC := ckeep hb (calloc (calloc zC))); (try first | replace zD := ckeep hb zD | replace zD := ckeep hb (calloc zD) | replace zD := ckeep hb (calloc (calloc zD))); (try first | replace HT := hide (And.intro (HT.out.1.kept hb) HT.out.2) | replace HT := hide (And.intro ((HT.out.1.kept (below_alloc _ _)).kept hb) HT.out.2)); have yy := HCell.out _ HS.out; clear hb)
        | (go_at_call 10; have hz := HU; refine (HC.out.apx _ _ ao84 m84 (HA1.out _ _ HS.out) (cell_new _ _ _ rfl) (HU.out.1.kept (below_alloc _ _)) HU.out.2).mono ?_; rintro e V9 ⟨ao86, m86, rfl, h86, hm86, hb⟩; replace HS : Hid (M V9) := hide (by first | exact HC.out.kept _ _ HS.out hb | exact HC.out.kept _ _ (HA1.out _ _ HS.out) hb | exact HC.out.kept _ _ (HA1.out _ _ (HA1.out _ _ HS.out)) hb); (try first | replace zA := ckeep hb zA | replace zA := ckeep hb (calloc zA) | replace zA := ckeep hb (calloc (calloc zA))); (try first | replace zB := ckeep hb zB | replace zB := ckeep hb (calloc zB) | replace zB := ckeep hb (calloc (calloc zB))); (try first | replace zC := ckeep hb zC | replace zC := ckeep hb (calloc zC) | replace zC := ckeep hb (calloc (calloc zC))); (try first | replace zD := ckeep hb zD | replace zD := ckeep hb (calloc zD) | replace zD := ckeep hb (calloc (calloc zD))); (try first | replace HT := hide (And.intro (HT.out.1.kept hb) HT.out.2) | replace HT := hide (And.intro ((HT.out.1.kept (below_alloc _ _)).kept hb) HT.out.2)); have yy := HCell.out _ HS.out; have HA86 := hide (And.intro h86 hm86); clear h86 hm86 hb)
        | (go_at_call 10; refine (HC.out.ayz _ _ (by first | exact HS.out | exact HA1.out _ _ HS.out | exact HA1.out _ _ (HA1.out _ _ HS.out)) (by first | exact cell_new _ _ _ rfl | exact cell_new2 _ _ _ _ | exact calloc (cell_new _ _ _ rfl))).mono ?_; rintro e V6 ⟨ao77, m77, rfl, h77, hm77, hb⟩; replace HS : Hid (M V6) := hide (by first | exact HC.out.kept _ _ HS.out hb | exact HC.out.kept _ _ (HA1.out _ _ HS.out) hb | exact HC.out.kept _ _ (HA1.out _ _ (HA1.out _ _ HS.out)) hb); (try first | replace zA := ckeep hb zA | replace zA := ckeep hb (calloc zA) | replace zA := ckeep hb (calloc (calloc zA))); (try first | replace zB := ckeep hb zB | replace zB := ckeep hb (calloc zB) | replace zB := ckeep hb (calloc (calloc zB))); (try first | replace zC := ckeep hb zC | replace zC := ckeep hb (calloc zC) | replace zC := ckeep hb (calloc (calloc zC))); (try first | replace zD := ckeep hb zD | replace zD := ckeep hb (calloc zD) | replace zD := ckeep hb (calloc (calloc zD))); (try first | replace HT := hide (And.intro (HT.out.1.kept hb) HT.out.2) | replace HT := hide (And.intro ((HT.out.1.kept (below_alloc _ _)).kept hb) HT.out.2)); have yy := HCell.out _ HS.out; have H77 := hide (And.intro h77 hm77); (try first | have zA : V6.cell? ⟨V4.heap.size, 0, none⟩ = some (.slice aoZ mZ mZ) := ckeep hb (calloc (cell_new _ _ _ rfl)) | have zA : V6.cell? ⟨V4.heap.size, 0, none⟩ = some (.slice aoZ mZ mZ) := ckeep hb (cell_new _ _ _ rfl)); (try have zB : V6.cell? ⟨V4.heap.size + 1, 0, none⟩ = some (.slice aoZ mZ mZ) := ckeep hb (cell_new2 _ _ _ _)); clear h77 hm77 hb)
        | (go_at_call 6; refine (awake_any _).mono ?_; rintro e V13 ⟨rfl, hb⟩; replace HS : Hid (M V13) := hide (by first | exact HC.out.kept _ _ HS.out hb | exact HC.out.kept _ _ (HA1.out _ _ HS.out) hb | exact HC.out.kept _ _ (HA1.out _ _ (HA1.out _ _ HS.out)) hb); (try first | replace zA := ckeep hb zA | replace zA := ckeep hb (calloc zA) | replace zA := ckeep hb (calloc (calloc zA))); (try first | replace zB := ckeep hb zB | replace zB := ckeep hb (calloc zB) | replace zB := ckeep hb (calloc (calloc zB))); (try first | replace zC := ckeep hb zC | replace zC := ckeep hb (calloc zC) | replace zC := ckeep hb (calloc (calloc zC))); (try first | replace zD := ckeep hb zD | replace zD := ckeep hb (calloc zD) | replace zD := ckeep hb (calloc (calloc zD))); (try first | replace HT := hide (And.intro (HT.out.1.kept hb) HT.out.2) | replace HT := hide (And.intro ((HT.out.1.kept (below_alloc _ _)).kept hb) HT.out.2)); have yy := HCell.out _ HS.out; clear hb))
      all_goals
        go_wp2
        go_ret
        exact ⟨rfl, (HNat.out _ HS.out).2.2⟩

end Go.Proofs.Ytceofnkjdkbebaa
