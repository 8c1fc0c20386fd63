/- The document's Right. -/
import Derived.Test.YteiinkhdgppgbaaGreatDoorSpT
namespace Go.Proofs.YteiinkhdgppgbaaGreatDoor
open Go.RowKit
set_option linter.unusedVariables false
set_option linter.unusedSimpArgs false

def inR (n lo hi : Int) : Bool := decide (lo ≤ n ∧ n ≤ hi)
theorem in_any (n lo hi : Int) (w : World) :
    Calls Tryz.prog 19 #[.int .i64 n, .int .i64 lo, .int .i64 hi] w fun e w' => e = .returned (.bool (inR n lo hi)) ∧ w' = w := by
  unfold inR
  by_cases h1 : lo ≤ n
  · by_cases h2 : n ≤ hi
    · rw [show decide (lo ≤ n ∧ n ≤ hi) = true from decide_eq_true ⟨h1, h2⟩]
      go_enter Tryz.func19, Tryz.ntmps19
      go_wp2
      go_ret
      exact ⟨rfl, rfl⟩
    · rw [show decide (lo ≤ n ∧ n ≤ hi) = false from decide_eq_false (fun h => h2 h.2)]
      go_enter Tryz.func19, Tryz.ntmps19
      go_wp2
      go_ret
      exact ⟨rfl, rfl⟩
  · rw [show decide (lo ≤ n ∧ n ≤ hi) = false from decide_eq_false (fun h => h1 h.1)]
    go_enter Tryz.func19, Tryz.ntmps19
    go_wp2
    go_ret
    exact ⟨rfl, rfl⟩
theorem in_eq {n lo hi : Int} {b : Bool} (h : inR n lo hi = b) (w : World) :
    Calls Tryz.prog 19 #[.int .i64 n, .int .i64 lo, .int .i64 hi] w fun e w' => e = .returned (.bool b) ∧ w' = w := h ▸ in_any n lo hi w
theorem notR {s : Sp} (h : ¬ s.Right) : rightB s = false := by
  cases hb : rightB s with
  | false => rfl
  | true => exact absurd ((rightB_iff s).1 hb) h

theorem okM_in (m : Int × Int) : okM m = (inR m.1 0 999 && inR m.2 0 999) := by
  unfold okM inR
  rw [Bool.eq_iff_iff]
  simp only [Bool.and_eq_true, decide_eq_true_eq]
  omega
theorem okJ_in (m : Int × Int) : okJ m = (inR m.1 0 15 && inR m.2 0 15) := by
  unfold okJ inR
  rw [Bool.eq_iff_iff]
  simp only [Bool.and_eq_true, decide_eq_true_eq]
  omega
theorem okT_in (m : ByteArray) : okT m = inR (m.size : Int) 2 64 := by
  unfold okT inR
  rw [Bool.eq_iff_iff]
  simp only [decide_eq_true_eq]
  omega
theorem okS_in (m : Int × ByteArray) : okS m = (inR m.1 0 1073741824 && inR (m.2.size : Int) 1 64) := by
  unfold okS inR
  rw [Bool.eq_iff_iff]
  simp only [Bool.and_eq_true, decide_eq_true_eq]
  omega
theorem okC_in (m : Int × Int × Int) : okC m = (decide (0 ≤ m.1) && decide (m.1 ≤ m.2.1) && decide (m.2.1 ≤ 255) && inR m.2.2 0 15) := by
  unfold okC inR
  rw [Bool.eq_iff_iff]
  simp only [Bool.and_eq_true, decide_eq_true_eq]
  omega
theorem gM_mem {l : List (Int × Int)} {k : Nat} (h : k < l.length) : gM l k ∈ l := by unfold gM; rw [List.getD_eq_getElem?_getD, List.getElem?_eq_getElem h]; exact List.getElem_mem h
theorem gT_mem {l : List ByteArray} {k : Nat} (h : k < l.length) : gT l k ∈ l := by unfold gT; rw [List.getD_eq_getElem?_getD, List.getElem?_eq_getElem h]; exact List.getElem_mem h
theorem gS_mem {l : List (Int × ByteArray)} {k : Nat} (h : k < l.length) : gS l k ∈ l := by unfold gS; rw [List.getD_eq_getElem?_getD, List.getElem?_eq_getElem h]; exact List.getElem_mem h
theorem gC_mem {l : List (Int × Int × Int)} {k : Nat} (h : k < l.length) : gC l k ∈ l := by unfold gC; rw [List.getD_eq_getElem?_getD, List.getElem?_eq_getElem h]; exact List.getElem_mem h
theorem badM {s : Sp} {k : Nat} (hk : k < s.merges.length) (h : okM (gM s.merges k) = false) : rightB s = false := notR fun hR => by have := hR.am _ (gM_mem hk); rw [h] at this; cases this
theorem badT {s : Sp} {k : Nat} (hk : k < s.tokens.length) (h : okT (gT s.tokens k) = false) : rightB s = false := notR fun hR => by have := hR.atk _ (gT_mem hk); rw [h] at this; cases this
theorem badS {s : Sp} {k : Nat} (hk : k < s.specials.length) (h : okS (gS s.specials k) = false) : rightB s = false := notR fun hR => by have := hR.asp _ (gS_mem hk); rw [h] at this; cases this
theorem badC {s : Sp} {k : Nat} (hk : k < s.classes.length) (h : okC (gC s.classes k) = false) : rightB s = false := notR fun hR => by have := hR.ac _ (gC_mem hk); rw [h] at this; cases this
theorem badJ {s : Sp} {k : Nat} (hk : k < s.joins.length) (h : okJ (gM s.joins k) = false) : rightB s = false := notR fun hR => by have := hR.aj _ (gM_mem hk); rw [h] at this; cases this
theorem noRoomM {s : Sp} {k : Nat} (hr : s.ranked = true) (hk : k < s.merges.length) : rightB s = false := notR fun hR => by
  have := hR.nm
  rw [hr] at this
  have h2 : roomM true = 0 := rfl
  omega
theorem noRoomT {s : Sp} {k : Nat} (hr : s.ranked = false) (hk : k < s.tokens.length) : rightB s = false := notR fun hR => by
  have := hR.nt
  rw [hr] at this
  have h2 : roomT false = 0 := rfl
  omega
theorem allM {l : List (Int × Int)} {ok : Int × Int → Bool} (h : ∀ i, i < l.length → ok (gM l i) = true) : ∀ x ∈ l, ok x = true := fun x hx => by
  obtain ⟨i, hi, rfl⟩ := List.getElem_of_mem hx
  have := h i hi
  unfold gM at this
  rwa [List.getD_eq_getElem?_getD, List.getElem?_eq_getElem hi] at this
theorem allT {l : List ByteArray} {ok : ByteArray → Bool} (h : ∀ i, i < l.length → ok (gT l i) = true) : ∀ x ∈ l, ok x = true := fun x hx => by
  obtain ⟨i, hi, rfl⟩ := List.getElem_of_mem hx
  have := h i hi
  unfold gT at this
  rwa [List.getD_eq_getElem?_getD, List.getElem?_eq_getElem hi] at this
theorem allS {l : List (Int × ByteArray)} {ok : Int × ByteArray → Bool} (h : ∀ i, i < l.length → ok (gS l i) = true) : ∀ x ∈ l, ok x = true := fun x hx => by
  obtain ⟨i, hi, rfl⟩ := List.getElem_of_mem hx
  have := h i hi
  unfold gS at this
  rwa [List.getD_eq_getElem?_getD, List.getElem?_eq_getElem hi] at this
theorem allC {l : List (Int × Int × Int)} {ok : Int × Int × Int → Bool} (h : ∀ i, i < l.length → ok (gC l i) = true) : ∀ x ∈ l, ok x = true := fun x hx => by
  obtain ⟨i, hi, rfl⟩ := List.getElem_of_mem hx
  have := h i hi
  unfold gC at this
  rwa [List.getD_eq_getElem?_getD, List.getElem?_eq_getElem hi] at this
theorem goodR {w : World} {x : Sv} {s : Sp} (h : SpAt w x s) (h1 : ∀ i, i < x.n1 → s.ranked = false ∧ okM (gM s.merges i) = true) (h2 : ∀ i, i < x.n2 → s.ranked = true ∧ okT (gT s.tokens i) = true) (h3 : ∀ i, i < x.n3 → okS (gS s.specials i) = true) (h4 : ∀ i, i < x.n4 → okC (gC s.classes i) = true) (h5 : ∀ i, i < x.n5 → okJ (gM s.joins i) = true)
    (hl : x.n1 ≤ 744 ∧ x.n2 ≤ 744 ∧ x.n3 ≤ 32 ∧ x.n4 ≤ 64 ∧ x.n5 ≤ 64) : rightB s = true := by
  have e1 := h.ms.1; have e2 := h.ts.1; have e3 := h.ss.1; have e4 := h.cs.1; have e5 := h.js.1
  refine (rightB_iff s).2 ⟨?_, allM fun i hi => (h1 i (by omega)).2, ?_, allT fun i hi => (h2 i (by omega)).2, by omega, allS fun i hi => h3 i (by omega), by omega, allC fun i hi => h4 i (by omega), by omega, allM fun i hi => h5 i (by omega)⟩
  · unfold roomM
    split
    · rename_i hr
      rcases Nat.eq_zero_or_pos x.n1 with h0 | h0
      · omega
      · have := (h1 0 h0).1
        rw [hr] at this
        cases this
    · omega
  · unfold roomT
    split
    · omega
    · rename_i hr
      rcases Nat.eq_zero_or_pos x.n2 with h0 | h0
      · omega
      · exact absurd (h2 0 h0).1 hr

set_option maxHeartbeats 16000000 in
set_option maxRecDepth 20000 in
theorem rright_any (x : Sv) (s : Sp) (w : World) (h : SpAt w x s) :
    Calls Tryz.prog 9 #[.agg x.cs] w fun e w' => e = .returned (.bool (rightB s)) ∧ Below w.heap.size w w' := by
  have HI := hide (SpI.new h 28)
  obtain ⟨y0, y1, y2, y3, y4, y5⟩ := HI.out.box
  clear h
  have m1 := HI.out.sp.ms.1; have m2 := HI.out.sp.ts.1; have m3 := HI.out.sp.ss.1; have m4 := HI.out.sp.cs.1; have m5 := HI.out.sp.js.1
  by_cases a1 : 744 < x.n1
  · have b1 : (744 : Int) < (x.n1 : Int) := by omega
    rw [notR (fun hR => by have := hR.nm; unfold roomM at this; split at this <;> omega)]
    clear a1 m1 m2 m3 m4 m5
    go_enter Tryz.func9, Tryz.ntmps9
    go_wp2
    go_ret
    exact ⟨rfl, HI.out.bel⟩
  have b1 : ¬ (744 : Int) < (x.n1 : Int) := by omega
  by_cases a2 : 744 < x.n2
  · have b2 : (744 : Int) < (x.n2 : Int) := by omega
    rw [notR (fun hR => by have := hR.nt; unfold roomT at this; split at this <;> omega)]
    clear a1 a2 m1 m2 m3 m4 m5
    go_enter Tryz.func9, Tryz.ntmps9
    go_wp2
    go_ret
    exact ⟨rfl, HI.out.bel⟩
  have b2 : ¬ (744 : Int) < (x.n2 : Int) := by omega
  by_cases a3 : 32 < x.n3
  · have b3 : (32 : Int) < (x.n3 : Int) := by omega
    rw [notR (fun hR => by have := hR.ns; omega)]
    clear a1 a2 a3 m1 m2 m3 m4 m5
    go_enter Tryz.func9, Tryz.ntmps9
    go_wp2
    go_ret
    exact ⟨rfl, HI.out.bel⟩
  have b3 : ¬ (32 : Int) < (x.n3 : Int) := by omega
  by_cases a4 : 64 < x.n4
  · have b4 : (64 : Int) < (x.n4 : Int) := by omega
    rw [notR (fun hR => by have := hR.nc; omega)]
    clear a1 a2 a3 a4 m1 m2 m3 m4 m5
    go_enter Tryz.func9, Tryz.ntmps9
    go_wp2
    go_ret
    exact ⟨rfl, HI.out.bel⟩
  have b4 : ¬ (64 : Int) < (x.n4 : Int) := by omega
  by_cases a5 : 64 < x.n5
  · have b5 : (64 : Int) < (x.n5 : Int) := by omega
    rw [notR (fun hR => by have := hR.nj; omega)]
    clear a1 a2 a3 a4 a5 m1 m2 m3 m4 m5
    go_enter Tryz.func9, Tryz.ntmps9
    go_wp2
    go_ret
    exact ⟨rfl, HI.out.bel⟩
  have b5 : ¬ (64 : Int) < (x.n5 : Int) := by omega
  have HL : Hid (x.n1 ≤ 744 ∧ x.n2 ≤ 744 ∧ x.n3 ≤ 32 ∧ x.n4 ≤ 64 ∧ x.n5 ≤ 64) := hide (by omega)
  clear m1 m2 m3 m4 m5
  go_enter Tryz.func9, Tryz.ntmps9
  go_wp2
  go_loopw [3] (fun i wr => ∃ (k : Nat), i = .int .i64 k ∧ k ≤ x.n1 ∧ Hid (SpI w w.heap.size x s wr) ∧ Hid (∀ i, i < k → s.ranked = false ∧ okM (gM s.merges i) = true)) (fun i _ => x.n1 - (intOf i).toNat)
  case atStart => exact ⟨0, rfl, Nat.zero_le _, HI, hide (fun i hi => absurd hi (Nat.not_lt_zero i))⟩
  case round =>
    clear HI y0 y1 y2 y3 y4 y5
    obtain ⟨k, rfl, hk, HI, HP1⟩ := hrel
    obtain ⟨y0, y1, y2, y3, y4, y5⟩ := HI.out.box
    by_cases hlt : k < x.n1
    · have hk0 : (0 : Int) ≤ (k : Int) := by omega
      have hk1 : (k : Int) < (x.n1 : Int) := by omega
      rcases HI.out.sp.ms.2 with h0 | ⟨b, off, hao, hbl, hc⟩
      · omega
      obtain ⟨c0, c1⟩ := hc k hlt
      clear hc
      rw [hao] at y1
      clear hao
      have HBD : Hid (okM (gM s.merges k) = false → rightB s = false) := hide (badM (by have := HI.out.sp.ms.1; omega))
      have HNX : Hid (s.ranked = false ∧ okM (gM s.merges k) = true → ∀ i, i < k + 1 → s.ranked = false ∧ okM (gM s.merges i) = true) := hide (fun h i hi => by
        rcases Nat.lt_succ_iff_lt_or_eq.1 hi with h2 | rfl
        · exact HP1.out i h2
        · exact h)
      have HKL : Hid (k < s.merges.length) := hide (by have := HI.out.sp.ms.1; omega)
      clear HP1
      generalize gM s.merges k = m at c0 c1 HBD HNX
      have HI2 := HI
      cases hr : x.r with
      | false =>
        rw [hr] at y0
        have hrk : s.ranked = false := by rw [← HI.out.sp.r, hr]
        cases q0 : inR m.1 0 999 with
        | false =>
          have HF : Hid (rightB s = false) := hide (HBD.out (by rw [okM_in, q0] <;> rfl))
          go_wp2_with fail
          refine (in_eq q0 _).mono ?_
          rintro e w0 ⟨rfl, rfl⟩
          go_wp2
          go_ret
          rw [HF.out]
          exact ⟨rfl, HI2.out.bel⟩
        | true =>
          cases q1 : inR m.2 0 999 with
          | false =>
            have HF : Hid (rightB s = false) := hide (HBD.out (by rw [okM_in, q0, q1] <;> rfl))
            go_wp2_with fail
            refine (in_eq q0 _).mono ?_
            rintro e w0 ⟨rfl, rfl⟩
            go_wp2_with fail
            refine (in_eq q1 _).mono ?_
            rintro e w1 ⟨rfl, rfl⟩
            go_wp2
            go_ret
            rw [HF.out]
            exact ⟨rfl, HI2.out.bel⟩
          | true =>
            have HOK := hide (HNX.out ⟨hrk, (by rw [okM_in, q0, q1] <;> rfl)⟩)
            go_wp2_with fail
            refine (in_eq q0 _).mono ?_
            rintro e w0 ⟨rfl, rfl⟩
            go_wp2_with fail
            refine (in_eq q1 _).mono ?_
            rintro e w1 ⟨rfl, rfl⟩
            go_wp2
            go_roundw
            case rel => exact ⟨k + 1, by go_num, by omega, HI2, HOK⟩
            case measure => simp [intOf]; omega
      | true =>
        rw [hr] at y0
        have HF : Hid (rightB s = false) := hide (noRoomM (by rw [← HI.out.sp.r, hr]) HKL.out)
        go_wp2
        go_ret
        rw [HF.out]
        exact ⟨rfl, HI2.out.bel⟩
    · have hkn : k = x.n1 := by omega
      subst hkn
      clear hlt hk
      go_wp2
      go_loopw [4] (fun i wr => ∃ (k : Nat), i = .int .i64 k ∧ k ≤ x.n2 ∧ Hid (SpI w w.heap.size x s wr) ∧ Hid (∀ i, i < k → s.ranked = true ∧ okT (gT s.tokens i) = true)) (fun i _ => x.n2 - (intOf i).toNat)
      case atStart => exact ⟨0, rfl, Nat.zero_le _, HI, hide (fun i hi => absurd hi (Nat.not_lt_zero i))⟩
      case round =>
        clear HI y0 y1 y2 y3 y4 y5
        obtain ⟨k, rfl, hk, HI, HP2⟩ := hrel
        obtain ⟨y0, y1, y2, y3, y4, y5⟩ := HI.out.box
        by_cases hlt : k < x.n2
        · have hk0 : (0 : Int) ≤ (k : Int) := by omega
          have hk1 : (k : Int) < (x.n2 : Int) := by omega
          rcases HI.out.sp.ts.2 with h0 | ⟨b, off, hao, hbl, hc⟩
          · omega
          have c0 := hc k hlt
          clear hc
          rw [hao] at y2
          clear hao
          have HBD : Hid (okT (gT s.tokens k) = false → rightB s = false) := hide (badT (by have := HI.out.sp.ts.1; omega))
          have HNX : Hid (s.ranked = true ∧ okT (gT s.tokens k) = true → ∀ i, i < k + 1 → s.ranked = true ∧ okT (gT s.tokens i) = true) := hide (fun h i hi => by
            rcases Nat.lt_succ_iff_lt_or_eq.1 hi with h2 | rfl
            · exact HP2.out i h2
            · exact h)
          have HKL : Hid (k < s.tokens.length) := hide (by have := HI.out.sp.ts.1; omega)
          clear HP2
          generalize gT s.tokens k = m at c0 HBD HNX
          have HI2 := HI
          cases hr : x.r with
          | false =>
            rw [hr] at y0
            have HF : Hid (rightB s = false) := hide (noRoomT (by rw [← HI.out.sp.r, hr]) HKL.out)
            go_wp2
            go_ret
            rw [HF.out]
            exact ⟨rfl, HI2.out.bel⟩
          | true =>
            rw [hr] at y0
            have hrk : s.ranked = true := by rw [← HI.out.sp.r, hr]
            cases q0 : inR (m.size : Int) 2 64 with
            | false =>
              have HF : Hid (rightB s = false) := hide (HBD.out (by rw [okT_in, q0] <;> rfl))
              go_wp2_with fail
              refine (in_eq q0 _).mono ?_
              rintro e w0 ⟨rfl, rfl⟩
              go_wp2
              go_ret
              rw [HF.out]
              exact ⟨rfl, HI2.out.bel⟩
            | true =>
              have HOK := hide (HNX.out ⟨hrk, (by rw [okT_in, q0] <;> rfl)⟩)
              go_wp2_with fail
              refine (in_eq q0 _).mono ?_
              rintro e w0 ⟨rfl, rfl⟩
              go_wp2
              go_roundw
              case rel => exact ⟨k + 1, by go_num, by omega, HI2, HOK⟩
              case measure => simp [intOf]; omega
        · have hkn : k = x.n2 := by omega
          subst hkn
          clear hlt hk
          go_wp2
          go_loopw [5] (fun i wr => ∃ (k : Nat), i = .int .i64 k ∧ k ≤ x.n3 ∧ Hid (SpI w w.heap.size x s wr) ∧ Hid (∀ i, i < k → okS (gS s.specials i) = true)) (fun i _ => x.n3 - (intOf i).toNat)
          case atStart => exact ⟨0, rfl, Nat.zero_le _, HI, hide (fun i hi => absurd hi (Nat.not_lt_zero i))⟩
          case round =>
            clear HI y0 y1 y2 y3 y4 y5
            obtain ⟨k, rfl, hk, HI, HP3⟩ := hrel
            obtain ⟨y0, y1, y2, y3, y4, y5⟩ := HI.out.box
            by_cases hlt : k < x.n3
            · have hk0 : (0 : Int) ≤ (k : Int) := by omega
              have hk1 : (k : Int) < (x.n3 : Int) := by omega
              rcases HI.out.sp.ss.2 with h0 | ⟨b, off, hao, hbl, hc⟩
              · omega
              obtain ⟨c0, c1⟩ := hc k hlt
              clear hc
              rw [hao] at y3
              clear hao
              have HBD : Hid (okS (gS s.specials k) = false → rightB s = false) := hide (badS (by have := HI.out.sp.ss.1; omega))
              have HNX : Hid (okS (gS s.specials k) = true → ∀ i, i < k + 1 → okS (gS s.specials i) = true) := hide (fun h i hi => by
                rcases Nat.lt_succ_iff_lt_or_eq.1 hi with h2 | rfl
                · exact HP3.out i h2
                · exact h)
              have HKL : Hid (k < s.specials.length) := hide (by have := HI.out.sp.ss.1; omega)
              clear HP3
              generalize gS s.specials k = m at c0 c1 HBD HNX
              have HI2 := HI
              cases q0 : inR m.1 0 1073741824 with
              | false =>
                have HF : Hid (rightB s = false) := hide (HBD.out (by rw [okS_in, q0] <;> rfl))
                go_wp2_with fail
                refine (in_eq q0 _).mono ?_
                rintro e w0 ⟨rfl, rfl⟩
                go_wp2
                go_ret
                rw [HF.out]
                exact ⟨rfl, HI2.out.bel⟩
              | true =>
                cases q1 : inR (m.2.size : Int) 1 64 with
                | false =>
                  have HF : Hid (rightB s = false) := hide (HBD.out (by rw [okS_in, q0, q1] <;> rfl))
                  go_wp2_with fail
                  refine (in_eq q0 _).mono ?_
                  rintro e w0 ⟨rfl, rfl⟩
                  go_wp2_with fail
                  refine (in_eq q1 _).mono ?_
                  rintro e w1 ⟨rfl, rfl⟩
                  go_wp2
                  go_ret
                  rw [HF.out]
                  exact ⟨rfl, HI2.out.bel⟩
                | true =>
                  have HOK := hide (HNX.out (by rw [okS_in, q0, q1] <;> rfl))
                  go_wp2_with fail
                  refine (in_eq q0 _).mono ?_
                  rintro e w0 ⟨rfl, rfl⟩
                  go_wp2_with fail
                  refine (in_eq q1 _).mono ?_
                  rintro e w1 ⟨rfl, rfl⟩
                  go_wp2
                  go_roundw
                  case rel => exact ⟨k + 1, by go_num, by omega, HI2, HOK⟩
                  case measure => simp [intOf]; omega
            · have hkn : k = x.n3 := by omega
              subst hkn
              clear hlt hk
              go_wp2
              go_loopw [6] (fun i wr => ∃ (k : Nat), i = .int .i64 k ∧ k ≤ x.n4 ∧ Hid (SpI w w.heap.size x s wr) ∧ Hid (∀ i, i < k → okC (gC s.classes i) = true)) (fun i _ => x.n4 - (intOf i).toNat)
              case atStart => exact ⟨0, rfl, Nat.zero_le _, HI, hide (fun i hi => absurd hi (Nat.not_lt_zero i))⟩
              case round =>
                clear HI y0 y1 y2 y3 y4 y5
                obtain ⟨k, rfl, hk, HI, HP4⟩ := hrel
                obtain ⟨y0, y1, y2, y3, y4, y5⟩ := HI.out.box
                by_cases hlt : k < x.n4
                · have hk0 : (0 : Int) ≤ (k : Int) := by omega
                  have hk1 : (k : Int) < (x.n4 : Int) := by omega
                  rcases HI.out.sp.cs.2 with h0 | ⟨b, off, hao, hbl, hc⟩
                  · omega
                  obtain ⟨c0, c1, c2⟩ := hc k hlt
                  clear hc
                  rw [hao] at y4
                  clear hao
                  have HBD : Hid (okC (gC s.classes k) = false → rightB s = false) := hide (badC (by have := HI.out.sp.cs.1; omega))
                  have HNX : Hid (okC (gC s.classes k) = true → ∀ i, i < k + 1 → okC (gC s.classes i) = true) := hide (fun h i hi => by
                    rcases Nat.lt_succ_iff_lt_or_eq.1 hi with h2 | rfl
                    · exact HP4.out i h2
                    · exact h)
                  have HKL : Hid (k < s.classes.length) := hide (by have := HI.out.sp.cs.1; omega)
                  clear HP4
                  generalize gC s.classes k = m at c0 c1 c2 HBD HNX
                  have HI2 := hide (HI.out.next (low_alloc wr (.cells #[.int .i64 m.1, .int .i64 m.2.1, .int .i64 m.2.2] 57)))
                  by_cases p0 : m.1 < 0
                  · have HF : Hid (rightB s = false) := hide (HBD.out (by rw [okC_in, show decide (0 ≤ m.1) = false from decide_eq_false (by omega)]; rfl))
                    go_wp2
                    go_ret
                    rw [HF.out]
                    exact ⟨rfl, HI2.out.bel⟩
                  by_cases p1 : m.2.1 < m.1
                  · have HF : Hid (rightB s = false) := hide (HBD.out (by rw [okC_in, show decide (m.1 ≤ m.2.1) = false from decide_eq_false (by omega)]; simp))
                    go_wp2
                    go_ret
                    rw [HF.out]
                    exact ⟨rfl, HI2.out.bel⟩
                  by_cases p2 : 255 < m.2.1
                  · have HF : Hid (rightB s = false) := hide (HBD.out (by rw [okC_in, show decide (m.2.1 ≤ 255) = false from decide_eq_false (by omega)]; simp))
                    go_wp2
                    go_ret
                    rw [HF.out]
                    exact ⟨rfl, HI2.out.bel⟩
                  cases q0 : inR m.2.2 0 15 with
                  | false =>
                    have HF : Hid (rightB s = false) := hide (HBD.out (by rw [okC_in, q0]; simp))
                    go_wp2_with fail
                    refine (in_eq q0 _).mono ?_
                    rintro e w0 ⟨rfl, rfl⟩
                    go_wp2
                    go_ret
                    rw [HF.out]
                    exact ⟨rfl, HI2.out.bel⟩
                  | true =>
                    have HOK := hide (HNX.out (by rw [okC_in, q0]; simp; omega))
                    go_wp2_with fail
                    refine (in_eq q0 _).mono ?_
                    rintro e w0 ⟨rfl, rfl⟩
                    go_wp2
                    go_roundw
                    case rel => exact ⟨k + 1, by go_num, by omega, HI2, HOK⟩
                    case measure => simp [intOf]; omega
                · have hkn : k = x.n4 := by omega
                  subst hkn
                  clear hlt hk
                  go_wp2
                  go_loopw [8] (fun i wr => ∃ (k : Nat), i = .int .i64 k ∧ k ≤ x.n5 ∧ Hid (SpI w w.heap.size x s wr) ∧ Hid (∀ i, i < k → okJ (gM s.joins i) = true)) (fun i _ => x.n5 - (intOf i).toNat)
                  case atStart => exact ⟨0, rfl, Nat.zero_le _, HI, hide (fun i hi => absurd hi (Nat.not_lt_zero i))⟩
                  case round =>
                    clear HI y0 y1 y2 y3 y4 y5
                    obtain ⟨k, rfl, hk, HI, HP5⟩ := hrel
                    obtain ⟨y0, y1, y2, y3, y4, y5⟩ := HI.out.box
                    by_cases hlt : k < x.n5
                    · have hk0 : (0 : Int) ≤ (k : Int) := by omega
                      have hk1 : (k : Int) < (x.n5 : Int) := by omega
                      rcases HI.out.sp.js.2 with h0 | ⟨b, off, hao, hbl, hc⟩
                      · omega
                      obtain ⟨c0, c1⟩ := hc k hlt
                      clear hc
                      rw [hao] at y5
                      clear hao
                      have HBD : Hid (okJ (gM s.joins k) = false → rightB s = false) := hide (badJ (by have := HI.out.sp.js.1; omega))
                      have HNX : Hid (okJ (gM s.joins k) = true → ∀ i, i < k + 1 → okJ (gM s.joins i) = true) := hide (fun h i hi => by
                        rcases Nat.lt_succ_iff_lt_or_eq.1 hi with h2 | rfl
                        · exact HP5.out i h2
                        · exact h)
                      have HKL : Hid (k < s.joins.length) := hide (by have := HI.out.sp.js.1; omega)
                      clear HP5
                      generalize gM s.joins k = m at c0 c1 HBD HNX
                      have HI2 := HI
                      cases q0 : inR m.1 0 15 with
                      | false =>
                        have HF : Hid (rightB s = false) := hide (HBD.out (by rw [okJ_in, q0] <;> rfl))
                        go_wp2_with fail
                        refine (in_eq q0 _).mono ?_
                        rintro e w0 ⟨rfl, rfl⟩
                        go_wp2
                        go_ret
                        rw [HF.out]
                        exact ⟨rfl, HI2.out.bel⟩
                      | true =>
                        cases q1 : inR m.2 0 15 with
                        | false =>
                          have HF : Hid (rightB s = false) := hide (HBD.out (by rw [okJ_in, q0, q1] <;> rfl))
                          go_wp2_with fail
                          refine (in_eq q0 _).mono ?_
                          rintro e w0 ⟨rfl, rfl⟩
                          go_wp2_with fail
                          refine (in_eq q1 _).mono ?_
                          rintro e w1 ⟨rfl, rfl⟩
                          go_wp2
                          go_ret
                          rw [HF.out]
                          exact ⟨rfl, HI2.out.bel⟩
                        | true =>
                          have HOK := hide (HNX.out (by rw [okJ_in, q0, q1] <;> rfl))
                          go_wp2_with fail
                          refine (in_eq q0 _).mono ?_
                          rintro e w0 ⟨rfl, rfl⟩
                          go_wp2_with fail
                          refine (in_eq q1 _).mono ?_
                          rintro e w1 ⟨rfl, rfl⟩
                          go_wp2
                          go_roundw
                          case rel => exact ⟨k + 1, by go_num, by omega, HI2, HOK⟩
                          case measure => simp [intOf]; omega
                    · have hkn : k = x.n5 := by omega
                      subst hkn
                      clear hlt hk
                      have HF := hide (goodR HI.out.sp HP1.out HP2.out HP3.out HP4.out HP5.out HL.out)
                      go_wp2
                      go_ret
                      rw [HF.out]
                      exact ⟨rfl, HI.out.bel⟩
end Go.Proofs.YteiinkhdgppgbaaGreatDoor
