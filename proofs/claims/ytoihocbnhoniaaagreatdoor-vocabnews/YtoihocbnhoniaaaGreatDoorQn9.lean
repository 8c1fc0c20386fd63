/- The document's Right. The document's Same, of two specs that are the same. The document's Great, and all that it bounds. -/
import Derived.Test.YtoihocbnhoniaaaGreatDoorQn8
import Derived.Test.YtoihocbnhoniaaaGreatDoorQn7
import Derived.Laws.StructEq
namespace Go.Proofs.YtoihocbnhoniaaaGreatDoor.Wf
open Go.RowKit
set_option linter.unusedVariables false
set_option linter.unusedSimpArgs false

def inR (n lo hi : Int) : Bool := decide (lo ≤ n ∧ n ≤ hi)
theorem in_any (n lo hi : Int) (w : World) :
    Calls Tryz.prog 81 #[.int .i64 n, .int .i64 lo, .int .i64 hi] w fun e w' => e = .returned (.bool (inR n lo hi)) ∧ w' = w := by
  unfold inR
  by_cases h1 : lo ≤ n
  · by_cases h2 : n ≤ hi
    · rw [show decide (lo ≤ n ∧ n ≤ hi) = true from decide_eq_true ⟨h1, h2⟩]
      go_enter Tryz.func81, Tryz.ntmps81
      go_wp2
      go_ret
      exact ⟨rfl, rfl⟩
    · rw [show decide (lo ≤ n ∧ n ≤ hi) = false from decide_eq_false (fun h => h2 h.2)]
      go_enter Tryz.func81, Tryz.ntmps81
      go_wp2
      go_ret
      exact ⟨rfl, rfl⟩
  · rw [show decide (lo ≤ n ∧ n ≤ hi) = false from decide_eq_false (fun h => h1 h.1)]
    go_enter Tryz.func81, Tryz.ntmps81
    go_wp2
    go_ret
    exact ⟨rfl, rfl⟩
theorem in_eq {n lo hi : Int} {b : Bool} (h : inR n lo hi = b) (w : World) :
    Calls Tryz.prog 81 #[.int .i64 n, .int .i64 lo, .int .i64 hi] w fun e w' => e = .returned (.bool b) ∧ w' = w := h ▸ in_any n lo hi w
theorem notR {s : Sp} (h : ¬ s.Right) : rightB s = false := by
  cases hb : rightB s with
  | false => rfl
  | true => exact absurd ((rightB_iff s).1 hb) h

theorem okM_in (m : Int × Int) : okM m = (inR m.1 0 999 && inR m.2 0 999) := by
  unfold okM inR
  rw [Bool.eq_iff_iff]
  simp only [Bool.and_eq_true, decide_eq_true_eq]
  omega
theorem okJ_in (m : Int × Int) : okJ m = (inR m.1 0 15 && inR m.2 0 15) := by
  unfold okJ inR
  rw [Bool.eq_iff_iff]
  simp only [Bool.and_eq_true, decide_eq_true_eq]
  omega
theorem okT_in (m : ByteArray) : okT m = inR (m.size : Int) 2 64 := by
  unfold okT inR
  rw [Bool.eq_iff_iff]
  simp only [decide_eq_true_eq]
  omega
theorem okS_in (m : Int × ByteArray) : okS m = (inR m.1 0 1073741824 && inR (m.2.size : Int) 1 64) := by
  unfold okS inR
  rw [Bool.eq_iff_iff]
  simp only [Bool.and_eq_true, decide_eq_true_eq]
  omega
theorem okC_in (m : Int × Int × Int) : okC m = (decide (0 ≤ m.1) && decide (m.1 ≤ m.2.1) && decide (m.2.1 ≤ 255) && inR m.2.2 0 15) := by
  unfold okC inR
  rw [Bool.eq_iff_iff]
  simp only [Bool.and_eq_true, decide_eq_true_eq]
  omega
theorem gM_mem {l : List (Int × Int)} {k : Nat} (h : k < l.length) : gM l k ∈ l := by unfold gM; rw [List.getD_eq_getElem?_getD, List.getElem?_eq_getElem h]; exact List.getElem_mem h
theorem gT_mem {l : List ByteArray} {k : Nat} (h : k < l.length) : gT l k ∈ l := by unfold gT; rw [List.getD_eq_getElem?_getD, List.getElem?_eq_getElem h]; exact List.getElem_mem h
theorem gS_mem {l : List (Int × ByteArray)} {k : Nat} (h : k < l.length) : gS l k ∈ l := by unfold gS; rw [List.getD_eq_getElem?_getD, List.getElem?_eq_getElem h]; exact List.getElem_mem h
theorem gC_mem {l : List (Int × Int × Int)} {k : Nat} (h : k < l.length) : gC l k ∈ l := by unfold gC; rw [List.getD_eq_getElem?_getD, List.getElem?_eq_getElem h]; exact List.getElem_mem h
theorem badM {s : Sp} {k : Nat} (hk : k < s.merges.length) (h : okM (gM s.merges k) = false) : rightB s = false := notR fun hR => by have := hR.am _ (gM_mem hk); rw [h] at this; cases this
theorem badT {s : Sp} {k : Nat} (hk : k < s.tokens.length) (h : okT (gT s.tokens k) = false) : rightB s = false := notR fun hR => by have := hR.atk _ (gT_mem hk); rw [h] at this; cases this
theorem badS {s : Sp} {k : Nat} (hk : k < s.specials.length) (h : okS (gS s.specials k) = false) : rightB s = false := notR fun hR => by have := hR.asp _ (gS_mem hk); rw [h] at this; cases this
theorem badC {s : Sp} {k : Nat} (hk : k < s.classes.length) (h : okC (gC s.classes k) = false) : rightB s = false := notR fun hR => by have := hR.ac _ (gC_mem hk); rw [h] at this; cases this
theorem badJ {s : Sp} {k : Nat} (hk : k < s.joins.length) (h : okJ (gM s.joins k) = false) : rightB s = false := notR fun hR => by have := hR.aj _ (gM_mem hk); rw [h] at this; cases this
theorem noRoomM {s : Sp} {k : Nat} (hr : s.ranked = true) (hk : k < s.merges.length) : rightB s = false := notR fun hR => by
  have := hR.nm
  rw [hr] at this
  have h2 : roomM true = 0 := rfl
  omega
theorem noRoomT {s : Sp} {k : Nat} (hr : s.ranked = false) (hk : k < s.tokens.length) : rightB s = false := notR fun hR => by
  have := hR.nt
  rw [hr] at this
  have h2 : roomT false = 0 := rfl
  omega
theorem allM {l : List (Int × Int)} {ok : Int × Int → Bool} (h : ∀ i, i < l.length → ok (gM l i) = true) : ∀ x ∈ l, ok x = true := fun x hx => by
  obtain ⟨i, hi, rfl⟩ := List.getElem_of_mem hx
  have := h i hi
  unfold gM at this
  rwa [List.getD_eq_getElem?_getD, List.getElem?_eq_getElem hi] at this
theorem allT {l : List ByteArray} {ok : ByteArray → Bool} (h : ∀ i, i < l.length → ok (gT l i) = true) : ∀ x ∈ l, ok x = true := fun x hx => by
  obtain ⟨i, hi, rfl⟩ := List.getElem_of_mem hx
  have := h i hi
  unfold gT at this
  rwa [List.getD_eq_getElem?_getD, List.getElem?_eq_getElem hi] at this
theorem allS {l : List (Int × ByteArray)} {ok : Int × ByteArray → Bool} (h : ∀ i, i < l.length → ok (gS l i) = true) : ∀ x ∈ l, ok x = true := fun x hx => by
  obtain ⟨i, hi, rfl⟩ := List.getElem_of_mem hx
  have := h i hi
  unfold gS at this
  rwa [List.getD_eq_getElem?_getD, List.getElem?_eq_getElem hi] at this
theorem allC {l : List (Int × Int × Int)} {ok : Int × Int × Int → Bool} (h : ∀ i, i < l.length → ok (gC l i) = true) : ∀ x ∈ l, ok x = true := fun x hx => by
  obtain ⟨i, hi, rfl⟩ := List.getElem_of_mem hx
  have := h i hi
  unfold gC at this
  rwa [List.getD_eq_getElem?_getD, List.getElem?_eq_getElem hi] at this
theorem goodR {w : World} {x : Sv} {s : Sp} (h : SpAt w x s) (h1 : ∀ i, i < x.n1 → s.ranked = false ∧ okM (gM s.merges i) = true) (h2 : ∀ i, i < x.n2 → s.ranked = true ∧ okT (gT s.tokens i) = true) (h3 : ∀ i, i < x.n3 → okS (gS s.specials i) = true) (h4 : ∀ i, i < x.n4 → okC (gC s.classes i) = true) (h5 : ∀ i, i < x.n5 → okJ (gM s.joins i) = true)
    (hl : x.n1 ≤ 744 ∧ x.n2 ≤ 744 ∧ x.n3 ≤ 32 ∧ x.n4 ≤ 64 ∧ x.n5 ≤ 64) : rightB s = true := by
  have e1 := h.ms.1; have e2 := h.ts.1; have e3 := h.ss.1; have e4 := h.cs.1; have e5 := h.js.1
  refine (rightB_iff s).2 ⟨?_, allM fun i hi => (h1 i (by omega)).2, ?_, allT fun i hi => (h2 i (by omega)).2, by omega, allS fun i hi => h3 i (by omega), by omega, allC fun i hi => h4 i (by omega), by omega, allM fun i hi => h5 i (by omega)⟩
  · unfold roomM
    split
    · rename_i hr
      rcases Nat.eq_zero_or_pos x.n1 with h0 | h0
      · omega
      · have := (h1 0 h0).1
        rw [hr] at this
        cases this
    · omega
  · unfold roomT
    split
    · omega
    · rename_i hr
      rcases Nat.eq_zero_or_pos x.n2 with h0 | h0
      · omega
      · exact absurd (h2 0 h0).1 hr

set_option maxHeartbeats 16000000 in
set_option maxRecDepth 20000 in
theorem rright_any (x : Sv) (s : Sp) (w : World) (h : SpAt w x s) :
    Calls Tryz.prog 39 #[.agg x.cs] w fun e w' => e = .returned (.bool (rightB s)) ∧ Below w.heap.size w w' := by
  have HI := hide (SpI.new h 28)
  obtain ⟨y0, y1, y2, y3, y4, y5⟩ := HI.out.box
  clear h
  have m1 := HI.out.sp.ms.1; have m2 := HI.out.sp.ts.1; have m3 := HI.out.sp.ss.1; have m4 := HI.out.sp.cs.1; have m5 := HI.out.sp.js.1
  by_cases a1 : 744 < x.n1
  · have b1 : (744 : Int) < (x.n1 : Int) := by omega
    rw [notR (fun hR => by have := hR.nm; unfold roomM at this; split at this <;> omega)]
    clear a1 m1 m2 m3 m4 m5
    go_enter Tryz.func39, Tryz.ntmps39
    go_wp2
    go_ret
    exact ⟨rfl, HI.out.bel⟩
  have b1 : ¬ (744 : Int) < (x.n1 : Int) := by omega
  by_cases a2 : 744 < x.n2
  · have b2 : (744 : Int) < (x.n2 : Int) := by omega
    rw [notR (fun hR => by have := hR.nt; unfold roomT at this; split at this <;> omega)]
    clear a1 a2 m1 m2 m3 m4 m5
    go_enter Tryz.func39, Tryz.ntmps39
    go_wp2
    go_ret
    exact ⟨rfl, HI.out.bel⟩
  have b2 : ¬ (744 : Int) < (x.n2 : Int) := by omega
  by_cases a3 : 32 < x.n3
  · have b3 : (32 : Int) < (x.n3 : Int) := by omega
    rw [notR (fun hR => by have := hR.ns; omega)]
    clear a1 a2 a3 m1 m2 m3 m4 m5
    go_enter Tryz.func39, Tryz.ntmps39
    go_wp2
    go_ret
    exact ⟨rfl, HI.out.bel⟩
  have b3 : ¬ (32 : Int) < (x.n3 : Int) := by omega
  by_cases a4 : 64 < x.n4
  · have b4 : (64 : Int) < (x.n4 : Int) := by omega
    rw [notR (fun hR => by have := hR.nc; omega)]
    clear a1 a2 a3 a4 m1 m2 m3 m4 m5
    go_enter Tryz.func39, Tryz.ntmps39
    go_wp2
    go_ret
    exact ⟨rfl, HI.out.bel⟩
  have b4 : ¬ (64 : Int) < (x.n4 : Int) := by omega
  by_cases a5 : 64 < x.n5
  · have b5 : (64 : Int) < (x.n5 : Int) := by omega
    rw [notR (fun hR => by have := hR.nj; omega)]
    clear a1 a2 a3 a4 a5 m1 m2 m3 m4 m5
    go_enter Tryz.func39, Tryz.ntmps39
    go_wp2
    go_ret
    exact ⟨rfl, HI.out.bel⟩
  have b5 : ¬ (64 : Int) < (x.n5 : Int) := by omega
  have HL : Hid (x.n1 ≤ 744 ∧ x.n2 ≤ 744 ∧ x.n3 ≤ 32 ∧ x.n4 ≤ 64 ∧ x.n5 ≤ 64) := hide (by omega)
  clear m1 m2 m3 m4 m5
  go_enter Tryz.func39, Tryz.ntmps39
  go_wp2
  go_loopw [3] (fun i wr => ∃ (k : Nat), i = .int .i64 k ∧ k ≤ x.n1 ∧ Hid (SpI w w.heap.size x s wr) ∧ Hid (∀ i, i < k → s.ranked = false ∧ okM (gM s.merges i) = true)) (fun i _ => x.n1 - (intOf i).toNat)
  case atStart => exact ⟨0, rfl, Nat.zero_le _, HI, hide (fun i hi => absurd hi (Nat.not_lt_zero i))⟩
  case round =>
    clear HI y0 y1 y2 y3 y4 y5
    obtain ⟨k, rfl, hk, HI, HP1⟩ := hrel
    obtain ⟨y0, y1, y2, y3, y4, y5⟩ := HI.out.box
    by_cases hlt : k < x.n1
    · have hk0 : (0 : Int) ≤ (k : Int) := by omega
      have hk1 : (k : Int) < (x.n1 : Int) := by omega
      rcases HI.out.sp.ms.2 with h0 | ⟨b, off, hao, hbl, hc⟩
      · omega
      obtain ⟨c0, c1⟩ := hc k hlt
      clear hc
      rw [hao] at y1
      clear hao
      have HBD : Hid (okM (gM s.merges k) = false → rightB s = false) := hide (badM (by have := HI.out.sp.ms.1; omega))
      have HNX : Hid (s.ranked = false ∧ okM (gM s.merges k) = true → ∀ i, i < k + 1 → s.ranked = false ∧ okM (gM s.merges i) = true) := hide (fun h i hi => by
        rcases Nat.lt_succ_iff_lt_or_eq.1 hi with h2 | rfl
        · exact HP1.out i h2
        · exact h)
      have HKL : Hid (k < s.merges.length) := hide (by have := HI.out.sp.ms.1; omega)
      clear HP1
      generalize gM s.merges k = m at c0 c1 HBD HNX
      have HI2 := HI
      cases hr : x.r with
      | false =>
        rw [hr] at y0
        have hrk : s.ranked = false := by rw [← HI.out.sp.r, hr]
        cases q0 : inR m.1 0 999 with
        | false =>
          have HF : Hid (rightB s = false) := hide (HBD.out (by rw [okM_in, q0] <;> rfl))
          go_wp2_with fail
          refine (in_eq q0 _).mono ?_
          rintro e w0 ⟨rfl, rfl⟩
          go_wp2
          go_ret
          rw [HF.out]
          exact ⟨rfl, HI2.out.bel⟩
        | true =>
          cases q1 : inR m.2 0 999 with
          | false =>
            have HF : Hid (rightB s = false) := hide (HBD.out (by rw [okM_in, q0, q1] <;> rfl))
            go_wp2_with fail
            refine (in_eq q0 _).mono ?_
            rintro e w0 ⟨rfl, rfl⟩
            go_wp2_with fail
            refine (in_eq q1 _).mono ?_
            rintro e w1 ⟨rfl, rfl⟩
            go_wp2
            go_ret
            rw [HF.out]
            exact ⟨rfl, HI2.out.bel⟩
          | true =>
            have HOK := hide (HNX.out ⟨hrk, (by rw [okM_in, q0, q1] <;> rfl)⟩)
            go_wp2_with fail
            refine (in_eq q0 _).mono ?_
            rintro e w0 ⟨rfl, rfl⟩
            go_wp2_with fail
            refine (in_eq q1 _).mono ?_
            rintro e w1 ⟨rfl, rfl⟩
            go_wp2
            go_roundw
            case rel => exact ⟨k + 1, by go_num, by omega, HI2, HOK⟩
            case measure => simp [intOf]; omega
      | true =>
        rw [hr] at y0
        have HF : Hid (rightB s = false) := hide (noRoomM (by rw [← HI.out.sp.r, hr]) HKL.out)
        go_wp2
        go_ret
        rw [HF.out]
        exact ⟨rfl, HI2.out.bel⟩
    · have hkn : k = x.n1 := by omega
      subst hkn
      clear hlt hk
      go_wp2
      go_loopw [4] (fun i wr => ∃ (k : Nat), i = .int .i64 k ∧ k ≤ x.n2 ∧ Hid (SpI w w.heap.size x s wr) ∧ Hid (∀ i, i < k → s.ranked = true ∧ okT (gT s.tokens i) = true)) (fun i _ => x.n2 - (intOf i).toNat)
      case atStart => exact ⟨0, rfl, Nat.zero_le _, HI, hide (fun i hi => absurd hi (Nat.not_lt_zero i))⟩
      case round =>
        clear HI y0 y1 y2 y3 y4 y5
        obtain ⟨k, rfl, hk, HI, HP2⟩ := hrel
        obtain ⟨y0, y1, y2, y3, y4, y5⟩ := HI.out.box
        by_cases hlt : k < x.n2
        · have hk0 : (0 : Int) ≤ (k : Int) := by omega
          have hk1 : (k : Int) < (x.n2 : Int) := by omega
          rcases HI.out.sp.ts.2 with h0 | ⟨b, off, hao, hbl, hc⟩
          · omega
          have c0 := hc k hlt
          clear hc
          rw [hao] at y2
          clear hao
          have HBD : Hid (okT (gT s.tokens k) = false → rightB s = false) := hide (badT (by have := HI.out.sp.ts.1; omega))
          have HNX : Hid (s.ranked = true ∧ okT (gT s.tokens k) = true → ∀ i, i < k + 1 → s.ranked = true ∧ okT (gT s.tokens i) = true) := hide (fun h i hi => by
            rcases Nat.lt_succ_iff_lt_or_eq.1 hi with h2 | rfl
            · exact HP2.out i h2
            · exact h)
          have HKL : Hid (k < s.tokens.length) := hide (by have := HI.out.sp.ts.1; omega)
          clear HP2
          generalize gT s.tokens k = m at c0 HBD HNX
          have HI2 := HI
          cases hr : x.r with
          | false =>
            rw [hr] at y0
            have HF : Hid (rightB s = false) := hide (noRoomT (by rw [← HI.out.sp.r, hr]) HKL.out)
            go_wp2
            go_ret
            rw [HF.out]
            exact ⟨rfl, HI2.out.bel⟩
          | true =>
            rw [hr] at y0
            have hrk : s.ranked = true := by rw [← HI.out.sp.r, hr]
            cases q0 : inR (m.size : Int) 2 64 with
            | false =>
              have HF : Hid (rightB s = false) := hide (HBD.out (by rw [okT_in, q0] <;> rfl))
              go_wp2_with fail
              refine (in_eq q0 _).mono ?_
              rintro e w0 ⟨rfl, rfl⟩
              go_wp2
              go_ret
              rw [HF.out]
              exact ⟨rfl, HI2.out.bel⟩
            | true =>
              have HOK := hide (HNX.out ⟨hrk, (by rw [okT_in, q0] <;> rfl)⟩)
              go_wp2_with fail
              refine (in_eq q0 _).mono ?_
              rintro e w0 ⟨rfl, rfl⟩
              go_wp2
              go_roundw
              case rel => exact ⟨k + 1, by go_num, by omega, HI2, HOK⟩
              case measure => simp [intOf]; omega
        · have hkn : k = x.n2 := by omega
          subst hkn
          clear hlt hk
          go_wp2
          go_loopw [5] (fun i wr => ∃ (k : Nat), i = .int .i64 k ∧ k ≤ x.n3 ∧ Hid (SpI w w.heap.size x s wr) ∧ Hid (∀ i, i < k → okS (gS s.specials i) = true)) (fun i _ => x.n3 - (intOf i).toNat)
          case atStart => exact ⟨0, rfl, Nat.zero_le _, HI, hide (fun i hi => absurd hi (Nat.not_lt_zero i))⟩
          case round =>
            clear HI y0 y1 y2 y3 y4 y5
            obtain ⟨k, rfl, hk, HI, HP3⟩ := hrel
            obtain ⟨y0, y1, y2, y3, y4, y5⟩ := HI.out.box
            by_cases hlt : k < x.n3
            · have hk0 : (0 : Int) ≤ (k : Int) := by omega
              have hk1 : (k : Int) < (x.n3 : Int) := by omega
              rcases HI.out.sp.ss.2 with h0 | ⟨b, off, hao, hbl, hc⟩
              · omega
              obtain ⟨c0, c1⟩ := hc k hlt
              clear hc
              rw [hao] at y3
              clear hao
              have HBD : Hid (okS (gS s.specials k) = false → rightB s = false) := hide (badS (by have := HI.out.sp.ss.1; omega))
              have HNX : Hid (okS (gS s.specials k) = true → ∀ i, i < k + 1 → okS (gS s.specials i) = true) := hide (fun h i hi => by
                rcases Nat.lt_succ_iff_lt_or_eq.1 hi with h2 | rfl
                · exact HP3.out i h2
                · exact h)
              have HKL : Hid (k < s.specials.length) := hide (by have := HI.out.sp.ss.1; omega)
              clear HP3
              generalize gS s.specials k = m at c0 c1 HBD HNX
              have HI2 := HI
              cases q0 : inR m.1 0 1073741824 with
              | false =>
                have HF : Hid (rightB s = false) := hide (HBD.out (by rw [okS_in, q0] <;> rfl))
                go_wp2_with fail
                refine (in_eq q0 _).mono ?_
                rintro e w0 ⟨rfl, rfl⟩
                go_wp2
                go_ret
                rw [HF.out]
                exact ⟨rfl, HI2.out.bel⟩
              | true =>
                cases q1 : inR (m.2.size : Int) 1 64 with
                | false =>
                  have HF : Hid (rightB s = false) := hide (HBD.out (by rw [okS_in, q0, q1] <;> rfl))
                  go_wp2_with fail
                  refine (in_eq q0 _).mono ?_
                  rintro e w0 ⟨rfl, rfl⟩
                  go_wp2_with fail
                  refine (in_eq q1 _).mono ?_
                  rintro e w1 ⟨rfl, rfl⟩
                  go_wp2
                  go_ret
                  rw [HF.out]
                  exact ⟨rfl, HI2.out.bel⟩
                | true =>
                  have HOK := hide (HNX.out (by rw [okS_in, q0, q1] <;> rfl))
                  go_wp2_with fail
                  refine (in_eq q0 _).mono ?_
                  rintro e w0 ⟨rfl, rfl⟩
                  go_wp2_with fail
                  refine (in_eq q1 _).mono ?_
                  rintro e w1 ⟨rfl, rfl⟩
                  go_wp2
                  go_roundw
                  case rel => exact ⟨k + 1, by go_num, by omega, HI2, HOK⟩
                  case measure => simp [intOf]; omega
            · have hkn : k = x.n3 := by omega
              subst hkn
              clear hlt hk
              go_wp2
              go_loopw [6] (fun i wr => ∃ (k : Nat), i = .int .i64 k ∧ k ≤ x.n4 ∧ Hid (SpI w w.heap.size x s wr) ∧ Hid (∀ i, i < k → okC (gC s.classes i) = true)) (fun i _ => x.n4 - (intOf i).toNat)
              case atStart => exact ⟨0, rfl, Nat.zero_le _, HI, hide (fun i hi => absurd hi (Nat.not_lt_zero i))⟩
              case round =>
                clear HI y0 y1 y2 y3 y4 y5
                obtain ⟨k, rfl, hk, HI, HP4⟩ := hrel
                obtain ⟨y0, y1, y2, y3, y4, y5⟩ := HI.out.box
                by_cases hlt : k < x.n4
                · have hk0 : (0 : Int) ≤ (k : Int) := by omega
                  have hk1 : (k : Int) < (x.n4 : Int) := by omega
                  rcases HI.out.sp.cs.2 with h0 | ⟨b, off, hao, hbl, hc⟩
                  · omega
                  obtain ⟨c0, c1, c2⟩ := hc k hlt
                  clear hc
                  rw [hao] at y4
                  clear hao
                  have HBD : Hid (okC (gC s.classes k) = false → rightB s = false) := hide (badC (by have := HI.out.sp.cs.1; omega))
                  have HNX : Hid (okC (gC s.classes k) = true → ∀ i, i < k + 1 → okC (gC s.classes i) = true) := hide (fun h i hi => by
                    rcases Nat.lt_succ_iff_lt_or_eq.1 hi with h2 | rfl
                    · exact HP4.out i h2
                    · exact h)
                  have HKL : Hid (k < s.classes.length) := hide (by have := HI.out.sp.cs.1; omega)
                  clear HP4
                  generalize gC s.classes k = m at c0 c1 c2 HBD HNX
                  have HI2 := hide (HI.out.next (low_alloc wr (.cells #[.int .i64 m.1, .int .i64 m.2.1, .int .i64 m.2.2] 72)))
                  by_cases p0 : m.1 < 0
                  · have HF : Hid (rightB s = false) := hide (HBD.out (by rw [okC_in, show decide (0 ≤ m.1) = false from decide_eq_false (by omega)]; rfl))
                    go_wp2
                    go_ret
                    rw [HF.out]
                    exact ⟨rfl, HI2.out.bel⟩
                  by_cases p1 : m.2.1 < m.1
                  · have HF : Hid (rightB s = false) := hide (HBD.out (by rw [okC_in, show decide (m.1 ≤ m.2.1) = false from decide_eq_false (by omega)]; simp))
                    go_wp2
                    go_ret
                    rw [HF.out]
                    exact ⟨rfl, HI2.out.bel⟩
                  by_cases p2 : 255 < m.2.1
                  · have HF : Hid (rightB s = false) := hide (HBD.out (by rw [okC_in, show decide (m.2.1 ≤ 255) = false from decide_eq_false (by omega)]; simp))
                    go_wp2
                    go_ret
                    rw [HF.out]
                    exact ⟨rfl, HI2.out.bel⟩
                  cases q0 : inR m.2.2 0 15 with
                  | false =>
                    have HF : Hid (rightB s = false) := hide (HBD.out (by rw [okC_in, q0]; simp))
                    go_wp2_with fail
                    refine (in_eq q0 _).mono ?_
                    rintro e w0 ⟨rfl, rfl⟩
                    go_wp2
                    go_ret
                    rw [HF.out]
                    exact ⟨rfl, HI2.out.bel⟩
                  | true =>
                    have HOK := hide (HNX.out (by rw [okC_in, q0]; simp; omega))
                    go_wp2_with fail
                    refine (in_eq q0 _).mono ?_
                    rintro e w0 ⟨rfl, rfl⟩
                    go_wp2
                    go_roundw
                    case rel => exact ⟨k + 1, by go_num, by omega, HI2, HOK⟩
                    case measure => simp [intOf]; omega
                · have hkn : k = x.n4 := by omega
                  subst hkn
                  clear hlt hk
                  go_wp2
                  go_loopw [8] (fun i wr => ∃ (k : Nat), i = .int .i64 k ∧ k ≤ x.n5 ∧ Hid (SpI w w.heap.size x s wr) ∧ Hid (∀ i, i < k → okJ (gM s.joins i) = true)) (fun i _ => x.n5 - (intOf i).toNat)
                  case atStart => exact ⟨0, rfl, Nat.zero_le _, HI, hide (fun i hi => absurd hi (Nat.not_lt_zero i))⟩
                  case round =>
                    clear HI y0 y1 y2 y3 y4 y5
                    obtain ⟨k, rfl, hk, HI, HP5⟩ := hrel
                    obtain ⟨y0, y1, y2, y3, y4, y5⟩ := HI.out.box
                    by_cases hlt : k < x.n5
                    · have hk0 : (0 : Int) ≤ (k : Int) := by omega
                      have hk1 : (k : Int) < (x.n5 : Int) := by omega
                      rcases HI.out.sp.js.2 with h0 | ⟨b, off, hao, hbl, hc⟩
                      · omega
                      obtain ⟨c0, c1⟩ := hc k hlt
                      clear hc
                      rw [hao] at y5
                      clear hao
                      have HBD : Hid (okJ (gM s.joins k) = false → rightB s = false) := hide (badJ (by have := HI.out.sp.js.1; omega))
                      have HNX : Hid (okJ (gM s.joins k) = true → ∀ i, i < k + 1 → okJ (gM s.joins i) = true) := hide (fun h i hi => by
                        rcases Nat.lt_succ_iff_lt_or_eq.1 hi with h2 | rfl
                        · exact HP5.out i h2
                        · exact h)
                      have HKL : Hid (k < s.joins.length) := hide (by have := HI.out.sp.js.1; omega)
                      clear HP5
                      generalize gM s.joins k = m at c0 c1 HBD HNX
                      have HI2 := HI
                      cases q0 : inR m.1 0 15 with
                      | false =>
                        have HF : Hid (rightB s = false) := hide (HBD.out (by rw [okJ_in, q0] <;> rfl))
                        go_wp2_with fail
                        refine (in_eq q0 _).mono ?_
                        rintro e w0 ⟨rfl, rfl⟩
                        go_wp2
                        go_ret
                        rw [HF.out]
                        exact ⟨rfl, HI2.out.bel⟩
                      | true =>
                        cases q1 : inR m.2 0 15 with
                        | false =>
                          have HF : Hid (rightB s = false) := hide (HBD.out (by rw [okJ_in, q0, q1] <;> rfl))
                          go_wp2_with fail
                          refine (in_eq q0 _).mono ?_
                          rintro e w0 ⟨rfl, rfl⟩
                          go_wp2_with fail
                          refine (in_eq q1 _).mono ?_
                          rintro e w1 ⟨rfl, rfl⟩
                          go_wp2
                          go_ret
                          rw [HF.out]
                          exact ⟨rfl, HI2.out.bel⟩
                        | true =>
                          have HOK := hide (HNX.out (by rw [okJ_in, q0, q1] <;> rfl))
                          go_wp2_with fail
                          refine (in_eq q0 _).mono ?_
                          rintro e w0 ⟨rfl, rfl⟩
                          go_wp2_with fail
                          refine (in_eq q1 _).mono ?_
                          rintro e w1 ⟨rfl, rfl⟩
                          go_wp2
                          go_roundw
                          case rel => exact ⟨k + 1, by go_num, by omega, HI2, HOK⟩
                          case measure => simp [intOf]; omega
                    · have hkn : k = x.n5 := by omega
                      subst hkn
                      clear hlt hk
                      have HF := hide (goodR HI.out.sp HP1.out HP2.out HP3.out HP4.out HP5.out HL.out)
                      go_wp2
                      go_ret
                      rw [HF.out]
                      exact ⟨rfl, HI.out.bel⟩
end Go.Proofs.YtoihocbnhoniaaaGreatDoor.Wf

namespace Go.Proofs.YtoihocbnhoniaaaGreatDoor.Wf
open Go.RowKit
set_option linter.unusedVariables false
set_option linter.unusedSimpArgs false

theorem neqM (a b : Int) (w : World) : (binOp .neq 70 (.agg #[.int .i64 a, .int .i64 b]) (.agg #[.int .i64 a, .int .i64 b])).run Tryz.prog w = .ok (.bool false) w := by
  have u3 := Tryz.underlying3
  have a3 := Tryz.isAgg3
  have z3 := Tryz.sizeOf3
  have hS : Tryz.prog.underlying 70 = some (.struct (Tryz.prog.fieldsOf 70)) := by kernel_rfl
  have hp : Tryz.prog.stoodInHeld 70 = false := by kernel_rfl
  rw [run_neq_struct, show (10000 : Nat) = 9999 + 1 from rfl, run_equalIn_agg w 9999 70 _ _ hS hp]
  simp only [Program.fieldsOf, Tryz.underlying70]
  go_simp
theorem neqJ (a b : Int) (w : World) : (binOp .neq 93 (.agg #[.int .i64 a, .int .i64 b]) (.agg #[.int .i64 a, .int .i64 b])).run Tryz.prog w = .ok (.bool false) w := by
  have u3 := Tryz.underlying3
  have a3 := Tryz.isAgg3
  have z3 := Tryz.sizeOf3
  have hS : Tryz.prog.underlying 93 = some (.struct (Tryz.prog.fieldsOf 93)) := by kernel_rfl
  have hp : Tryz.prog.stoodInHeld 93 = false := by kernel_rfl
  rw [run_neq_struct, show (10000 : Nat) = 9999 + 1 from rfl, run_equalIn_agg w 9999 93 _ _ hS hp]
  simp only [Program.fieldsOf, Tryz.underlying93]
  go_simp
theorem neqC (a b c : Int) (w : World) : (binOp .neq 72 (.agg #[.int .i64 a, .int .i64 b, .int .i64 c]) (.agg #[.int .i64 a, .int .i64 b, .int .i64 c])).run Tryz.prog w = .ok (.bool false) w := by
  have u3 := Tryz.underlying3
  have a3 := Tryz.isAgg3
  have z3 := Tryz.sizeOf3
  have hS : Tryz.prog.underlying 72 = some (.struct (Tryz.prog.fieldsOf 72)) := by kernel_rfl
  have hp : Tryz.prog.stoodInHeld 72 = false := by kernel_rfl
  rw [run_neq_struct, show (10000 : Nat) = 9999 + 1 from rfl, run_equalIn_agg w 9999 72 _ _ hS hp]
  simp only [Program.fieldsOf, Tryz.underlying72]
  go_simp
theorem neqS (a : Int) (b : ByteArray) (w : World) : (binOp .neq 67 (.agg #[.int .i64 a, .string b]) (.agg #[.int .i64 a, .string b])).run Tryz.prog w = .ok (.bool false) w := by
  have u3 := Tryz.underlying3
  have a3 := Tryz.isAgg3
  have z3 := Tryz.sizeOf3
  have u9 := Tryz.underlying9
  have a9 := Tryz.isAgg9
  have z9 := Tryz.sizeOf9
  have hS : Tryz.prog.underlying 67 = some (.struct (Tryz.prog.fieldsOf 67)) := by kernel_rfl
  have hp : Tryz.prog.stoodInHeld 67 = false := by kernel_rfl
  rw [run_neq_struct, show (10000 : Nat) = 9999 + 1 from rfl, run_equalIn_agg w 9999 67 _ _ hS hp]
  simp only [Program.fieldsOf, Tryz.underlying67]
  go_simp

/-- Two specs that are the same, in two boxes. -/
structure SmI (w : World) (q1 q2 : Nat) (x y : Sv) (s : Sp) (W : World) : Prop where
  sx : SpAt W x s
  sy : SpAt W y s
  bx : BxS q1 x W
  bz : BxS q2 y W
  l1 : q1 < W.heap.size
  l2 : q2 < W.heap.size
  bel : Below w.heap.size w W
theorem SmI.next {w : World} {q1 q2 : Nat} {x y : Sv} {s : Sp} {W W' : World} (h : SmI w q1 q2 x y s W) (hb : Below W.heap.size W W') : SmI w q1 q2 x y s W' :=
  ⟨h.sx.kept hb, h.sy.kept hb, h.bx.kept h.l1 hb, h.bz.kept h.l2 hb, Nat.lt_of_lt_of_le h.l1 hb.size, Nat.lt_of_lt_of_le h.l2 hb.size, h.bel.trans (hb.mono h.bel.size)⟩
theorem SmI.new {w : World} {x y : Sv} {s : Sp} (hx : SpAt w x s) (hy : SpAt w y s) (T : TypeId) : SmI w w.heap.size (w.heap.size + 1) x y s ((w.alloc (.cells x.cs T)).alloc (.cells y.cs T)) := by
  have h1 := low_alloc w (.cells x.cs T)
  have h2 := low_alloc (w.alloc (.cells x.cs T)) (.cells y.cs T)
  have hs : (w.alloc (.cells x.cs T)).heap.size = w.heap.size + 1 := alloc_size _ _
  have hb := BxS.new (w.alloc (.cells x.cs T)) y T
  rw [hs] at hb
  exact ⟨(hx.kept h1).kept h2, (hy.kept h1).kept h2, (BxS.new w x T).kept (by simp) h2, hb, by simp; omega, by simp, h1.trans (h2.mono h1.size)⟩
theorem low_drewN2 (w : World) (n : Nat) : Below w.heap.size w (w.drewN n) := ⟨rfl, rfl, rfl, Nat.le_refl _, fun _ _ => rfl⟩

set_option maxHeartbeats 16000000 in
set_option maxRecDepth 20000 in
theorem same_any (x y : Sv) (s : Sp) (w : World) (hx : SpAt w x s) (hy : SpAt w y s) (hn1 : x.n1 ≤ 1000) (hn2 : x.n2 ≤ 1000) (hn3 : x.n3 ≤ 1000) (hn4 : x.n4 ≤ 1000) (hn5 : x.n5 ≤ 1000) :
    Calls Tryz.prog 16 #[.agg x.cs, .agg y.cs] w fun e w' => e = .returned (.bool true) ∧ Below w.heap.size w w' := by
  have HI := hide (SmI.new hx hy 28)
  have e0 : y.r = x.r := hy.r.trans hx.r.symm
  have e1 : y.n1 = x.n1 := hy.ms.1.symm.trans hx.ms.1
  have e2 : y.n2 = x.n2 := hy.ts.1.symm.trans hx.ts.1
  have e3 : y.n3 = x.n3 := hy.ss.1.symm.trans hx.ss.1
  have e4 : y.n4 = x.n4 := hy.cs.1.symm.trans hx.cs.1
  have e5 : y.n5 = x.n5 := hy.js.1.symm.trans hx.js.1
  have HEQ := hide (And.intro e0 (And.intro e1 (And.intro e2 (And.intro e3 (And.intro e4 e5)))))
  clear hx hy
  have FB : Hid (∀ W, SmI w w.heap.size (w.heap.size + 1) x y s W → W.cell? ⟨w.heap.size + 1, 0, none⟩ = some (.bool x.r) ∧ W.cell? ⟨w.heap.size + 1, 1, none⟩ = some (.slice y.a1 x.n1 y.c1) ∧ W.cell? ⟨w.heap.size + 1, 2, none⟩ = some (.slice y.a2 x.n2 y.c2) ∧ W.cell? ⟨w.heap.size + 1, 3, none⟩ = some (.slice y.a3 x.n3 y.c3) ∧ W.cell? ⟨w.heap.size + 1, 4, none⟩ = some (.slice y.a4 x.n4 y.c4) ∧ W.cell? ⟨w.heap.size + 1, 5, none⟩ = some (.slice y.a5 x.n5 y.c5)) := by
    refine hide fun W hW => ?_
    obtain ⟨z0, z1, z2, z3, z4, z5⟩ := hW.bz
    rw [e0] at z0; rw [e1] at z1; rw [e2] at z2; rw [e3] at z3; rw [e4] at z4; rw [e5] at z5
    exact ⟨z0, z1, z2, z3, z4, z5⟩
  have HT : Hid (∀ W, SmI w w.heap.size (w.heap.size + 1) x y s W → Calls Tryz.prog 45 #[.slice x.a2 x.n2 x.c2, .slice y.a2 x.n2 y.c2] W fun e w' => e = .returned (.bool true) ∧ Below W.heap.size W w') := by
    refine hide fun W hW => ?_
    have h2 := hW.sy.ts
    rw [e2] at h2
    exact texts_same W _ _ _ _ _ _ hW.sx.ts h2 (by omega)
  clear e0 e1 e2 e3 e4 e5
  obtain ⟨y0, y1, y2, y3, y4, y5⟩ := HI.out.bx
  obtain ⟨z0, z1, z2, z3, z4, z5⟩ := FB.out _ HI.out
  go_enter Tryz.func16, Tryz.ntmps16
  go_wp2_with fail
  refine (HT.out _ HI.out).mono ?_
  clear y0 y1 y2 y3 y4 y5 z0 z1 z2 z3 z4 z5 HT
  rintro e w1 ⟨rfl, hb1⟩
  replace HI := hide (HI.out.next hb1)
  clear hb1
  obtain ⟨y0, y1, y2, y3, y4, y5⟩ := HI.out.bx
  obtain ⟨z0, z1, z2, z3, z4, z5⟩ := FB.out _ HI.out
  go_wp2
  go_loopw [5] (fun i wr => ∃ (k : Nat), i = .int .i64 k ∧ k ≤ x.n1 ∧ Hid (SmI w w.heap.size (w.heap.size + 1) x y s wr)) (fun i _ => x.n1 - (intOf i).toNat)
  case atStart => exact ⟨0, rfl, Nat.zero_le _, HI⟩
  case round =>
    clear HI y0 y1 y2 y3 y4 y5 z0 z1 z2 z3 z4 z5
    obtain ⟨k, rfl, hk, HI⟩ := hrel
    obtain ⟨y0, y1, y2, y3, y4, y5⟩ := HI.out.bx
    obtain ⟨z0, z1, z2, z3, z4, z5⟩ := FB.out _ HI.out
    by_cases hlt : k < x.n1
    · have hk0 : (0 : Int) ≤ (k : Int) := by omega
      have hk1 : (k : Int) < (x.n1 : Int) := by omega
      rcases HI.out.sx.ms.2 with h0 | ⟨b, off, hao, hbl, hc⟩
      · omega
      rcases HI.out.sy.ms.2 with h0 | ⟨b', off', hao', hbl', hc'⟩
      · have := HEQ.out.2.1; omega
      obtain ⟨c0, c1⟩ := hc k hlt
      obtain ⟨d0, d1⟩ := hc' k (by have := HEQ.out.2.1; omega)
      clear hc hc'
      generalize gM s.merges k = m at c0 c1 d0 d1
      rw [hao] at y1
      rw [hao'] at z1
      have hneq := neqM m.1 m.2
      go_wp2
      go_quiet (fail)
      have HI2 := hide (HI.out.next (low_drewN2 wr nq))
      go_wp2
      first
        | exact ⟨⟨k + 1, by go_num, by omega, HI2⟩, by simp [intOf]; omega⟩
        | (go_roundw
           case rel => exact ⟨k + 1, by go_num, by omega, HI2⟩
           case measure => simp [intOf]; omega)
    · have hkn : k = x.n1 := by omega
      subst hkn
      clear hlt hk
      go_wp2
      go_loopw [6] (fun i wr => ∃ (k : Nat), i = .int .i64 k ∧ k ≤ x.n3 ∧ Hid (SmI w w.heap.size (w.heap.size + 1) x y s wr)) (fun i _ => x.n3 - (intOf i).toNat)
      case atStart => exact ⟨0, rfl, Nat.zero_le _, HI⟩
      case round =>
        clear HI y0 y1 y2 y3 y4 y5 z0 z1 z2 z3 z4 z5
        obtain ⟨k, rfl, hk, HI⟩ := hrel
        obtain ⟨y0, y1, y2, y3, y4, y5⟩ := HI.out.bx
        obtain ⟨z0, z1, z2, z3, z4, z5⟩ := FB.out _ HI.out
        by_cases hlt : k < x.n3
        · have hk0 : (0 : Int) ≤ (k : Int) := by omega
          have hk1 : (k : Int) < (x.n3 : Int) := by omega
          rcases HI.out.sx.ss.2 with h0 | ⟨b, off, hao, hbl, hc⟩
          · omega
          rcases HI.out.sy.ss.2 with h0 | ⟨b', off', hao', hbl', hc'⟩
          · have := HEQ.out.2.2.2.1; omega
          obtain ⟨c0, c1⟩ := hc k hlt
          obtain ⟨d0, d1⟩ := hc' k (by have := HEQ.out.2.2.2.1; omega)
          clear hc hc'
          generalize gS s.specials k = m at c0 c1 d0 d1
          rw [hao] at y3
          rw [hao'] at z3
          have hneq := neqS m.1 m.2
          go_wp2
          go_quiet (fail)
          have HI2 := hide (HI.out.next (low_drewN2 wr nq))
          go_wp2
          first
            | exact ⟨⟨k + 1, by go_num, by omega, HI2⟩, by simp [intOf]; omega⟩
            | (go_roundw
               case rel => exact ⟨k + 1, by go_num, by omega, HI2⟩
               case measure => simp [intOf]; omega)
        · have hkn : k = x.n3 := by omega
          subst hkn
          clear hlt hk
          go_wp2
          go_loopw [7] (fun i wr => ∃ (k : Nat), i = .int .i64 k ∧ k ≤ x.n4 ∧ Hid (SmI w w.heap.size (w.heap.size + 1) x y s wr)) (fun i _ => x.n4 - (intOf i).toNat)
          case atStart => exact ⟨0, rfl, Nat.zero_le _, HI⟩
          case round =>
            clear HI y0 y1 y2 y3 y4 y5 z0 z1 z2 z3 z4 z5
            obtain ⟨k, rfl, hk, HI⟩ := hrel
            obtain ⟨y0, y1, y2, y3, y4, y5⟩ := HI.out.bx
            obtain ⟨z0, z1, z2, z3, z4, z5⟩ := FB.out _ HI.out
            by_cases hlt : k < x.n4
            · have hk0 : (0 : Int) ≤ (k : Int) := by omega
              have hk1 : (k : Int) < (x.n4 : Int) := by omega
              rcases HI.out.sx.cs.2 with h0 | ⟨b, off, hao, hbl, hc⟩
              · omega
              rcases HI.out.sy.cs.2 with h0 | ⟨b', off', hao', hbl', hc'⟩
              · have := HEQ.out.2.2.2.2.1; omega
              obtain ⟨c0, c1, c2⟩ := hc k hlt
              obtain ⟨d0, d1, d2⟩ := hc' k (by have := HEQ.out.2.2.2.2.1; omega)
              clear hc hc'
              generalize gC s.classes k = m at c0 c1 c2 d0 d1 d2
              rw [hao] at y4
              rw [hao'] at z4
              have hneq := neqC m.1 m.2.1 m.2.2
              go_wp2
              go_quiet (fail)
              have HI2 := hide (HI.out.next (low_drewN2 wr nq))
              go_wp2
              first
                | exact ⟨⟨k + 1, by go_num, by omega, HI2⟩, by simp [intOf]; omega⟩
                | (go_roundw
                   case rel => exact ⟨k + 1, by go_num, by omega, HI2⟩
                   case measure => simp [intOf]; omega)
            · have hkn : k = x.n4 := by omega
              subst hkn
              clear hlt hk
              go_wp2
              go_loopw [8] (fun i wr => ∃ (k : Nat), i = .int .i64 k ∧ k ≤ x.n5 ∧ Hid (SmI w w.heap.size (w.heap.size + 1) x y s wr)) (fun i _ => x.n5 - (intOf i).toNat)
              case atStart => exact ⟨0, rfl, Nat.zero_le _, HI⟩
              case round =>
                clear HI y0 y1 y2 y3 y4 y5 z0 z1 z2 z3 z4 z5
                obtain ⟨k, rfl, hk, HI⟩ := hrel
                obtain ⟨y0, y1, y2, y3, y4, y5⟩ := HI.out.bx
                obtain ⟨z0, z1, z2, z3, z4, z5⟩ := FB.out _ HI.out
                by_cases hlt : k < x.n5
                · have hk0 : (0 : Int) ≤ (k : Int) := by omega
                  have hk1 : (k : Int) < (x.n5 : Int) := by omega
                  rcases HI.out.sx.js.2 with h0 | ⟨b, off, hao, hbl, hc⟩
                  · omega
                  rcases HI.out.sy.js.2 with h0 | ⟨b', off', hao', hbl', hc'⟩
                  · have := HEQ.out.2.2.2.2.2; omega
                  obtain ⟨c0, c1⟩ := hc k hlt
                  obtain ⟨d0, d1⟩ := hc' k (by have := HEQ.out.2.2.2.2.2; omega)
                  clear hc hc'
                  generalize gM s.joins k = m at c0 c1 d0 d1
                  rw [hao] at y5
                  rw [hao'] at z5
                  have hneq := neqJ m.1 m.2
                  go_wp2
                  go_quiet (fail)
                  have HI2 := hide (HI.out.next (low_drewN2 wr nq))
                  go_wp2
                  first
                    | exact ⟨⟨k + 1, by go_num, by omega, HI2⟩, by simp [intOf]; omega⟩
                    | (go_roundw
                       case rel => exact ⟨k + 1, by go_num, by omega, HI2⟩
                       case measure => simp [intOf]; omega)
                · have hkn : k = x.n5 := by omega
                  subst hkn
                  clear hlt hk
                  go_wp2
                  go_ret
                  exact ⟨rfl, HI.out.bel⟩
end Go.Proofs.YtoihocbnhoniaaaGreatDoor.Wf

namespace Go.Proofs.YtoihocbnhoniaaaGreatDoor.Wf
open Go.RowKit
set_option linter.unusedVariables false
set_option linter.unusedSimpArgs false

/-- It answers; where it says no, there are few. -/
def IsG3 (x : Sv) (e : Ending) : Prop := e = .returned (.bool true) ∨ (e = .returned (.bool false) ∧ (x.n1 ≤ 60 ∨ x.n1 = 745) ∧ x.n2 ≤ 60 ∧ x.n3 ≤ 40 ∧ x.n4 ≤ 70 ∧ x.n5 ≤ 70)
theorem isG3 {x : Sv} {e : Ending} (h : e = .returned (.bool true)) : IsG3 x e := Or.inl h
theorem isN3 {x : Sv} {e : Ending} (h : e = .returned (.bool false)) (h1 : (x.n1 ≤ 60 ∨ x.n1 = 745) ∧ x.n2 ≤ 60 ∧ x.n3 ≤ 40 ∧ x.n4 ≤ 70 ∧ x.n5 ≤ 70) : IsG3 x e := Or.inr ⟨h, h1⟩

set_option maxHeartbeats 8000000 in
set_option maxRecDepth 20000 in
theorem great3_any (x : Sv) (s : Sp) (w : World) (h : SpAt w x s) :
    Calls Tryz.prog 9 #[.agg x.cs] w fun e w' => IsG3 x e ∧ Below w.heap.size w w' := by
  have HI := hide (SpI.new h 28)
  obtain ⟨y0, y1, y2, y3, y4, y5⟩ := HI.out.box
  clear h
  have hm : (60 < x.n1 ∧ x.n1 ≠ 745) ∨ x.n1 ≤ 60 ∨ x.n1 = 745 := by omega
  have HN1 : Hid (x.n1 ≤ 60 ∨ x.n1 = 745 ∨ 60 < x.n1) := hide (by omega)
  by_cases a1 : 60 < x.n1 ∧ x.n1 ≠ 745
  · have b1 : (60 : Int) < (x.n1 : Int) := by omega
    have b2 : ((x.n1 : Int) != 745) = true := by simp; omega
    clear hm a1
    go_enter Tryz.func9, Tryz.ntmps9
    go_wp2
    go_ret
    exact ⟨isG3 rfl, HI.out.bel⟩
  have hm2 : x.n1 ≤ 60 ∨ x.n1 = 745 := by omega
  clear hm a1 HN1
  have HM2 := hide hm2
  by_cases a2 : 60 < x.n2
  · have b2 : (60 : Int) < (x.n2 : Int) := by omega
    rcases hm2 with a1 | a1
    · have b1 : ¬ (60 : Int) < (x.n1 : Int) := by omega
      go_enter Tryz.func9, Tryz.ntmps9
      go_wp2
      go_ret
      exact ⟨isG3 rfl, HI.out.bel⟩
    · rw [a1] at y1
      clear a1
      go_enter Tryz.func9, Tryz.ntmps9
      go_wp2
      go_ret
      exact ⟨isG3 rfl, HI.out.bel⟩
  have b2 : ¬ (60 : Int) < (x.n2 : Int) := by omega
  by_cases a3 : 40 < x.n3
  · have b3 : (40 : Int) < (x.n3 : Int) := by omega
    rcases hm2 with a1 | a1
    · have b1 : ¬ (60 : Int) < (x.n1 : Int) := by omega
      go_enter Tryz.func9, Tryz.ntmps9
      go_wp2
      go_ret
      exact ⟨isG3 rfl, HI.out.bel⟩
    · rw [a1] at y1
      clear a1
      go_enter Tryz.func9, Tryz.ntmps9
      go_wp2
      go_ret
      exact ⟨isG3 rfl, HI.out.bel⟩
  have b3 : ¬ (40 : Int) < (x.n3 : Int) := by omega
  by_cases a4 : 70 < x.n4
  · have b4 : (70 : Int) < (x.n4 : Int) := by omega
    rcases hm2 with a1 | a1
    · have b1 : ¬ (60 : Int) < (x.n1 : Int) := by omega
      go_enter Tryz.func9, Tryz.ntmps9
      go_wp2
      go_ret
      exact ⟨isG3 rfl, HI.out.bel⟩
    · rw [a1] at y1
      clear a1
      go_enter Tryz.func9, Tryz.ntmps9
      go_wp2
      go_ret
      exact ⟨isG3 rfl, HI.out.bel⟩
  have b4 : ¬ (70 : Int) < (x.n4 : Int) := by omega
  by_cases a5 : 70 < x.n5
  · have b5 : (70 : Int) < (x.n5 : Int) := by omega
    rcases hm2 with a1 | a1
    · have b1 : ¬ (60 : Int) < (x.n1 : Int) := by omega
      go_enter Tryz.func9, Tryz.ntmps9
      go_wp2
      go_ret
      exact ⟨isG3 rfl, HI.out.bel⟩
    · rw [a1] at y1
      clear a1
      go_enter Tryz.func9, Tryz.ntmps9
      go_wp2
      go_ret
      exact ⟨isG3 rfl, HI.out.bel⟩
  have b5 : ¬ (70 : Int) < (x.n5 : Int) := by omega
  have HNN : Hid ((x.n1 ≤ 60 ∨ x.n1 = 745) ∧ x.n2 ≤ 60 ∧ x.n3 ≤ 40 ∧ x.n4 ≤ 70 ∧ x.n5 ≤ 70) := hide ⟨hm2, by omega, by omega, by omega, by omega⟩
  obtain ⟨n1, hn1⟩ : ∃ n1, x.n1 = n1 := ⟨_, rfl⟩
  rw [hn1] at y1 hm2
  have HN := hide hn1
  clear hn1 HM2 a4 a5
  rcases hm2 with a1 | rfl
  all_goals (try have b1 : ¬ (60 : Int) < (n1 : Int) := by omega)
  all_goals
    go_enter Tryz.func9, Tryz.ntmps9
    go_wp2
    generalize w.alloc (.cells x.cs 28) = W at *
    go_loopw [3] (fun i wr => ∃ (k : Nat), i = .int .i64 k ∧ k ≤ x.n2 ∧ wr = W) (fun i _ => x.n2 - (intOf i).toNat)
    case atStart => exact ⟨0, rfl, Nat.zero_le _, rfl⟩
    case round =>
      obtain ⟨k, rfl, hk, rfl⟩ := hrel
      by_cases hlt : k < x.n2
      · have hk0 : (0 : Int) ≤ (k : Int) := by omega
        have hk1 : (k : Int) < (x.n2 : Int) := by omega
        rcases HI.out.sp.ts.2 with h0 | ⟨b, off, hao, hbl, hc⟩
        · omega
        have hck := hc k hlt
        clear hc
        rw [hao] at y2
        generalize gT s.tokens k = t at hck
        by_cases ht : 100 < t.size
        · have ht1 : (100 : Int) < (t.size : Int) := by omega
          go_wp2
          go_ret
          exact ⟨isG3 rfl, HI.out.bel⟩
        · have ht1 : ¬ (100 : Int) < (t.size : Int) := by omega
          go_wp2
          first
            | exact ⟨⟨k + 1, by go_num, by omega, (by first | trivial | rfl)⟩, by simp [intOf]; omega⟩
            | (go_roundw
               case rel => exact ⟨k + 1, by go_num, by omega, (by first | trivial | rfl)⟩
               case measure => simp [intOf]; omega)
      · have hkn : k = x.n2 := by omega
        subst hkn
        clear hlt hk
        go_wp2
        go_loopw [4] (fun i wr2 => ∃ (k : Nat), i = .int .i64 k ∧ k ≤ x.n3 ∧ wr2 = wr) (fun i _ => x.n3 - (intOf i).toNat)
        case atStart => exact ⟨0, rfl, Nat.zero_le _, rfl⟩
        case round =>
          obtain ⟨k, rfl, hk, rfl⟩ := hrel
          by_cases hlt : k < x.n3
          · have hk0 : (0 : Int) ≤ (k : Int) := by omega
            have hk1 : (k : Int) < (x.n3 : Int) := by omega
            rcases HI.out.sp.ss.2 with h0 | ⟨b, off, hao, hbl, hc⟩
            · omega
            have hck := (hc k hlt).2
            clear hc
            rw [hao] at y3
            generalize (gS s.specials k).2 = t at hck
            by_cases ht : 100 < t.size
            · have ht1 : (100 : Int) < (t.size : Int) := by omega
              go_wp2
              go_ret
              exact ⟨isG3 rfl, HI.out.bel⟩
            · have ht1 : ¬ (100 : Int) < (t.size : Int) := by omega
              go_wp2
              first
                | exact ⟨⟨k + 1, by go_num, by omega, (by first | trivial | rfl)⟩, by simp [intOf]; omega⟩
                | (go_roundw
                   case rel => exact ⟨k + 1, by go_num, by omega, (by first | trivial | rfl)⟩
                   case measure => simp [intOf]; omega)
          · have hkn : k = x.n3 := by omega
            subst hkn
            clear hlt hk
            go_wp2
            go_ret
            exact ⟨isN3 rfl HNN.out, HI.out.bel⟩
end Go.Proofs.YtoihocbnhoniaaaGreatDoor.Wf
