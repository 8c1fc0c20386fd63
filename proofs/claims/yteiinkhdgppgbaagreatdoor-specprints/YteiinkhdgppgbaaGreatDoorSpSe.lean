/- spec.Same, and the document's Same, of any two specs. -/
import Derived.Test.YteiinkhdgppgbaaGreatDoorSpEq
namespace Go.Proofs.YteiinkhdgppgbaaGreatDoor
open Go.RowKit
set_option linter.unusedVariables false
set_option linter.unusedSimpArgs false

/-- Are two specs the same? -/
def sameP (s u : Sp) : Bool := decide (s.ranked = u.ranked) && (decide (s.merges = u.merges) && (decide (s.tokens = u.tokens) && (decide (s.specials = u.specials) && (decide (s.classes = u.classes) && decide (s.joins = u.joins)))))
theorem sameP_self (s : Sp) : sameP s s = true := by simp [sameP]
structure SmK (w : World) (x y : Sv) (s u : Sp) (W : World) : Prop where
  sx : SpAt W x s
  sy : SpAt W y u
  bx : BxS w.heap.size x W
  bz : BxS (w.heap.size + 1) y W
  l1 : w.heap.size < W.heap.size
  l2 : w.heap.size + 1 < W.heap.size
  bel : Below w.heap.size w W
theorem SmK.next {w : World} {x y : Sv} {s u : Sp} {W W' : World} (h : SmK w x y s u W) (hb : Below W.heap.size W W') : SmK w x y s u W' :=
  ⟨h.sx.kept hb, h.sy.kept hb, h.bx.kept h.l1 hb, h.bz.kept h.l2 hb, Nat.lt_of_lt_of_le h.l1 hb.size, Nat.lt_of_lt_of_le h.l2 hb.size, h.bel.trans (hb.mono h.bel.size)⟩
theorem SmK.new {w : World} {x y : Sv} {s u : Sp} (hx : SpAt w x s) (hy : SpAt w y u) (T : TypeId) : SmK w x y s u ((w.alloc (.cells x.cs T)).alloc (.cells y.cs T)) := by
  have h1 := low_alloc w (.cells x.cs T)
  have h2 := low_alloc (w.alloc (.cells x.cs T)) (.cells y.cs T)
  have hs : (w.alloc (.cells x.cs T)).heap.size = w.heap.size + 1 := alloc_size _ _
  have hb := BxS.new (w.alloc (.cells x.cs T)) y T
  rw [hs] at hb
  exact ⟨(hx.kept h1).kept h2, (hy.kept h1).kept h2, (BxS.new w x T).kept (by simp) h2, hb, by simp; omega, by simp, h1.trans (h2.mono h1.size)⟩
/-- Lengths within the machine's. -/
def NOk (x : Sv) : Prop := x.n1 ≤ 9223372036854775807 ∧ x.n2 ≤ 9223372036854775807 ∧ x.n3 ≤ 9223372036854775807 ∧ x.n4 ≤ 9223372036854775807 ∧ x.n5 ≤ 9223372036854775807

set_option maxRecDepth 20000 in
set_option maxHeartbeats 8000000 in
theorem ssame_any (x y : Sv) (s u : Sp) (w : World) (hx : SpAt w x s) (hy : SpAt w y u) (hn : NOk x) :
    Calls Tryz.prog 11 #[.agg x.cs, .agg y.cs] w fun e w' => e = .returned (.bool (sameP s u)) ∧ Below w.heap.size w w' := by
  have HI := hide (SmK.new hx hy 28)
  obtain ⟨hn1, hn2, hn3, hn4, hn5⟩ := hn
  have K1 := hide (fun (W : World) (h : SmK w x y s u W) => eqM_any W x.a1 y.a1 x.n1 y.n1 x.c1 y.c1 s.merges u.merges h.sx.ms h.sy.ms hn1)
  have K2 := hide (fun (W : World) (h : SmK w x y s u W) => eqT_any W x.a2 y.a2 x.n2 y.n2 x.c2 y.c2 s.tokens u.tokens h.sx.ts h.sy.ts hn2)
  have K3 := hide (fun (W : World) (h : SmK w x y s u W) => eqS_any W x.a3 y.a3 x.n3 y.n3 x.c3 y.c3 s.specials u.specials h.sx.ss h.sy.ss hn3)
  have K4 := hide (fun (W : World) (h : SmK w x y s u W) => eqC_any W x.a4 y.a4 x.n4 y.n4 x.c4 y.c4 s.classes u.classes h.sx.cs h.sy.cs hn4)
  have K5 := hide (fun (W : World) (h : SmK w x y s u W) => eqJ_any W x.a5 y.a5 x.n5 y.n5 x.c5 y.c5 s.joins u.joins h.sx.js h.sy.js hn5)
  have hz0 : (x.r == y.r) = decide (s.ranked = u.ranked) := by
    rw [hx.r, hy.r]
    cases s.ranked <;> cases u.ranked <;> rfl
  unfold sameP
  clear hx hy hn1 hn2 hn3 hn4 hn5
  generalize decide (s.ranked = u.ranked) = z0 at *
  generalize decide (s.merges = u.merges) = z1 at *
  generalize decide (s.tokens = u.tokens) = z2 at *
  generalize decide (s.specials = u.specials) = z3 at *
  generalize decide (s.classes = u.classes) = z4 at *
  generalize decide (s.joins = u.joins) = z5 at *
  obtain ⟨y0, y1, y2, y3, y4, y5⟩ := HI.out.bx
  obtain ⟨v0, v1, v2, v3, v4, v5⟩ := HI.out.bz
  go_enter Tryz.func11, Tryz.ntmps11
  cases z0 with
  | false =>
    go_wp2
    go_ret
    exact ⟨rfl, HI.out.bel⟩
  | true =>
    go_wp2_with fail
    refine (K1.out _ HI.out).mono ?_
    rintro e w1 ⟨rfl, hb⟩
    replace HI := hide (HI.out.next hb)
    clear y0 y1 y2 y3 y4 y5 v0 v1 v2 v3 v4 v5
    clear hb
    obtain ⟨y0, y1, y2, y3, y4, y5⟩ := HI.out.bx
    obtain ⟨v0, v1, v2, v3, v4, v5⟩ := HI.out.bz
    cases z1 with
    | false =>
      go_wp2
      go_ret
      exact ⟨rfl, HI.out.bel⟩
    | true =>
      go_wp2_with fail
      refine (K2.out _ HI.out).mono ?_
      rintro e w2 ⟨rfl, hb⟩
      replace HI := hide (HI.out.next hb)
      clear y0 y1 y2 y3 y4 y5 v0 v1 v2 v3 v4 v5
      clear hb
      obtain ⟨y0, y1, y2, y3, y4, y5⟩ := HI.out.bx
      obtain ⟨v0, v1, v2, v3, v4, v5⟩ := HI.out.bz
      cases z2 with
      | false =>
        go_wp2
        go_ret
        exact ⟨rfl, HI.out.bel⟩
      | true =>
        go_wp2_with fail
        refine (K3.out _ HI.out).mono ?_
        rintro e w3 ⟨rfl, hb⟩
        replace HI := hide (HI.out.next hb)
        clear y0 y1 y2 y3 y4 y5 v0 v1 v2 v3 v4 v5
        clear hb
        obtain ⟨y0, y1, y2, y3, y4, y5⟩ := HI.out.bx
        obtain ⟨v0, v1, v2, v3, v4, v5⟩ := HI.out.bz
        cases z3 with
        | false =>
          go_wp2
          go_ret
          exact ⟨rfl, HI.out.bel⟩
        | true =>
          go_wp2_with fail
          refine (K4.out _ HI.out).mono ?_
          rintro e w4 ⟨rfl, hb⟩
          replace HI := hide (HI.out.next hb)
          clear y0 y1 y2 y3 y4 y5 v0 v1 v2 v3 v4 v5
          clear hb
          obtain ⟨y0, y1, y2, y3, y4, y5⟩ := HI.out.bx
          obtain ⟨v0, v1, v2, v3, v4, v5⟩ := HI.out.bz
          cases z4 with
          | false =>
            go_wp2
            go_ret
            exact ⟨rfl, HI.out.bel⟩
          | true =>
            go_wp2_with fail
            refine (K5.out _ HI.out).mono ?_
            rintro e w5 ⟨rfl, hb⟩
            replace HI := hide (HI.out.next hb)
            clear y0 y1 y2 y3 y4 y5 v0 v1 v2 v3 v4 v5
            clear hb
            obtain ⟨y0, y1, y2, y3, y4, y5⟩ := HI.out.bx
            obtain ⟨v0, v1, v2, v3, v4, v5⟩ := HI.out.bz
            cases z5 with
            | false =>
              go_wp2
              go_ret
              exact ⟨rfl, HI.out.bel⟩
            | true =>
              go_wp2
              go_ret
              exact ⟨rfl, HI.out.bel⟩

set_option maxRecDepth 20000 in
set_option maxHeartbeats 16000000 in
theorem rsame_any (x y : Sv) (s u : Sp) (w : World) (hx : SpAt w x s) (hy : SpAt w y u) (hn : NOk x) :
    Calls Tryz.prog 12 #[.agg x.cs, .agg y.cs] w fun e w' => e = .returned (.bool (sameP s u)) ∧ Below w.heap.size w w' := by
  have HI := hide (SmK.new hx hy 28)
  obtain ⟨hn1, hn2, hn3, hn4, hn5⟩ := hn
  have KX := hide (fun (W : World) (h : SmK w x y s u W) => eqX_any W x.a2 y.a2 x.n2 y.n2 x.c2 y.c2 s.tokens u.tokens h.sx.ts h.sy.ts hn2)
  have hz0 : (x.r == y.r) = decide (s.ranked = u.ranked) := by
    rw [hx.r, hy.r]
    cases s.ranked <;> cases u.ranked <;> rfl
  have HM := hide hx
  have HU := hide hy
  clear hx hy
  obtain ⟨y0, y1, y2, y3, y4, y5⟩ := HI.out.bx
  obtain ⟨v0, v1, v2, v3, v4, v5⟩ := HI.out.bz
  go_enter Tryz.func12, Tryz.ntmps12
  by_cases h0 : s.ranked = u.ranked
  case neg =>
    rw [decide_eq_false h0] at hz0
    have hz1 : (x.r != y.r) = true := by simp [bne, hz0]
    have HF : Hid (sameP s u = false) := hide (by simp [sameP, h0])
    clear h0
    go_wp2
    go_ret
    exact ⟨by rw [HF.out]; rfl, HI.out.bel⟩
  rw [decide_eq_true h0] at hz0
  have hz1 : (x.r != y.r) = false := by simp [bne, hz0]
  have HE0 := hide h0
  clear h0
  by_cases h1 : x.n1 = y.n1
  case neg =>
    have hb : ((x.n1 : Int) != (y.n1 : Int)) = true := by simp; omega
    have HF : Hid (sameP s u = false) := hide (by
      have : s.merges ≠ u.merges := fun e => h1 (by rw [← HM.out.ms.1, ← HU.out.ms.1, e])
      simp [sameP, this])
    go_wp2
    go_ret
    exact ⟨by rw [HF.out]; rfl, HI.out.bel⟩
  have b1 : ((x.n1 : Int) != (y.n1 : Int)) = false := by simp; omega
  have HL1 := hide h1
  go_wp2_with fail
  refine (KX.out _ HI.out).mono ?_
  rintro e w2 ⟨rfl, hb⟩
  replace HI := hide (HI.out.next hb)
  clear hb y0 y1 y2 y3 y4 y5 v0 v1 v2 v3 v4 v5 h1
  obtain ⟨y0, y1, y2, y3, y4, y5⟩ := HI.out.bx
  obtain ⟨v0, v1, v2, v3, v4, v5⟩ := HI.out.bz
  by_cases h2 : s.tokens = u.tokens
  case neg =>
    have hd : decide (s.tokens = u.tokens) = false := decide_eq_false h2
    have HF : Hid (sameP s u = false) := hide (by simp [sameP, h2])
    generalize decide (s.tokens = u.tokens) = zt at *
    subst hd
    clear h2
    go_wp2
    go_ret
    exact ⟨by rw [HF.out]; rfl, HI.out.bel⟩
  have hd : decide (s.tokens = u.tokens) = true := decide_eq_true h2
  have HE2 := hide h2
  generalize decide (s.tokens = u.tokens) = zt at *
  subst hd
  clear h2
  by_cases h3 : x.n3 = y.n3
  case neg =>
    have hb : ((x.n3 : Int) != (y.n3 : Int)) = true := by simp; omega
    have HF : Hid (sameP s u = false) := hide (by
      have : s.specials ≠ u.specials := fun e => h3 (by rw [← HM.out.ss.1, ← HU.out.ss.1, e])
      simp [sameP, this])
    go_wp2
    go_ret
    exact ⟨by rw [HF.out]; rfl, HI.out.bel⟩
  have b3 : ((x.n3 : Int) != (y.n3 : Int)) = false := by simp; omega
  have HL3 := hide h3
  clear h3
  by_cases h4 : x.n4 = y.n4
  case neg =>
    have hb : ((x.n4 : Int) != (y.n4 : Int)) = true := by simp; omega
    have HF : Hid (sameP s u = false) := hide (by
      have : s.classes ≠ u.classes := fun e => h4 (by rw [← HM.out.cs.1, ← HU.out.cs.1, e])
      simp [sameP, this])
    go_wp2
    go_ret
    exact ⟨by rw [HF.out]; rfl, HI.out.bel⟩
  have b4 : ((x.n4 : Int) != (y.n4 : Int)) = false := by simp; omega
  have HL4 := hide h4
  clear h4
  by_cases h5 : x.n5 = y.n5
  case neg =>
    have hb : ((x.n5 : Int) != (y.n5 : Int)) = true := by simp; omega
    have HF : Hid (sameP s u = false) := hide (by
      have : s.joins ≠ u.joins := fun e => h5 (by rw [← HM.out.js.1, ← HU.out.js.1, e])
      simp [sameP, this])
    go_wp2
    go_ret
    exact ⟨by rw [HF.out]; rfl, HI.out.bel⟩
  have b5 : ((x.n5 : Int) != (y.n5 : Int)) = false := by simp; omega
  have HL5 := hide h5
  clear h5
  go_wp2
  go_loopw [5] (fun i wr => ∃ (k : Nat), i = .int .i64 k ∧ k ≤ x.n1 ∧ Hid (SmK w x y s u wr) ∧ Hid (∀ j, j < k → gM s.merges j = gM u.merges j)) (fun i _ => x.n1 - (intOf i).toNat)
  case atStart => exact ⟨0, rfl, Nat.zero_le _, HI, hide (fun j hj => absurd hj (Nat.not_lt_zero j))⟩
  case round =>
    clear HI y0 y1 y2 y3 y4 y5 v0 v1 v2 v3 v4 v5
    obtain ⟨k, rfl, hk, HI, HK⟩ := hrel
    obtain ⟨y0, y1, y2, y3, y4, y5⟩ := HI.out.bx
    obtain ⟨v0, v1, v2, v3, v4, v5⟩ := HI.out.bz
    by_cases hlt : k < x.n1
    · have hk0 : (0 : Int) ≤ (k : Int) := by omega
      have hk1 : (k : Int) < (x.n1 : Int) := by omega
      have hk2 : (k : Int) < (y.n1 : Int) := by have := HL1.out; omega
      rcases HI.out.sx.ms.2 with h0 | ⟨b, off, hao, hbl, hc⟩
      · omega
      rcases HI.out.sy.ms.2 with h0 | ⟨b', off', hao', hbl', hc'⟩
      · omega
      obtain ⟨c0, c1⟩ := hc k hlt
      obtain ⟨d0, d1⟩ := hc' k (by omega)
      clear hc hc'
      rw [hao] at y1
      rw [hao'] at v1
      have HK2 : Hid ((gM s.merges k).1 = (gM u.merges k).1 ∧ (gM s.merges k).2 = (gM u.merges k).2 → ∀ j, j < k + 1 → gM s.merges j = gM u.merges j) := hide (fun h j hj => by
        by_cases e : j = k
        · subst e; exact Prod.ext h.1 h.2
        · exact HK.out j (by omega))
      have HNE : Hid (¬ ((gM s.merges k).1 = (gM u.merges k).1 ∧ (gM s.merges k).2 = (gM u.merges k).2) → sameP s u = false) := hide (fun h => by
        have hne : s.merges ≠ u.merges := fun e => h ⟨by rw [e], by rw [e]⟩
        simp [sameP, hne])
      clear hao hao'
      generalize (gM s.merges k).1 = x0 at *
      generalize (gM u.merges k).1 = gg0 at *
      generalize (gM s.merges k).2 = x1 at *
      generalize (gM u.merges k).2 = gg1 at *
      by_cases e0 : x0 = gg0
      · by_cases e1 : x1 = gg1
        · have HF := hide (HK2.out ⟨e0, e1⟩)
          have s0 : (gg0 == gg0) = true := by simp
          have s1 : (gg1 == gg1) = true := by simp
          subst e0 e1
          go_wp2
          go_quiet (fail)
          have HI2 := hide (HI.out.next (low_drewQ wr nq))
          clear c0 c1 d0 d1
          clear y0 y1 y2 y3 y4 y5 v0 v1 v2 v3 v4 v5
          generalize wr.drewN nq = wd at *
          go_wp2
          first
            | exact ⟨⟨k + 1, by go_num, by omega, HI2, HF⟩, by simp [intOf]; omega⟩
            | (go_roundw
               case rel => exact ⟨k + 1, by go_num, by omega, HI2, HF⟩
               case measure => simp [intOf]; omega)
            | exact ⟨⟨_, _, _, _, _, _, _, _, _, _, _, _, _, _, _, _, _, _, _, _, ⟨k + 1, by go_num, by omega, HI2, HF⟩, rfl⟩, by simp [intOf]; omega⟩
        · have HF := hide (HNE.out (fun h => e1 h.2))
          have hd0 : (x0 == gg0) = true := by simpa using e0
          have hd1 : (x1 == gg1) = false := by simpa using e1
          clear e0 e1
          go_wp2
          go_quiet (fail)
          have HI2 := hide (HI.out.next (low_drewQ wr nq))
          clear c0 c1 d0 d1
          clear y0 y1 y2 y3 y4 y5 v0 v1 v2 v3 v4 v5
          generalize wr.drewN nq = wd at *
          go_wp2
          go_ret
          exact ⟨by rw [HF.out]; rfl, HI2.out.bel⟩
      · have HF := hide (HNE.out (fun h => e0 h.1))
        have hd0 : (x0 == gg0) = false := by simpa using e0
        clear e0
        go_wp2
        go_quiet (fail)
        have HI2 := hide (HI.out.next (low_drewQ wr nq))
        clear c0 c1 d0 d1
        clear y0 y1 y2 y3 y4 y5 v0 v1 v2 v3 v4 v5
        generalize wr.drewN nq = wd at *
        go_wp2
        go_ret
        exact ⟨by rw [HF.out]; rfl, HI2.out.bel⟩
    · have hkn : k = x.n1 := by omega
      subst hkn
      have HE1 : Hid (s.merges = u.merges) := hide (getD_ext (0, 0) HI.out.sx.ms.1 (HI.out.sy.ms.1.trans HL1.out.symm) HK.out)
      clear HK hk hlt
      go_wp2
      go_loopw [6] (fun i wr => ∃ (k : Nat), i = .int .i64 k ∧ k ≤ x.n3 ∧ Hid (SmK w x y s u wr) ∧ Hid (∀ j, j < k → gS s.specials j = gS u.specials j)) (fun i _ => x.n3 - (intOf i).toNat)
      case atStart => exact ⟨0, rfl, Nat.zero_le _, HI, hide (fun j hj => absurd hj (Nat.not_lt_zero j))⟩
      case round =>
        clear HI y0 y1 y2 y3 y4 y5 v0 v1 v2 v3 v4 v5
        obtain ⟨k, rfl, hk, HI, HK⟩ := hrel
        obtain ⟨y0, y1, y2, y3, y4, y5⟩ := HI.out.bx
        obtain ⟨v0, v1, v2, v3, v4, v5⟩ := HI.out.bz
        by_cases hlt : k < x.n3
        · have hk0 : (0 : Int) ≤ (k : Int) := by omega
          have hk1 : (k : Int) < (x.n3 : Int) := by omega
          have hk2 : (k : Int) < (y.n3 : Int) := by have := HL3.out; omega
          rcases HI.out.sx.ss.2 with h0 | ⟨b, off, hao, hbl, hc⟩
          · omega
          rcases HI.out.sy.ss.2 with h0 | ⟨b', off', hao', hbl', hc'⟩
          · omega
          obtain ⟨c0, c1⟩ := hc k hlt
          obtain ⟨d0, d1⟩ := hc' k (by omega)
          clear hc hc'
          rw [hao] at y3
          rw [hao'] at v3
          have HK2 : Hid ((gS s.specials k).1 = (gS u.specials k).1 ∧ (gS s.specials k).2 = (gS u.specials k).2 → ∀ j, j < k + 1 → gS s.specials j = gS u.specials j) := hide (fun h j hj => by
            by_cases e : j = k
            · subst e; exact Prod.ext h.1 h.2
            · exact HK.out j (by omega))
          have HNE : Hid (¬ ((gS s.specials k).1 = (gS u.specials k).1 ∧ (gS s.specials k).2 = (gS u.specials k).2) → sameP s u = false) := hide (fun h => by
            have hne : s.specials ≠ u.specials := fun e => h ⟨by rw [e], by rw [e]⟩
            simp [sameP, hne])
          clear hao hao'
          generalize (gS s.specials k).1 = x0 at *
          generalize (gS u.specials k).1 = gg0 at *
          generalize (gS s.specials k).2 = x1 at *
          generalize (gS u.specials k).2 = gg1 at *
          by_cases e0 : x0 = gg0
          · by_cases e1 : x1 = gg1
            · have HF := hide (HK2.out ⟨e0, e1⟩)
              have s0 : (gg0 == gg0) = true := by simp
              have s1 : (gg1.toList == gg1.toList) = true := by simp
              subst e0 e1
              go_wp2
              go_quiet (fail)
              have HI2 := hide (HI.out.next (low_drewQ wr nq))
              clear c0 c1 d0 d1
              clear y0 y1 y2 y3 y4 y5 v0 v1 v2 v3 v4 v5
              generalize wr.drewN nq = wd at *
              go_wp2
              first
                | exact ⟨⟨k + 1, by go_num, by omega, HI2, HF⟩, by simp [intOf]; omega⟩
                | (go_roundw
                   case rel => exact ⟨k + 1, by go_num, by omega, HI2, HF⟩
                   case measure => simp [intOf]; omega)
                | exact ⟨⟨_, _, _, _, _, _, _, _, _, _, _, _, _, _, _, _, _, _, _, _, ⟨k + 1, by go_num, by omega, HI2, HF⟩, rfl⟩, by simp [intOf]; omega⟩
            · have HF := hide (HNE.out (fun h => e1 h.2))
              have hd0 : (x0 == gg0) = true := by simpa using e0
              have hd1 : (x1.toList == gg1.toList) = false := by rw [beqQ]; simpa using e1
              clear e0 e1
              go_wp2
              go_quiet (fail)
              have HI2 := hide (HI.out.next (low_drewQ wr nq))
              clear c0 c1 d0 d1
              clear y0 y1 y2 y3 y4 y5 v0 v1 v2 v3 v4 v5
              generalize wr.drewN nq = wd at *
              go_wp2
              go_ret
              exact ⟨by rw [HF.out]; rfl, HI2.out.bel⟩
          · have HF := hide (HNE.out (fun h => e0 h.1))
            have hd0 : (x0 == gg0) = false := by simpa using e0
            clear e0
            go_wp2
            go_quiet (fail)
            have HI2 := hide (HI.out.next (low_drewQ wr nq))
            clear c0 c1 d0 d1
            clear y0 y1 y2 y3 y4 y5 v0 v1 v2 v3 v4 v5
            generalize wr.drewN nq = wd at *
            go_wp2
            go_ret
            exact ⟨by rw [HF.out]; rfl, HI2.out.bel⟩
        · have hkn : k = x.n3 := by omega
          subst hkn
          have HE3 : Hid (s.specials = u.specials) := hide (getD_ext ((0 : Int), (⟨#[]⟩ : ByteArray)) HI.out.sx.ss.1 (HI.out.sy.ss.1.trans HL3.out.symm) HK.out)
          clear HK hk hlt
          go_wp2
          go_loopw [7] (fun i wr => ∃ (k : Nat), i = .int .i64 k ∧ k ≤ x.n4 ∧ Hid (SmK w x y s u wr) ∧ Hid (∀ j, j < k → gC s.classes j = gC u.classes j)) (fun i _ => x.n4 - (intOf i).toNat)
          case atStart => exact ⟨0, rfl, Nat.zero_le _, HI, hide (fun j hj => absurd hj (Nat.not_lt_zero j))⟩
          case round =>
            clear HI y0 y1 y2 y3 y4 y5 v0 v1 v2 v3 v4 v5
            obtain ⟨k, rfl, hk, HI, HK⟩ := hrel
            obtain ⟨y0, y1, y2, y3, y4, y5⟩ := HI.out.bx
            obtain ⟨v0, v1, v2, v3, v4, v5⟩ := HI.out.bz
            by_cases hlt : k < x.n4
            · have hk0 : (0 : Int) ≤ (k : Int) := by omega
              have hk1 : (k : Int) < (x.n4 : Int) := by omega
              have hk2 : (k : Int) < (y.n4 : Int) := by have := HL4.out; omega
              rcases HI.out.sx.cs.2 with h0 | ⟨b, off, hao, hbl, hc⟩
              · omega
              rcases HI.out.sy.cs.2 with h0 | ⟨b', off', hao', hbl', hc'⟩
              · omega
              obtain ⟨c0, c1, c2⟩ := hc k hlt
              obtain ⟨d0, d1, d2⟩ := hc' k (by omega)
              clear hc hc'
              rw [hao] at y4
              rw [hao'] at v4
              have HK2 : Hid ((gC s.classes k).1 = (gC u.classes k).1 ∧ (gC s.classes k).2.1 = (gC u.classes k).2.1 ∧ (gC s.classes k).2.2 = (gC u.classes k).2.2 → ∀ j, j < k + 1 → gC s.classes j = gC u.classes j) := hide (fun h j hj => by
                by_cases e : j = k
                · subst e; exact Prod.ext h.1 (Prod.ext h.2.1 h.2.2)
                · exact HK.out j (by omega))
              have HNE : Hid (¬ ((gC s.classes k).1 = (gC u.classes k).1 ∧ (gC s.classes k).2.1 = (gC u.classes k).2.1 ∧ (gC s.classes k).2.2 = (gC u.classes k).2.2) → sameP s u = false) := hide (fun h => by
                have hne : s.classes ≠ u.classes := fun e => h ⟨by rw [e], by rw [e], by rw [e]⟩
                simp [sameP, hne])
              clear hao hao'
              generalize (gC s.classes k).1 = x0 at *
              generalize (gC u.classes k).1 = gg0 at *
              generalize (gC s.classes k).2.1 = x1 at *
              generalize (gC u.classes k).2.1 = gg1 at *
              generalize (gC s.classes k).2.2 = x2 at *
              generalize (gC u.classes k).2.2 = gg2 at *
              by_cases e0 : x0 = gg0
              · by_cases e1 : x1 = gg1
                · by_cases e2 : x2 = gg2
                  · have HF := hide (HK2.out ⟨e0, e1, e2⟩)
                    have s0 : (gg0 == gg0) = true := by simp
                    have s1 : (gg1 == gg1) = true := by simp
                    have s2 : (gg2 == gg2) = true := by simp
                    subst e0 e1 e2
                    go_wp2
                    go_quiet (fail)
                    have HI2 := hide (HI.out.next (low_drewQ wr nq))
                    clear c0 c1 c2 d0 d1 d2
                    clear y0 y1 y2 y3 y4 y5 v0 v1 v2 v3 v4 v5
                    generalize wr.drewN nq = wd at *
                    go_wp2
                    first
                      | exact ⟨⟨k + 1, by go_num, by omega, HI2, HF⟩, by simp [intOf]; omega⟩
                      | (go_roundw
                         case rel => exact ⟨k + 1, by go_num, by omega, HI2, HF⟩
                         case measure => simp [intOf]; omega)
                      | exact ⟨⟨_, _, _, _, _, _, _, _, _, _, _, _, _, _, _, _, _, _, _, _, ⟨k + 1, by go_num, by omega, HI2, HF⟩, rfl⟩, by simp [intOf]; omega⟩
                  · have HF := hide (HNE.out (fun h => e2 h.2.2))
                    have hd0 : (x0 == gg0) = true := by simpa using e0
                    have hd1 : (x1 == gg1) = true := by simpa using e1
                    have hd2 : (x2 == gg2) = false := by simpa using e2
                    clear e0 e1 e2
                    go_wp2
                    go_quiet (fail)
                    have HI2 := hide (HI.out.next (low_drewQ wr nq))
                    clear c0 c1 c2 d0 d1 d2
                    clear y0 y1 y2 y3 y4 y5 v0 v1 v2 v3 v4 v5
                    generalize wr.drewN nq = wd at *
                    go_wp2
                    go_ret
                    exact ⟨by rw [HF.out]; rfl, HI2.out.bel⟩
                · have HF := hide (HNE.out (fun h => e1 h.2.1))
                  have hd0 : (x0 == gg0) = true := by simpa using e0
                  have hd1 : (x1 == gg1) = false := by simpa using e1
                  clear e0 e1
                  go_wp2
                  go_quiet (fail)
                  have HI2 := hide (HI.out.next (low_drewQ wr nq))
                  clear c0 c1 c2 d0 d1 d2
                  clear y0 y1 y2 y3 y4 y5 v0 v1 v2 v3 v4 v5
                  generalize wr.drewN nq = wd at *
                  go_wp2
                  go_ret
                  exact ⟨by rw [HF.out]; rfl, HI2.out.bel⟩
              · have HF := hide (HNE.out (fun h => e0 h.1))
                have hd0 : (x0 == gg0) = false := by simpa using e0
                clear e0
                go_wp2
                go_quiet (fail)
                have HI2 := hide (HI.out.next (low_drewQ wr nq))
                clear c0 c1 c2 d0 d1 d2
                clear y0 y1 y2 y3 y4 y5 v0 v1 v2 v3 v4 v5
                generalize wr.drewN nq = wd at *
                go_wp2
                go_ret
                exact ⟨by rw [HF.out]; rfl, HI2.out.bel⟩
            · have hkn : k = x.n4 := by omega
              subst hkn
              have HE4 : Hid (s.classes = u.classes) := hide (getD_ext (0, 0, 0) HI.out.sx.cs.1 (HI.out.sy.cs.1.trans HL4.out.symm) HK.out)
              clear HK hk hlt
              go_wp2
              go_loopw [8] (fun i wr => ∃ (k : Nat), i = .int .i64 k ∧ k ≤ x.n5 ∧ Hid (SmK w x y s u wr) ∧ Hid (∀ j, j < k → gM s.joins j = gM u.joins j)) (fun i _ => x.n5 - (intOf i).toNat)
              case atStart => exact ⟨0, rfl, Nat.zero_le _, HI, hide (fun j hj => absurd hj (Nat.not_lt_zero j))⟩
              case round =>
                clear HI y0 y1 y2 y3 y4 y5 v0 v1 v2 v3 v4 v5
                obtain ⟨k, rfl, hk, HI, HK⟩ := hrel
                obtain ⟨y0, y1, y2, y3, y4, y5⟩ := HI.out.bx
                obtain ⟨v0, v1, v2, v3, v4, v5⟩ := HI.out.bz
                by_cases hlt : k < x.n5
                · have hk0 : (0 : Int) ≤ (k : Int) := by omega
                  have hk1 : (k : Int) < (x.n5 : Int) := by omega
                  have hk2 : (k : Int) < (y.n5 : Int) := by have := HL5.out; omega
                  rcases HI.out.sx.js.2 with h0 | ⟨b, off, hao, hbl, hc⟩
                  · omega
                  rcases HI.out.sy.js.2 with h0 | ⟨b', off', hao', hbl', hc'⟩
                  · omega
                  obtain ⟨c0, c1⟩ := hc k hlt
                  obtain ⟨d0, d1⟩ := hc' k (by omega)
                  clear hc hc'
                  rw [hao] at y5
                  rw [hao'] at v5
                  have HK2 : Hid ((gM s.joins k).1 = (gM u.joins k).1 ∧ (gM s.joins k).2 = (gM u.joins k).2 → ∀ j, j < k + 1 → gM s.joins j = gM u.joins j) := hide (fun h j hj => by
                    by_cases e : j = k
                    · subst e; exact Prod.ext h.1 h.2
                    · exact HK.out j (by omega))
                  have HNE : Hid (¬ ((gM s.joins k).1 = (gM u.joins k).1 ∧ (gM s.joins k).2 = (gM u.joins k).2) → sameP s u = false) := hide (fun h => by
                    have hne : s.joins ≠ u.joins := fun e => h ⟨by rw [e], by rw [e]⟩
                    simp [sameP, hne])
                  clear hao hao'
                  generalize (gM s.joins k).1 = x0 at *
                  generalize (gM u.joins k).1 = gg0 at *
                  generalize (gM s.joins k).2 = x1 at *
                  generalize (gM u.joins k).2 = gg1 at *
                  by_cases e0 : x0 = gg0
                  · by_cases e1 : x1 = gg1
                    · have HF := hide (HK2.out ⟨e0, e1⟩)
                      have s0 : (gg0 == gg0) = true := by simp
                      have s1 : (gg1 == gg1) = true := by simp
                      subst e0 e1
                      go_wp2
                      go_quiet (fail)
                      have HI2 := hide (HI.out.next (low_drewQ wr nq))
                      clear c0 c1 d0 d1
                      clear y0 y1 y2 y3 y4 y5 v0 v1 v2 v3 v4 v5
                      generalize wr.drewN nq = wd at *
                      go_wp2
                      first
                        | exact ⟨⟨k + 1, by go_num, by omega, HI2, HF⟩, by simp [intOf]; omega⟩
                        | (go_roundw
                           case rel => exact ⟨k + 1, by go_num, by omega, HI2, HF⟩
                           case measure => simp [intOf]; omega)
                        | exact ⟨⟨_, _, _, _, _, _, _, _, _, _, _, _, _, _, _, _, _, _, _, _, ⟨k + 1, by go_num, by omega, HI2, HF⟩, rfl⟩, by simp [intOf]; omega⟩
                    · have HF := hide (HNE.out (fun h => e1 h.2))
                      have hd0 : (x0 == gg0) = true := by simpa using e0
                      have hd1 : (x1 == gg1) = false := by simpa using e1
                      clear e0 e1
                      go_wp2
                      go_quiet (fail)
                      have HI2 := hide (HI.out.next (low_drewQ wr nq))
                      clear c0 c1 d0 d1
                      clear y0 y1 y2 y3 y4 y5 v0 v1 v2 v3 v4 v5
                      generalize wr.drewN nq = wd at *
                      go_wp2
                      go_ret
                      exact ⟨by rw [HF.out]; rfl, HI2.out.bel⟩
                  · have HF := hide (HNE.out (fun h => e0 h.1))
                    have hd0 : (x0 == gg0) = false := by simpa using e0
                    clear e0
                    go_wp2
                    go_quiet (fail)
                    have HI2 := hide (HI.out.next (low_drewQ wr nq))
                    clear c0 c1 d0 d1
                    clear y0 y1 y2 y3 y4 y5 v0 v1 v2 v3 v4 v5
                    generalize wr.drewN nq = wd at *
                    go_wp2
                    go_ret
                    exact ⟨by rw [HF.out]; rfl, HI2.out.bel⟩
                · have hkn : k = x.n5 := by omega
                  subst hkn
                  have HE5 : Hid (s.joins = u.joins) := hide (getD_ext (0, 0) HI.out.sx.js.1 (HI.out.sy.js.1.trans HL5.out.symm) HK.out)
                  clear HK hk hlt
                  have HF : Hid (sameP s u = true) := hide (by simp [sameP, HE0.out, HE1.out, HE2.out, HE3.out, HE4.out, HE5.out])
                  go_wp2
                  go_ret
                  rw [HF.out]
                  exact ⟨rfl, HI.out.bel⟩
end Go.Proofs.YteiinkhdgppgbaaGreatDoor
