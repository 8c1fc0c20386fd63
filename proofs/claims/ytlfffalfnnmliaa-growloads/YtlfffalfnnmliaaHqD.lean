/- Contracts of a heap of pairs: leastOf, sink. -/
import Derived.Test.YtlfffalfnnmliaaHqC
namespace Go.Proofs.Ytlfffalfnnmliaa.Hq
open Go.RowKit Go.Proofs.Ytlfffalfnnmliaa
set_option linter.unusedVariables false
set_option linter.unusedSimpArgs false
attribute [local go_sem ↓] Go.wp_at_zero Go.wp_at_succ

/-- The least so far: of a thing and the first j of its children. -/
def LeastJ (l : List It) (a : Nat) (j : Nat) (m : Nat) : Prop :=
  (m = a ∨ (2 * a < m ∧ m ≤ 2 * a + j ∧ m < l.length ∧ ltB (gi l m) (gi l a) = true)) ∧ (∀ c, 2 * a < c → c ≤ 2 * a + j → c < l.length → ltB (gi l c) (gi l m) = false)

theorem LeastJ.zero (l : List It) (a : Nat) : LeastJ l a 0 a := ⟨Or.inl rfl, fun c h1 h2 => by omega⟩
theorem LeastJ.all {l : List It} {a m : Nat} (h : LeastJ l a 2 m) : Least l a m := by
  refine ⟨?_, fun c hc hl => h.2 c (by omega) (by omega) hl⟩
  rcases h.1 with h1 | ⟨h1, h2, h3, h4⟩
  · exact Or.inl h1
  · exact Or.inr ⟨by omega, h3, h4⟩
theorem LeastJ.stay {l : List It} {a j m : Nat} (h : LeastJ l a j m) (hs : 2 * a + j + 1 < l.length → ltB (gi l (2 * a + j + 1)) (gi l m) = false) : LeastJ l a (j + 1) m := by
  refine ⟨?_, fun c h1 h2 hl => ?_⟩
  · rcases h.1 with h1 | ⟨h1, h2, h3, h4⟩
    · exact Or.inl h1
    · exact Or.inr ⟨h1, by omega, h3, h4⟩
  · by_cases e : c = 2 * a + j + 1
    · rw [e] at hl ⊢; exact hs hl
    · exact h.2 c h1 (by omega) hl
theorem LeastJ.move {l : List It} {a j m : Nat} (h : LeastJ l a j m) (hl : 2 * a + j + 1 < l.length) (hs : ltB (gi l (2 * a + j + 1)) (gi l m) = true) : LeastJ l a (j + 1) (2 * a + j + 1) := by
  refine ⟨Or.inr ⟨by omega, by omega, hl, ?_⟩, fun c h1 h2 hc => ?_⟩
  · rcases h.1 with h1 | ⟨_, _, _, h4⟩
    · rw [h1] at hs; exact hs
    · rw [ltB_iff] at *; omega
  · by_cases e : c = 2 * a + j + 1
    · rw [e]; exact nl_refl _
    · exact nl_of_lt (h.2 c h1 (by omega) hc) hs

set_option maxRecDepth 20000 in
set_option maxHeartbeats 4000000 in
theorem leastOf_any (base p : Nat) (v : Value) (tn : Int) (l : List It) (w : World) (h : HAt 126 133 base p v tn l w) (a c1 c2 : Nat) (hc1 : Hid (c1 = 2 * a + 1)) (hc2 : Hid (c2 = 2 * a + 2)) (hn : l.length ≤ 1000000) :
    Calls Try.prog 74 #[.pointer (some ⟨p, 0, none⟩), .int .i64 a, .agg #[.int .i64 c1, .int .i64 c2]] w fun e w' => (∃ m : Nat, e = .returned (.int .i64 m) ∧ Least l a m) ∧ Below w.heap.size w w' := by
  obtain ⟨ao, cap, rfl, hv1, hv2, hv3, hv4⟩ := h.form
  obtain ⟨n, hln⟩ : ∃ n, l.length = n := ⟨_, rfl⟩
  rw [hln] at h hn
  go_enter Try.func74, Try.ntmps74
  go_wp2
  go_loopw [1, 10] (fun c i wr => ∃ (m j : Nat), c = .int .i64 m ∧ i = .int .i64 j ∧ j ≤ 2 ∧ LeastJ l a j m ∧ Below w.heap.size w wr) (fun _ i _ => 2 - (intOf i).toNat)
  case atStart => exact ⟨a, 0, rfl, rfl, by omega, LeastJ.zero l a, (Below.refl _ _).alloc (Nat.le_refl _) _⟩
  case round =>
    obtain ⟨m, j, rfl, rfl, hj, hLJ, hB⟩ := hrel
    have hH := h.kept hB
    rcases (show j = 0 ∨ j = 1 ∨ j = 2 by omega) with rfl | rfl | rfl
    · have hix := idx_zero (c1 : Int) (c2 : Int)
      by_cases hcn : c1 < n
      · have hmn : m < l.length := by
          rcases hLJ.1 with h1 | h1
          · have := hc1.out; omega
          · exact h1.2.2.1
        have hch : c1 < l.length := by omega
        obtain ⟨g, rfl, hg, hbg, hgp⟩ : ∃ g, ao = some ⟨g, 0, none⟩ ∧ g < w.heap.size ∧ base ≤ g ∧ g ≠ p := by
          cases ao with
          | none => have := (hv1 rfl).1; subst this; simp at hmn
          | some a1 => obtain ⟨g, e1, e2, e3, e4⟩ := hv2 a1 rfl; exact ⟨g, by rw [e1], e2, e3, e4⟩
        have hH' := hH
        rw [← hln] at hH'
        obtain ⟨i0, i1, i2, i3, _, _, _⟩ := hH'.at hch
        obtain ⟨j0, j1, j2, j3, _, _, _⟩ := hH'.at hmn
        clear hH'
        have hp0 := hH.cell0
        obtain ⟨x, hx⟩ : ∃ x, gi l c1 = x := ⟨_, rfl⟩
        obtain ⟨y, hy⟩ : ∃ y, gi l m = y := ⟨_, rfl⟩
        rw [hx] at i0 i1 i2 i3
        rw [hy] at j0 j1 j2 j3
        have HLT := hide (less_any x y wr.drew)
        have hk0 : (0 : Int) ≤ (c1 : Int) := by omega
        have hk1 : (c1 : Int) < (n : Int) := by omega
        have hm0 : (0 : Int) ≤ (m : Int) := by omega
        have hm1 : (m : Int) < (n : Int) := by omega
        have hgw : g < wr.heap.size := by have := hB.size; omega
        have hpw := hH.lt
        have hdc : decide ((c1 : Int) < (n : Int)) = true := by simpa using hk1
        have HX := hide hx
        have HY := hide hy
        have HLN := hide hln
        have HNX := hide hmn
        have HCX := hide hch
        clear hln hx hy i3 j3 hmn hch
        cases hlt : ltB x y with
        | false =>
          go_wp2
          go_region_held3 (fun W => W.cell? ⟨p, 0, none⟩ = some (.slice (some ⟨g, 0, none⟩) n cap) ∧ W.cell? ⟨g, c1 * 7, none⟩ = some (.int .i64 x.r) ∧ W.cell? ⟨g, c1 * 7 + 1, none⟩ = some (.int .i64 x.p) ∧ W.cell? ⟨g, c1 * 7 + 2, none⟩ = some (.int .i64 x.t) ∧ W.cell? ⟨g, m * 7, none⟩ = some (.int .i64 y.r) ∧ W.cell? ⟨g, m * 7 + 1, none⟩ = some (.int .i64 y.p) ∧ W.cell? ⟨g, m * 7 + 2, none⟩ = some (.int .i64 y.t)) (go_keep) (first | (go_at_call 72; refine (unhide HLT).mono ?_; rintro e w' ⟨rfl, hbl0⟩; have hbl : Below wr.heap.size wr w' := below_via hbl0 (below_drew wr); clear hbl0; obtain ⟨hcl, hfl⟩ := bcells hbl))
          go_wp2
          go_roundw
          case rel => exact ⟨m, 0 + 1, rfl, rfl, by omega, hLJ.stay (fun _ => by rw [show 2 * a + 0 + 1 = c1 by have := hc1.out; omega, HX.out, HY.out]; exact hlt), hB.trans (hbl.mono hB.size)⟩
          case measure => simp [intOf]
        | true =>
          go_wp2
          go_region_held3 (fun W => W.cell? ⟨p, 0, none⟩ = some (.slice (some ⟨g, 0, none⟩) n cap) ∧ W.cell? ⟨g, c1 * 7, none⟩ = some (.int .i64 x.r) ∧ W.cell? ⟨g, c1 * 7 + 1, none⟩ = some (.int .i64 x.p) ∧ W.cell? ⟨g, c1 * 7 + 2, none⟩ = some (.int .i64 x.t) ∧ W.cell? ⟨g, m * 7, none⟩ = some (.int .i64 y.r) ∧ W.cell? ⟨g, m * 7 + 1, none⟩ = some (.int .i64 y.p) ∧ W.cell? ⟨g, m * 7 + 2, none⟩ = some (.int .i64 y.t)) (go_keep) (first | (go_at_call 72; refine (unhide HLT).mono ?_; rintro e w' ⟨rfl, hbl0⟩; have hbl : Below wr.heap.size wr w' := below_via hbl0 (below_drew wr); clear hbl0; obtain ⟨hcl, hfl⟩ := bcells hbl))
          go_wp2
          go_roundw
          case rel =>
            have hmv := hLJ.move (show 2 * a + 0 + 1 < l.length by have := hc1.out; have := HLN.out; omega) (by rw [show 2 * a + 0 + 1 = c1 by have := hc1.out; omega, HX.out, HY.out]; exact hlt)
            rw [show 2 * a + 0 + 1 = c1 by have := hc1.out; omega] at hmv
            exact ⟨c1, 0 + 1, rfl, rfl, by omega, hmv, hB.trans (hbl.mono hB.size)⟩
          case measure => simp [intOf]
      · have hp0 := hH.cell0
        have hk1 : (n : Int) ≤ (c1 : Int) := by omega
        have hdc : decide ((c1 : Int) < (n : Int)) = false := by simp; omega
        have HLN := hide hln
        clear hln
        go_wp2
        go_quiet (fail)
        go_wp2
        go_roundw
        case rel => exact ⟨m, 0 + 1, rfl, rfl, by omega, hLJ.stay (fun hx => by have := hc1.out; have := HLN.out; omega), below_drewN hB _⟩
        case measure => simp [intOf]
    · have hix := idx_one (c1 : Int) (c2 : Int)
      by_cases hcn : c2 < n
      · have hmn : m < l.length := by
          rcases hLJ.1 with h1 | h1
          · have := hc2.out; omega
          · exact h1.2.2.1
        have hch : c2 < l.length := by omega
        obtain ⟨g, rfl, hg, hbg, hgp⟩ : ∃ g, ao = some ⟨g, 0, none⟩ ∧ g < w.heap.size ∧ base ≤ g ∧ g ≠ p := by
          cases ao with
          | none => have := (hv1 rfl).1; subst this; simp at hmn
          | some a1 => obtain ⟨g, e1, e2, e3, e4⟩ := hv2 a1 rfl; exact ⟨g, by rw [e1], e2, e3, e4⟩
        have hH' := hH
        rw [← hln] at hH'
        obtain ⟨i0, i1, i2, i3, _, _, _⟩ := hH'.at hch
        obtain ⟨j0, j1, j2, j3, _, _, _⟩ := hH'.at hmn
        clear hH'
        have hp0 := hH.cell0
        obtain ⟨x, hx⟩ : ∃ x, gi l c2 = x := ⟨_, rfl⟩
        obtain ⟨y, hy⟩ : ∃ y, gi l m = y := ⟨_, rfl⟩
        rw [hx] at i0 i1 i2 i3
        rw [hy] at j0 j1 j2 j3
        have HLT := hide (less_any x y wr.drew)
        have hk0 : (0 : Int) ≤ (c2 : Int) := by omega
        have hk1 : (c2 : Int) < (n : Int) := by omega
        have hm0 : (0 : Int) ≤ (m : Int) := by omega
        have hm1 : (m : Int) < (n : Int) := by omega
        have hgw : g < wr.heap.size := by have := hB.size; omega
        have hpw := hH.lt
        have hdc : decide ((c2 : Int) < (n : Int)) = true := by simpa using hk1
        have HX := hide hx
        have HY := hide hy
        have HLN := hide hln
        have HNX := hide hmn
        have HCX := hide hch
        clear hln hx hy i3 j3 hmn hch
        cases hlt : ltB x y with
        | false =>
          go_wp2
          go_region_held3 (fun W => W.cell? ⟨p, 0, none⟩ = some (.slice (some ⟨g, 0, none⟩) n cap) ∧ W.cell? ⟨g, c2 * 7, none⟩ = some (.int .i64 x.r) ∧ W.cell? ⟨g, c2 * 7 + 1, none⟩ = some (.int .i64 x.p) ∧ W.cell? ⟨g, c2 * 7 + 2, none⟩ = some (.int .i64 x.t) ∧ W.cell? ⟨g, m * 7, none⟩ = some (.int .i64 y.r) ∧ W.cell? ⟨g, m * 7 + 1, none⟩ = some (.int .i64 y.p) ∧ W.cell? ⟨g, m * 7 + 2, none⟩ = some (.int .i64 y.t)) (go_keep) (first | (go_at_call 72; refine (unhide HLT).mono ?_; rintro e w' ⟨rfl, hbl0⟩; have hbl : Below wr.heap.size wr w' := below_via hbl0 (below_drew wr); clear hbl0; obtain ⟨hcl, hfl⟩ := bcells hbl))
          go_wp2
          go_roundw
          case rel => exact ⟨m, 1 + 1, rfl, rfl, by omega, hLJ.stay (fun _ => by rw [show 2 * a + 1 + 1 = c2 by have := hc2.out; omega, HX.out, HY.out]; exact hlt), hB.trans (hbl.mono hB.size)⟩
          case measure => simp [intOf]
        | true =>
          go_wp2
          go_region_held3 (fun W => W.cell? ⟨p, 0, none⟩ = some (.slice (some ⟨g, 0, none⟩) n cap) ∧ W.cell? ⟨g, c2 * 7, none⟩ = some (.int .i64 x.r) ∧ W.cell? ⟨g, c2 * 7 + 1, none⟩ = some (.int .i64 x.p) ∧ W.cell? ⟨g, c2 * 7 + 2, none⟩ = some (.int .i64 x.t) ∧ W.cell? ⟨g, m * 7, none⟩ = some (.int .i64 y.r) ∧ W.cell? ⟨g, m * 7 + 1, none⟩ = some (.int .i64 y.p) ∧ W.cell? ⟨g, m * 7 + 2, none⟩ = some (.int .i64 y.t)) (go_keep) (first | (go_at_call 72; refine (unhide HLT).mono ?_; rintro e w' ⟨rfl, hbl0⟩; have hbl : Below wr.heap.size wr w' := below_via hbl0 (below_drew wr); clear hbl0; obtain ⟨hcl, hfl⟩ := bcells hbl))
          go_wp2
          go_roundw
          case rel =>
            have hmv := hLJ.move (show 2 * a + 1 + 1 < l.length by have := hc2.out; have := HLN.out; omega) (by rw [show 2 * a + 1 + 1 = c2 by have := hc2.out; omega, HX.out, HY.out]; exact hlt)
            rw [show 2 * a + 1 + 1 = c2 by have := hc2.out; omega] at hmv
            exact ⟨c2, 1 + 1, rfl, rfl, by omega, hmv, hB.trans (hbl.mono hB.size)⟩
          case measure => simp [intOf]
      · have hp0 := hH.cell0
        have hk1 : (n : Int) ≤ (c2 : Int) := by omega
        have hdc : decide ((c2 : Int) < (n : Int)) = false := by simp; omega
        have HLN := hide hln
        clear hln
        go_wp2
        go_quiet (fail)
        go_wp2
        go_roundw
        case rel => exact ⟨m, 1 + 1, rfl, rfl, by omega, hLJ.stay (fun hx => by have := hc2.out; have := HLN.out; omega), below_drewN hB _⟩
        case measure => simp [intOf]
    · go_wp2
      go_ret
      exact ⟨⟨m, rfl, hLJ.all⟩, hB⟩

set_option maxRecDepth 20000 in
set_option maxHeartbeats 4000000 in
theorem sink_any (base p : Nat) (v : Value) (tn : Int) (l : List It) (w : World) (h : HAt 126 133 base p v tn l w) (hS : SI l 0) (hn : l.length ≤ 1000000) :
    Calls Try.prog 70 #[.pointer (some ⟨p, 0, none⟩), .int .i64 0] w fun e w' => e = .returned (.tuple #[]) ∧ ∃ l', HAt 126 133 base p v tn l' w' ∧ Hp l' ∧ l'.Perm l ∧ Fr p v w w' := by
  go_enter Try.func70, Try.ntmps70
  go_wp2
  go_loopw [1] (fun c wr => ∃ (k : Nat) (l1 : List It), c = .int .i64 k ∧ k ≤ 1000000 ∧ HAt 126 133 base p v tn l1 wr ∧ SI l1 k ∧ l1.Perm l ∧ Fr p v w wr) (fun c _ => l.length - (intOf c).toNat)
  case atStart => exact ⟨0, l, rfl, by omega, h, hS, List.Perm.refl _, Fr.refl _ _ _⟩
  case round =>
    obtain ⟨k, l1, rfl, hkn, hH, hSI, hP, hF⟩ := hrel
    have HL := hide hP.length_eq
    go_wp2_with fail
    refine (children_nat k wr (by omega)).mono ?_
    rintro e w1 ⟨⟨c1, c2, rfl, hc1, hc2⟩, hb1⟩
    have hH1 := hH.kept hb1
    have hF1 := hF.trans' (Fr.ofBelow hb1)
    clear hH hF hb1
    go_wp2_with fail
    refine (leastOf_any base p v tn l1 w1 hH1 k c1 c2 hc1 hc2 (by rw [HL.out]; exact hn)).mono ?_
    rintro e w2 ⟨⟨m, rfl, hL⟩, hb2⟩
    have hH2 := hH1.kept hb2
    have hF2 := hF1.trans' (Fr.ofBelow hb2)
    clear hH1 hF1 hb2
    by_cases hmk : m = k
    · subst hmk
      go_wp2
      (try simp only [Exit.inBlock, Exit.then])
      refine bodyPost_ret (results_none rfl _ _ _) rfl ?_
      exact ⟨rfl, l1, hH2, hSI.done hL, hP, hF2⟩
    · have hne : ((m : Int) == (k : Int)) = false := by simp; omega
      obtain ⟨HSI, hkm, hml⟩ := hSI.step hL hmk
      go_wp2_with fail
      refine (swap_any base p v tn l1 w2 hH2 k m (by omega) hml (by omega) (by rw [HL.out]; exact hn)).mono ?_
      rintro e w3 ⟨rfl, hH3, hF3⟩
      go_wp2
      go_roundw
      case rel => exact ⟨m, _, rfl, by have := HL.out; omega, hH3, HSI, (swp_perm l1 (by omega) hml).trans hP, hF2.trans' hF3⟩
      case measure => simp [intOf]; have := HL.out; omega

end Go.Proofs.Ytlfffalfnnmliaa.Hq
