/- Contracts: order.less, parent, children. Contracts of a heap of pairs: swap. Contracts of a heap of pairs: rise. Contracts of a heap of pairs: leastOf, sink. Contracts of a heap of pairs: takeTop. -/
import Derived.Test.YtdpmjaelbjjanaaGreatProg
import Derived.Test.YtdpmjaelbjjanaaGreatZQa15
import Derived.BigRegion
namespace Go.Proofs.YtdpmjaelbjjanaaGreat.Hq
open Go.RowKit Go.Proofs.YtdpmjaelbjjanaaGreat
set_option linter.unusedVariables false
set_option linter.unusedSimpArgs false

theorem ltB_r {a b : It} (h : ¬ a.r = b.r) : ltB a b = decide (a.r < b.r) := by
  unfold ltB; congr 1; apply propext; omega
theorem ltB_p {a b : It} (h0 : a.r = b.r) (h : ¬ a.p = b.p) : ltB a b = decide (a.p < b.p) := by
  unfold ltB; congr 1; apply propext; omega
theorem ltB_t {a b : It} (h0 : a.r = b.r) (h : a.p = b.p) : ltB a b = decide (a.t < b.t) := by
  unfold ltB; congr 1; apply propext; omega
theorem ret_int {k : IntKind} {a b : Int} (h : a = b) : Ending.returned (.int k a) = .returned (.int k b) := by rw [h]
theorem ret_bool {a b : Bool} (h : a = b) : Ending.returned (.bool a) = .returned (.bool b) := by rw [h]

set_option maxHeartbeats 1000000 in
theorem less_raw (r1 p1 t1 r2 p2 t2 : Int) (w : World) :
    Calls Tryz.prog 194 #[.agg #[.int .i64 r1, .int .i64 p1, .int .i64 t1], .agg #[.int .i64 r2, .int .i64 p2, .int .i64 t2]] w fun e w' => e = .returned (.bool (ltB ⟨r1, p1, t1, 0, 0, 0, 0⟩ ⟨r2, p2, t2, 0, 0, 0, 0⟩)) ∧ Below w.heap.size w w' := by
  have B2 : ∀ o1 o2, Below w.heap.size w ((w.alloc o1).alloc o2) := fun o1 o2 => ((Below.refl _ _).alloc (Nat.le_refl _) _).alloc (by simp) _
  by_cases h1 : r1 = r2
  · subst h1
    by_cases h2 : p1 = p2
    · subst h2
      go_enter Tryz.func194, Tryz.ntmps194
      go_wp2
      go_ret
      exact ⟨ret_bool (ltB_t (a := ⟨r1, p1, t1, 0, 0, 0, 0⟩) (b := ⟨r1, p1, t2, 0, 0, 0, 0⟩) rfl rfl).symm, B2 _ _⟩
    · have hb : (p1 == p2) = false := by simpa using h2
      have hb' : (p1 != p2) = true := by simpa using h2
      go_enter Tryz.func194, Tryz.ntmps194
      go_wp2
      go_ret
      exact ⟨ret_bool (ltB_p (a := ⟨r1, p1, t1, 0, 0, 0, 0⟩) (b := ⟨r1, p2, t2, 0, 0, 0, 0⟩) rfl h2).symm, B2 _ _⟩
  · have hb' : (r1 != r2) = true := by simpa using h1
    go_enter Tryz.func194, Tryz.ntmps194
    go_wp2
    go_ret
    exact ⟨ret_bool (ltB_r (a := ⟨r1, p1, t1, 0, 0, 0, 0⟩) (b := ⟨r2, p2, t2, 0, 0, 0, 0⟩) h1).symm, B2 _ _⟩

theorem less_any (a b : It) (w : World) :
    Calls Tryz.prog 194 #[.agg #[.int .i64 a.r, .int .i64 a.p, .int .i64 a.t], .agg #[.int .i64 b.r, .int .i64 b.p, .int .i64 b.t]] w fun e w' => e = .returned (.bool (ltB a b)) ∧ Below w.heap.size w w' := less_raw _ _ _ _ _ _ w

theorem parent_any (k : Nat) (w : World) (h0 : 0 < k) (h : k ≤ 1000000000) :
    Calls Tryz.prog 193 #[.int .i64 k] w fun e w' => e = .returned (.int .i64 ((k - 1) / 2 : Nat)) ∧ w' = w := by
  go_enter Tryz.func193, Tryz.ntmps193
  go_wp2
  go_ret
  exact ⟨ret_int (by omega), rfl⟩

theorem children_any (k : Nat) (w : World) (h : k ≤ 1000000000) :
    Calls Tryz.prog 197 #[.int .i64 k] w fun e w' => e = .returned (.agg #[.int .i64 (2 * (k : Int) + 1), .int .i64 (2 * (k : Int) + 2)]) ∧ Below w.heap.size w w' := by
  go_enter Tryz.func197, Tryz.ntmps197
  go_wp2
  exact bodyPost_ret (v := .agg #[.int .i64 (2 * (k : Int) + 1), .int .i64 (2 * (k : Int) + 2)]) (by simp [results, Tryz.results197, go_sem]) rfl ⟨rfl, (Below.refl _ _).alloc (Nat.le_refl _) _⟩

theorem idx_zero (c1 c2 : Int) (w : World) : Sem.run Tryz.prog (Instr.index 287 (.agg #[.int .i64 c1, .int .i64 c2]) (.int .i64 0)) w = .ok (.int .i64 c1) w := by
  simp [Instr.index, run_underlying Tryz.underlying287, asIntOf, go_sem, part]
theorem idx_one (c1 c2 : Int) (w : World) : Sem.run Tryz.prog (Instr.index 287 (.agg #[.int .i64 c1, .int .i64 c2]) (.int .i64 1)) w = .ok (.int .i64 c2) w := by
  simp [Instr.index, run_underlying Tryz.underlying287, asIntOf, go_sem, part]

theorem children_nat (k : Nat) (w : World) (h : k ≤ 1000000000) :
    Calls Tryz.prog 197 #[.int .i64 k] w fun e w' => (∃ c1 c2 : Nat, e = .returned (.agg #[.int .i64 c1, .int .i64 c2]) ∧ Hid (c1 = 2 * k + 1) ∧ Hid (c2 = 2 * k + 2)) ∧ Below w.heap.size w w' := by
  refine (children_any k w h).mono ?_
  rintro e w' ⟨rfl, hb⟩
  exact ⟨⟨2 * k + 1, 2 * k + 2, by simp, hide rfl, hide rfl⟩, hb⟩

end Go.Proofs.YtdpmjaelbjjanaaGreat.Hq

namespace Go.Proofs.YtdpmjaelbjjanaaGreat.Hq
open Go.RowKit Go.Proofs.YtdpmjaelbjjanaaGreat
set_option linter.unusedVariables false
set_option linter.unusedSimpArgs false
attribute [local go_sem ↓] Go.wp_at_zero Go.wp_at_succ

set_option maxHeartbeats 2000000 in
theorem swap_any (base p : Nat) (v : Value) (tn : Int) (l : List It) (w : World) (h : HAt 267 279 base p v tn l w) (i j : Nat) (hi : i < l.length) (hj : j < l.length) (hne : i ≠ j) (hn : l.length ≤ 1000000) :
    Calls Tryz.prog 195 #[.pointer (some ⟨p, 0, none⟩), .int .i64 i, .int .i64 j] w fun e w' => e = .returned (.tuple #[]) ∧ HAt 267 279 base p v tn (swp l i j) w' ∧ Fr p v w w' := by
  obtain ⟨g, cap, rfl, hg, hbg, hgp, hc1, hc2⟩ := h.pos (by omega)
  obtain ⟨i0, i1, i2, i3, i4, i5, i6⟩ := h.at hi
  obtain ⟨j0, j1, j2, j3, j4, j5, j6⟩ := h.at hj
  have hp0 := h.cell0
  obtain ⟨n, hln⟩ : ∃ n, l.length = n := ⟨_, rfl⟩
  obtain ⟨a, ha⟩ : ∃ a, gi l i = a := ⟨_, rfl⟩
  obtain ⟨b, hb⟩ : ∃ b, gi l j = b := ⟨_, rfl⟩
  rw [ha] at i0 i1 i2 i3 i4 i5 i6
  rw [hb] at j0 j1 j2 j3 j4 j5 j6
  rw [hln] at hp0 hi hj
  have hfz : ∀ o, w.frozen? ⟨g, o, none⟩ = false := fun o => h.row.frozenAt o
  have hi0 : (0 : Int) ≤ (i : Int) := by omega
  have hj0 : (0 : Int) ≤ (j : Int) := by omega
  have hin : (i : Int) < (n : Int) := by omega
  have hjn : (j : Int) < (n : Int) := by omega
  have H := hide h
  have HL := hide hln
  have HA := hide ha
  have HB := hide hb
  clear h hln ha hb
  go_enter Tryz.func195, Tryz.ntmps195
  go_wp2
  go_region
  have h := unhide H
  have hln := unhide HL
  have ha := unhide HA
  have hb := unhide HB
  have h1 := h.put (show i < l.length by omega) b
  have h2 := h1.put (show j < (l.set i b).length by simp; omega) a
  have F : Fr p (.slice (some ⟨g, 0, none⟩) l.length cap) w w := Fr.refl _ _ _
  go_end0
  refine ⟨rfl, ?_, ?_⟩
  · have e : swp l i j = (l.set i b).set j a := by unfold swp; rw [ha, hb]
    rw [e]
    exact h2.drew
  · exact ((F.put rfl b).put rfl a).drew

end Go.Proofs.YtdpmjaelbjjanaaGreat.Hq

namespace Go.Proofs.YtdpmjaelbjjanaaGreat.Hq
open Go.RowKit Go.Proofs.YtdpmjaelbjjanaaGreat
set_option linter.unusedVariables false
set_option linter.unusedSimpArgs false
attribute [local go_sem ↓] Go.wp_at_zero Go.wp_at_succ

set_option maxHeartbeats 4000000 in
theorem rise_any (base p : Nat) (v : Value) (tn : Int) (l : List It) (w : World) (h : HAt 267 279 base p v tn l w) (k0 : Nat) (hR : RI l k0) (hn : l.length ≤ 1000000) :
    Calls Tryz.prog 183 #[.pointer (some ⟨p, 0, none⟩), .int .i64 k0] w fun e w' => e = .returned (.tuple #[]) ∧ ∃ l', HAt 267 279 base p v tn l' w' ∧ Hp l' ∧ l'.Perm l ∧ Fr p v w w' := by
  obtain ⟨g, cap, rfl, hg, hbg, hgp, hc1, hc2⟩ := h.pos (by have := hR.1; omega)
  obtain ⟨n, hln⟩ : ∃ n, l.length = n := ⟨_, rfl⟩
  rw [hln] at h hn hc1 ⊢
  go_enter Tryz.func183, Tryz.ntmps183
  go_wp2
  go_loopw [1] (fun c wr => ∃ (k : Nat) (l1 : List It), c = .int .i64 k ∧ k < n ∧ HAt 267 279 base p (.slice (some ⟨g, 0, none⟩) n cap) tn l1 wr ∧ RI l1 k ∧ l1.Perm l ∧ Fr p (.slice (some ⟨g, 0, none⟩) n cap) w wr) (fun c _ => (intOf c).toNat)
  case atStart => exact ⟨k0, l, rfl, by have := hR.1; omega, h, hR, List.Perm.refl _, Fr.refl _ _ _⟩
  case round =>
    obtain ⟨k, l1, rfl, hkn, hH, hRI, hP, hF⟩ := hrel
    have hl1 : l1.length = n := by rw [hP.length_eq, hln]
    by_cases h0 : 0 < k
    · have hpl : (k - 1) / 2 < l1.length := by omega
      have hH' := hH
      rw [← hl1] at hH'
      obtain ⟨i0, i1, i2, i3, _, _, _⟩ := hH'.at (show k < l1.length by omega)
      obtain ⟨j0, j1, j2, j3, _, _, _⟩ := hH'.at hpl
      clear hH'
      obtain ⟨q, hq, hqn⟩ : ∃ q, (k - 1) / 2 = q ∧ q < n := ⟨_, rfl, by omega⟩
      have hp0 := hH.cell0
      obtain ⟨a, ha⟩ : ∃ a, gi l1 k = a := ⟨_, rfl⟩
      obtain ⟨b, hb⟩ : ∃ b, gi l1 ((k - 1) / 2) = b := ⟨_, rfl⟩
      rw [ha] at i0 i1 i2 i3
      rw [hb, hq] at j0 j1 j2 j3
      have HPA := hide (parent_any k wr h0 (by omega))
      rw [hq] at HPA
      have HLT := hide (less_any a b wr.drew)
      have hk0 : (0 : Int) < (k : Int) := by omega
      have hk1 : (k : Int) < (n : Int) := by omega
      have hq0 : (0 : Int) ≤ (q : Int) := by omega
      have hq1 : (q : Int) < (n : Int) := by omega
      have hgw : g < wr.heap.size := by have := hF.size; omega
      have hpw := hH.lt
      have HL1 := hide hl1
      have HQ := hide hq
      have HA := hide ha
      have HB := hide hb
      clear hl1 hq ha hb i3 j3
      cases hlt : ltB a b with
      | false =>
        go_wp2_with (go_at_call 193; refine (unhide HPA).mono ?_; rintro e w' ⟨rfl, hw⟩; have hw2 := hw.symm; clear hw; subst hw2)
        go_region_held3 (fun W => W.cell? ⟨p, 0, none⟩ = some (.slice (some ⟨g, 0, none⟩) n cap) ∧ W.cell? ⟨g, k * 7, none⟩ = some (.int .i64 a.r) ∧ W.cell? ⟨g, k * 7 + 1, none⟩ = some (.int .i64 a.p) ∧ W.cell? ⟨g, k * 7 + 2, none⟩ = some (.int .i64 a.t) ∧ W.cell? ⟨g, q * 7, none⟩ = some (.int .i64 b.r) ∧ W.cell? ⟨g, q * 7 + 1, none⟩ = some (.int .i64 b.p) ∧ W.cell? ⟨g, q * 7 + 2, none⟩ = some (.int .i64 b.t)) (go_keep) (first | (go_at_call 194; refine (unhide HLT).mono ?_; rintro e w' ⟨rfl, hbl0⟩; have hbl : Below wr.heap.size wr w' := below_via hbl0 (below_drew wr); clear hbl0; obtain ⟨hcl, hfl⟩ := bcells hbl))
        go_wp2
        (try simp only [Exit.inBlock, Exit.then])
        refine bodyPost_ret (results_none rfl _ _ _) rfl ?_
        refine ⟨rfl, l1, hH.kept hbl, hRI.done (Or.inr ?_), hP, hF.trans' (Fr.ofBelow hbl)⟩
        rw [HA.out, HB.out]
        exact hlt
      | true =>
        have HSI := hRI.step h0 (by rw [HA.out, HB.out]; exact hlt)
        rw [HQ.out] at HSI
        go_wp2_with (go_at_call 193; refine (unhide HPA).mono ?_; rintro e w' ⟨rfl, hw⟩; have hw2 := hw.symm; clear hw; subst hw2)
        go_region_held3 (fun W => W.cell? ⟨p, 0, none⟩ = some (.slice (some ⟨g, 0, none⟩) n cap) ∧ W.cell? ⟨g, k * 7, none⟩ = some (.int .i64 a.r) ∧ W.cell? ⟨g, k * 7 + 1, none⟩ = some (.int .i64 a.p) ∧ W.cell? ⟨g, k * 7 + 2, none⟩ = some (.int .i64 a.t) ∧ W.cell? ⟨g, q * 7, none⟩ = some (.int .i64 b.r) ∧ W.cell? ⟨g, q * 7 + 1, none⟩ = some (.int .i64 b.p) ∧ W.cell? ⟨g, q * 7 + 2, none⟩ = some (.int .i64 b.t)) (go_keep) (first | (go_at_call 194; refine (unhide HLT).mono ?_; rintro e w' ⟨rfl, hbl0⟩; have hbl : Below wr.heap.size wr w' := below_via hbl0 (below_drew wr); clear hbl0; obtain ⟨hcl, hfl⟩ := bcells hbl))
        have hH2 := hH.kept hbl
        go_wp2_with fail
        refine (swap_any base p _ tn l1 w' hH2 k q (by rw [HL1.out]; omega) (by rw [HL1.out]; omega) (by have := HQ.out; omega) (by rw [HL1.out]; omega)).mono ?_
        rintro e w2 ⟨rfl, hH3, hF3⟩
        go_wp2
        go_roundw
        case rel => exact ⟨q, _, rfl, hqn, hH3, HSI, (swp_perm l1 (by rw [HL1.out]; omega) (by rw [HL1.out]; omega)).trans hP, (hF.trans' (Fr.ofBelow hbl)).trans' hF3⟩
        case measure => simp [intOf]; have := HQ.out; omega
    · have hk : k = 0 := by omega
      subst hk
      go_wp2
      go_end0
      exact ⟨rfl, l1, hH, hRI.done (Or.inl rfl), hP, hF⟩

end Go.Proofs.YtdpmjaelbjjanaaGreat.Hq

namespace Go.Proofs.YtdpmjaelbjjanaaGreat.Hq
open Go.RowKit Go.Proofs.YtdpmjaelbjjanaaGreat
set_option linter.unusedVariables false
set_option linter.unusedSimpArgs false
attribute [local go_sem ↓] Go.wp_at_zero Go.wp_at_succ

/-- The least so far: of a thing and the first j of its children. -/
def LeastJ (l : List It) (a : Nat) (j : Nat) (m : Nat) : Prop :=
  (m = a ∨ (2 * a < m ∧ m ≤ 2 * a + j ∧ m < l.length ∧ ltB (gi l m) (gi l a) = true)) ∧ (∀ c, 2 * a < c → c ≤ 2 * a + j → c < l.length → ltB (gi l c) (gi l m) = false)

theorem LeastJ.zero (l : List It) (a : Nat) : LeastJ l a 0 a := ⟨Or.inl rfl, fun c h1 h2 => by omega⟩
theorem LeastJ.all {l : List It} {a m : Nat} (h : LeastJ l a 2 m) : Least l a m := by
  refine ⟨?_, fun c hc hl => h.2 c (by omega) (by omega) hl⟩
  rcases h.1 with h1 | ⟨h1, h2, h3, h4⟩
  · exact Or.inl h1
  · exact Or.inr ⟨by omega, h3, h4⟩
theorem LeastJ.stay {l : List It} {a j m : Nat} (h : LeastJ l a j m) (hs : 2 * a + j + 1 < l.length → ltB (gi l (2 * a + j + 1)) (gi l m) = false) : LeastJ l a (j + 1) m := by
  refine ⟨?_, fun c h1 h2 hl => ?_⟩
  · rcases h.1 with h1 | ⟨h1, h2, h3, h4⟩
    · exact Or.inl h1
    · exact Or.inr ⟨h1, by omega, h3, h4⟩
  · by_cases e : c = 2 * a + j + 1
    · rw [e] at hl ⊢; exact hs hl
    · exact h.2 c h1 (by omega) hl
theorem LeastJ.move {l : List It} {a j m : Nat} (h : LeastJ l a j m) (hl : 2 * a + j + 1 < l.length) (hs : ltB (gi l (2 * a + j + 1)) (gi l m) = true) : LeastJ l a (j + 1) (2 * a + j + 1) := by
  refine ⟨Or.inr ⟨by omega, by omega, hl, ?_⟩, fun c h1 h2 hc => ?_⟩
  · rcases h.1 with h1 | ⟨_, _, _, h4⟩
    · rw [h1] at hs; exact hs
    · rw [ltB_iff] at *; omega
  · by_cases e : c = 2 * a + j + 1
    · rw [e]; exact nl_refl _
    · exact nl_of_lt (h.2 c h1 (by omega) hc) hs

set_option maxRecDepth 20000 in
set_option maxHeartbeats 4000000 in
theorem leastOf_any (base p : Nat) (v : Value) (tn : Int) (l : List It) (w : World) (h : HAt 267 279 base p v tn l w) (a c1 c2 : Nat) (hc1 : Hid (c1 = 2 * a + 1)) (hc2 : Hid (c2 = 2 * a + 2)) (hn : l.length ≤ 1000000) :
    Calls Tryz.prog 196 #[.pointer (some ⟨p, 0, none⟩), .int .i64 a, .agg #[.int .i64 c1, .int .i64 c2]] w fun e w' => (∃ m : Nat, e = .returned (.int .i64 m) ∧ Least l a m) ∧ Below w.heap.size w w' := by
  obtain ⟨ao, cap, rfl, hv1, hv2, hv3, hv4⟩ := h.form
  obtain ⟨n, hln⟩ : ∃ n, l.length = n := ⟨_, rfl⟩
  rw [hln] at h hn
  go_enter Tryz.func196, Tryz.ntmps196
  go_wp2
  go_loopw [1, 10] (fun c i wr => ∃ (m j : Nat), c = .int .i64 m ∧ i = .int .i64 j ∧ j ≤ 2 ∧ LeastJ l a j m ∧ Below w.heap.size w wr) (fun _ i _ => 2 - (intOf i).toNat)
  case atStart => exact ⟨a, 0, rfl, rfl, by omega, LeastJ.zero l a, (Below.refl _ _).alloc (Nat.le_refl _) _⟩
  case round =>
    obtain ⟨m, j, rfl, rfl, hj, hLJ, hB⟩ := hrel
    have hH := h.kept hB
    rcases (show j = 0 ∨ j = 1 ∨ j = 2 by omega) with rfl | rfl | rfl
    · have hix := idx_zero (c1 : Int) (c2 : Int)
      by_cases hcn : c1 < n
      · have hmn : m < l.length := by
          rcases hLJ.1 with h1 | h1
          · have := hc1.out; omega
          · exact h1.2.2.1
        have hch : c1 < l.length := by omega
        obtain ⟨g, rfl, hg, hbg, hgp⟩ : ∃ g, ao = some ⟨g, 0, none⟩ ∧ g < w.heap.size ∧ base ≤ g ∧ g ≠ p := by
          cases ao with
          | none => have := (hv1 rfl).1; subst this; simp at hmn
          | some a1 => obtain ⟨g, e1, e2, e3, e4⟩ := hv2 a1 rfl; exact ⟨g, by rw [e1], e2, e3, e4⟩
        have hH' := hH
        rw [← hln] at hH'
        obtain ⟨i0, i1, i2, i3, _, _, _⟩ := hH'.at hch
        obtain ⟨j0, j1, j2, j3, _, _, _⟩ := hH'.at hmn
        clear hH'
        have hp0 := hH.cell0
        obtain ⟨x, hx⟩ : ∃ x, gi l c1 = x := ⟨_, rfl⟩
        obtain ⟨y, hy⟩ : ∃ y, gi l m = y := ⟨_, rfl⟩
        rw [hx] at i0 i1 i2 i3
        rw [hy] at j0 j1 j2 j3
        have HLT := hide (less_any x y wr.drew)
        have hk0 : (0 : Int) ≤ (c1 : Int) := by omega
        have hk1 : (c1 : Int) < (n : Int) := by omega
        have hm0 : (0 : Int) ≤ (m : Int) := by omega
        have hm1 : (m : Int) < (n : Int) := by omega
        have hgw : g < wr.heap.size := by have := hB.size; omega
        have hpw := hH.lt
        have hdc : decide ((c1 : Int) < (n : Int)) = true := by simpa using hk1
        have HX := hide hx
        have HY := hide hy
        have HLN := hide hln
        have HNX := hide hmn
        have HCX := hide hch
        clear hln hx hy i3 j3 hmn hch
        cases hlt : ltB x y with
        | false =>
          go_wp2
          go_region_held3 (fun W => W.cell? ⟨p, 0, none⟩ = some (.slice (some ⟨g, 0, none⟩) n cap) ∧ W.cell? ⟨g, c1 * 7, none⟩ = some (.int .i64 x.r) ∧ W.cell? ⟨g, c1 * 7 + 1, none⟩ = some (.int .i64 x.p) ∧ W.cell? ⟨g, c1 * 7 + 2, none⟩ = some (.int .i64 x.t) ∧ W.cell? ⟨g, m * 7, none⟩ = some (.int .i64 y.r) ∧ W.cell? ⟨g, m * 7 + 1, none⟩ = some (.int .i64 y.p) ∧ W.cell? ⟨g, m * 7 + 2, none⟩ = some (.int .i64 y.t)) (go_keep) (first | (go_at_call 194; refine (unhide HLT).mono ?_; rintro e w' ⟨rfl, hbl0⟩; have hbl : Below wr.heap.size wr w' := below_via hbl0 (below_drew wr); clear hbl0; obtain ⟨hcl, hfl⟩ := bcells hbl))
          go_wp2
          go_roundw
          case rel => exact ⟨m, 0 + 1, rfl, rfl, by omega, hLJ.stay (fun _ => by rw [show 2 * a + 0 + 1 = c1 by have := hc1.out; omega, HX.out, HY.out]; exact hlt), hB.trans (hbl.mono hB.size)⟩
          case measure => simp [intOf]
        | true =>
          go_wp2
          go_region_held3 (fun W => W.cell? ⟨p, 0, none⟩ = some (.slice (some ⟨g, 0, none⟩) n cap) ∧ W.cell? ⟨g, c1 * 7, none⟩ = some (.int .i64 x.r) ∧ W.cell? ⟨g, c1 * 7 + 1, none⟩ = some (.int .i64 x.p) ∧ W.cell? ⟨g, c1 * 7 + 2, none⟩ = some (.int .i64 x.t) ∧ W.cell? ⟨g, m * 7, none⟩ = some (.int .i64 y.r) ∧ W.cell? ⟨g, m * 7 + 1, none⟩ = some (.int .i64 y.p) ∧ W.cell? ⟨g, m * 7 + 2, none⟩ = some (.int .i64 y.t)) (go_keep) (first | (go_at_call 194; refine (unhide HLT).mono ?_; rintro e w' ⟨rfl, hbl0⟩; have hbl : Below wr.heap.size wr w' := below_via hbl0 (below_drew wr); clear hbl0; obtain ⟨hcl, hfl⟩ := bcells hbl))
          go_wp2
          go_roundw
          case rel =>
            have hmv := hLJ.move (show 2 * a + 0 + 1 < l.length by have := hc1.out; have := HLN.out; omega) (by rw [show 2 * a + 0 + 1 = c1 by have := hc1.out; omega, HX.out, HY.out]; exact hlt)
            rw [show 2 * a + 0 + 1 = c1 by have := hc1.out; omega] at hmv
            exact ⟨c1, 0 + 1, rfl, rfl, by omega, hmv, hB.trans (hbl.mono hB.size)⟩
          case measure => simp [intOf]
      · have hp0 := hH.cell0
        have hk1 : (n : Int) ≤ (c1 : Int) := by omega
        have hdc : decide ((c1 : Int) < (n : Int)) = false := by simp; omega
        have HLN := hide hln
        clear hln
        go_wp2
        go_quiet (fail)
        go_wp2
        go_roundw
        case rel => exact ⟨m, 0 + 1, rfl, rfl, by omega, hLJ.stay (fun hx => by have := hc1.out; have := HLN.out; omega), below_drewN hB _⟩
        case measure => simp [intOf]
    · have hix := idx_one (c1 : Int) (c2 : Int)
      by_cases hcn : c2 < n
      · have hmn : m < l.length := by
          rcases hLJ.1 with h1 | h1
          · have := hc2.out; omega
          · exact h1.2.2.1
        have hch : c2 < l.length := by omega
        obtain ⟨g, rfl, hg, hbg, hgp⟩ : ∃ g, ao = some ⟨g, 0, none⟩ ∧ g < w.heap.size ∧ base ≤ g ∧ g ≠ p := by
          cases ao with
          | none => have := (hv1 rfl).1; subst this; simp at hmn
          | some a1 => obtain ⟨g, e1, e2, e3, e4⟩ := hv2 a1 rfl; exact ⟨g, by rw [e1], e2, e3, e4⟩
        have hH' := hH
        rw [← hln] at hH'
        obtain ⟨i0, i1, i2, i3, _, _, _⟩ := hH'.at hch
        obtain ⟨j0, j1, j2, j3, _, _, _⟩ := hH'.at hmn
        clear hH'
        have hp0 := hH.cell0
        obtain ⟨x, hx⟩ : ∃ x, gi l c2 = x := ⟨_, rfl⟩
        obtain ⟨y, hy⟩ : ∃ y, gi l m = y := ⟨_, rfl⟩
        rw [hx] at i0 i1 i2 i3
        rw [hy] at j0 j1 j2 j3
        have HLT := hide (less_any x y wr.drew)
        have hk0 : (0 : Int) ≤ (c2 : Int) := by omega
        have hk1 : (c2 : Int) < (n : Int) := by omega
        have hm0 : (0 : Int) ≤ (m : Int) := by omega
        have hm1 : (m : Int) < (n : Int) := by omega
        have hgw : g < wr.heap.size := by have := hB.size; omega
        have hpw := hH.lt
        have hdc : decide ((c2 : Int) < (n : Int)) = true := by simpa using hk1
        have HX := hide hx
        have HY := hide hy
        have HLN := hide hln
        have HNX := hide hmn
        have HCX := hide hch
        clear hln hx hy i3 j3 hmn hch
        cases hlt : ltB x y with
        | false =>
          go_wp2
          go_region_held3 (fun W => W.cell? ⟨p, 0, none⟩ = some (.slice (some ⟨g, 0, none⟩) n cap) ∧ W.cell? ⟨g, c2 * 7, none⟩ = some (.int .i64 x.r) ∧ W.cell? ⟨g, c2 * 7 + 1, none⟩ = some (.int .i64 x.p) ∧ W.cell? ⟨g, c2 * 7 + 2, none⟩ = some (.int .i64 x.t) ∧ W.cell? ⟨g, m * 7, none⟩ = some (.int .i64 y.r) ∧ W.cell? ⟨g, m * 7 + 1, none⟩ = some (.int .i64 y.p) ∧ W.cell? ⟨g, m * 7 + 2, none⟩ = some (.int .i64 y.t)) (go_keep) (first | (go_at_call 194; refine (unhide HLT).mono ?_; rintro e w' ⟨rfl, hbl0⟩; have hbl : Below wr.heap.size wr w' := below_via hbl0 (below_drew wr); clear hbl0; obtain ⟨hcl, hfl⟩ := bcells hbl))
          go_wp2
          go_roundw
          case rel => exact ⟨m, 1 + 1, rfl, rfl, by omega, hLJ.stay (fun _ => by rw [show 2 * a + 1 + 1 = c2 by have := hc2.out; omega, HX.out, HY.out]; exact hlt), hB.trans (hbl.mono hB.size)⟩
          case measure => simp [intOf]
        | true =>
          go_wp2
          go_region_held3 (fun W => W.cell? ⟨p, 0, none⟩ = some (.slice (some ⟨g, 0, none⟩) n cap) ∧ W.cell? ⟨g, c2 * 7, none⟩ = some (.int .i64 x.r) ∧ W.cell? ⟨g, c2 * 7 + 1, none⟩ = some (.int .i64 x.p) ∧ W.cell? ⟨g, c2 * 7 + 2, none⟩ = some (.int .i64 x.t) ∧ W.cell? ⟨g, m * 7, none⟩ = some (.int .i64 y.r) ∧ W.cell? ⟨g, m * 7 + 1, none⟩ = some (.int .i64 y.p) ∧ W.cell? ⟨g, m * 7 + 2, none⟩ = some (.int .i64 y.t)) (go_keep) (first | (go_at_call 194; refine (unhide HLT).mono ?_; rintro e w' ⟨rfl, hbl0⟩; have hbl : Below wr.heap.size wr w' := below_via hbl0 (below_drew wr); clear hbl0; obtain ⟨hcl, hfl⟩ := bcells hbl))
          go_wp2
          go_roundw
          case rel =>
            have hmv := hLJ.move (show 2 * a + 1 + 1 < l.length by have := hc2.out; have := HLN.out; omega) (by rw [show 2 * a + 1 + 1 = c2 by have := hc2.out; omega, HX.out, HY.out]; exact hlt)
            rw [show 2 * a + 1 + 1 = c2 by have := hc2.out; omega] at hmv
            exact ⟨c2, 1 + 1, rfl, rfl, by omega, hmv, hB.trans (hbl.mono hB.size)⟩
          case measure => simp [intOf]
      · have hp0 := hH.cell0
        have hk1 : (n : Int) ≤ (c2 : Int) := by omega
        have hdc : decide ((c2 : Int) < (n : Int)) = false := by simp; omega
        have HLN := hide hln
        clear hln
        go_wp2
        go_quiet (fail)
        go_wp2
        go_roundw
        case rel => exact ⟨m, 1 + 1, rfl, rfl, by omega, hLJ.stay (fun hx => by have := hc2.out; have := HLN.out; omega), below_drewN hB _⟩
        case measure => simp [intOf]
    · go_wp2
      go_ret
      exact ⟨⟨m, rfl, hLJ.all⟩, hB⟩

set_option maxRecDepth 20000 in
set_option maxHeartbeats 4000000 in
theorem sink_any (base p : Nat) (v : Value) (tn : Int) (l : List It) (w : World) (h : HAt 267 279 base p v tn l w) (hS : SI l 0) (hn : l.length ≤ 1000000) :
    Calls Tryz.prog 185 #[.pointer (some ⟨p, 0, none⟩), .int .i64 0] w fun e w' => e = .returned (.tuple #[]) ∧ ∃ l', HAt 267 279 base p v tn l' w' ∧ Hp l' ∧ l'.Perm l ∧ Fr p v w w' := by
  go_enter Tryz.func185, Tryz.ntmps185
  go_wp2
  go_loopw [1] (fun c wr => ∃ (k : Nat) (l1 : List It), c = .int .i64 k ∧ k ≤ 1000000 ∧ HAt 267 279 base p v tn l1 wr ∧ SI l1 k ∧ l1.Perm l ∧ Fr p v w wr) (fun c _ => l.length - (intOf c).toNat)
  case atStart => exact ⟨0, l, rfl, by omega, h, hS, List.Perm.refl _, Fr.refl _ _ _⟩
  case round =>
    obtain ⟨k, l1, rfl, hkn, hH, hSI, hP, hF⟩ := hrel
    have HL := hide hP.length_eq
    go_wp2_with fail
    refine (children_nat k wr (by omega)).mono ?_
    rintro e w1 ⟨⟨c1, c2, rfl, hc1, hc2⟩, hb1⟩
    have hH1 := hH.kept hb1
    have hF1 := hF.trans' (Fr.ofBelow hb1)
    clear hH hF hb1
    go_wp2_with fail
    refine (leastOf_any base p v tn l1 w1 hH1 k c1 c2 hc1 hc2 (by rw [HL.out]; exact hn)).mono ?_
    rintro e w2 ⟨⟨m, rfl, hL⟩, hb2⟩
    have hH2 := hH1.kept hb2
    have hF2 := hF1.trans' (Fr.ofBelow hb2)
    clear hH1 hF1 hb2
    by_cases hmk : m = k
    · subst hmk
      go_wp2
      (try simp only [Exit.inBlock, Exit.then])
      refine bodyPost_ret (results_none rfl _ _ _) rfl ?_
      exact ⟨rfl, l1, hH2, hSI.done hL, hP, hF2⟩
    · have hne : ((m : Int) == (k : Int)) = false := by simp; omega
      obtain ⟨HSI, hkm, hml⟩ := hSI.step hL hmk
      go_wp2_with fail
      refine (swap_any base p v tn l1 w2 hH2 k m (by omega) hml (by omega) (by rw [HL.out]; exact hn)).mono ?_
      rintro e w3 ⟨rfl, hH3, hF3⟩
      go_wp2
      go_roundw
      case rel => exact ⟨m, _, rfl, by have := HL.out; omega, hH3, HSI, (swp_perm l1 (by omega) hml).trans hP, hF2.trans' hF3⟩
      case measure => simp [intOf]; have := HL.out; omega

end Go.Proofs.YtdpmjaelbjjanaaGreat.Hq

namespace Go.Proofs.YtdpmjaelbjjanaaGreat.Hq
open Go.RowKit Go.Proofs.YtdpmjaelbjjanaaGreat
set_option linter.unusedVariables false
set_option linter.unusedSimpArgs false
attribute [local go_sem ↓] Go.wp_at_zero Go.wp_at_succ

theorem info_item : (Tryz.prog.info? 279).map (fun i => (i.zero, i.size, i.bytes)) = some (some (.agg #[.int .i64 0, .int .i64 0, .int .i64 0, .int .i64 0, .int .i64 0, .int .i64 0, .int .i64 0]), 7, 56) := by kernel_rfl
theorem zero_item (w : World) : (zeroValue 279).run Tryz.prog w = .ok (.agg #[.int .i64 0, .int .i64 0, .int .i64 0, .int .i64 0, .int .i64 0, .int .i64 0, .int .i64 0]) w := by
  obtain ⟨i0, hi, hz0, hz1, hz2⟩ := info_parts info_item
  simp [zeroValue, typeInfo, hi, hz0]

set_option maxRecDepth 20000 in
set_option maxHeartbeats 4000000 in
theorem takeTop_any (base p : Nat) (v : Value) (tn : Int) (l : List It) (w : World) (h : HAt 267 279 base p v tn l w) (hHp : Hp l) (h0 : 0 < l.length) (hn : l.length ≤ 1000000) :
    Calls Tryz.prog 174 #[.pointer (some ⟨p, 0, none⟩)] w fun e w' => e = .returned (.tuple #[]) ∧ ∃ v' l', HAt 267 279 base p v' tn l' w' ∧ Hp l' ∧ l'.Perm l.tail ∧ Fr p v w w' ∧ v'.ownBlock = v.ownBlock := by
  obtain ⟨g, cap, rfl, hg, hbg, hgp, hc1, hc2⟩ := h.pos h0
  obtain ⟨n, hln⟩ : ∃ n, l.length = n + 1 := ⟨l.length - 1, by omega⟩
  rw [hln] at h hn hc1 ⊢
  have h' := h
  rw [← hln] at h'
  obtain ⟨i0, i1, i2, i3, i4, i5, i6⟩ := h'.at (show n < l.length by omega)
  obtain ⟨j0, j1, j2, j3, j4, j5, j6⟩ := h'.at (show 0 < l.length by omega)
  simp only [Nat.zero_mul, Nat.zero_add] at j0 j1 j2 j3 j4 j5 j6
  clear h'
  have hp0 := h.cell0
  have hfp := h.fr
  have hfz : ∀ o, w.frozen? ⟨g, o, none⟩ = false := h.fz
  obtain ⟨a, ha⟩ : ∃ a, gi l n = a := ⟨_, rfl⟩
  obtain ⟨b, hb⟩ : ∃ b, gi l 0 = b := ⟨_, rfl⟩
  rw [ha] at i0 i1 i2 i3 i4 i5 i6
  rw [hb] at j0 j1 j2 j3 j4 j5 j6
  have H := hide h
  have HL := hide hln
  have HA := hide ha
  have hn0 : (0 : Int) ≤ (n : Int) := by omega
  have hn1 : (n : Int) < (n : Int) + 1 := by omega
  clear h hln ha hb
  go_enter Tryz.func174, Tryz.ntmps174
  go_wp2
  go_region
  obtain ⟨W1, hW1, hH1, hF1⟩ := H.out.put0 h0 a
  rw [← hW1]
  clear hW1 i0 i1 i2 i3 i4 i5 i6 j0 j1 j2 j3 j4 j5 j6 hp0 hfp hfz
  have hl1 : (l.set 0 a).length = n + 1 := by rw [List.length_set]; exact HL.out
  obtain ⟨vs, hvl, hcl⟩ := run_clear_all (P := Tryz.prog) W1 265 279 _ 7 Tryz.underlying265 zero_item rfl (by simp [Value.cells, Value.oneCell']) (by omega) g (n * 7) 1 (by omega) (fun j hj => (hH1.room (by omega)).1) (fun j hj => (hH1.room (by omega)).2)
  obtain ⟨hH2, hgr⟩ := hH1.cut n (n * 7) vs (by omega) (Nat.le_refl _) (by omega)
  have hp0 := hH1.cell0
  have hp2 : (W1.setCells g (n * 7) vs).cell? ⟨p, 0, none⟩ = some (.slice (some ⟨g, 0, none⟩) (n + 1) cap) := (hgr.cell_far ⟨p, 0, none⟩ hH1.lt (by simp; omega)).trans hp0
  have hf2 : (W1.setCells g (n * 7) vs).frozen? ⟨p, 0, none⟩ = false := (hgr.frozen_far ⟨p, 0, none⟩ hH1.lt (by simp; omega)).trans (hH1.fr 0)
  have hF2 : Fr p (.slice (some ⟨g, 0, none⟩) (n + 1) cap) W1 (W1.setCells g (n * 7) vs) := Fr.ofGrown hgr (Or.inr (Or.inr rfl))
  generalize hW2 : W1.setCells g (n * 7) vs = W2 at hcl hH2 hp2 hf2 hF2
  clear hW2 hgr
  have HP : Hid ((l.set 0 a).take n = topped l) := by
    unfold topped
    rw [HL.out, Nat.add_sub_cancel, HA.out]
    exact hide rfl
  rw [HP.out] at hH2
  have hSI := topped_SI hHp
  have HT := hide (topped_len l)
  have HTP := hide (topped_perm l h0)
  go_wp2_with fail
  refine (sink_any base p _ tn (topped l) _ hH2 hSI (by rw [HT.out, HL.out]; omega)).mono ?_
  rintro e w3 ⟨rfl, l', hH3, hHp3, hP3, hF3⟩
  go_wp2
  go_end0
  exact ⟨rfl, _, l', hH3, hHp3, hP3.trans HTP.out, ((hF1.trans' hF2).setP _).trans (Nw.refl _ _) (by exact ⟨hF3.os, hF3.tape, hF3.output, hF3.size, hF3.block⟩), rfl⟩

end Go.Proofs.YtdpmjaelbjjanaaGreat.Hq
