/- Contracts of package chain: join. -/
import Derived.Test.YtlfffalfnnmliaaChB
namespace Go.Proofs.Ytlfffalfnnmliaa
open Go.RowKit Go.Maps
set_option linter.unusedVariables false
set_option linter.unusedSimpArgs false
attribute [local go_sem ↓] Go.wp_at_zero Go.wp_at_succ

/-- The parts behind a join. -/
def jn1 (ps : List Pt) (i j : Nat) (c : Int) : List Pt := ((ps.set i ⟨c, (gp ps i).ah, (gp ps i).af⟩).set j ⟨-1, (gp ps j).ah, (gp ps j).af⟩).set i ⟨c, (gp ps i).ah, (gp ps j).af⟩
def jn (ps : List Pt) (i j A : Nat) (c : Int) : List Pt := if A < ps.length then (jn1 ps i j c).set A ⟨(gp (jn1 ps i j c) A).id, i, (gp (jn1 ps i j c) A).af⟩ else jn1 ps i j c
theorem jn1_len (ps : List Pt) (i j : Nat) (c : Int) : (jn1 ps i j c).length = ps.length := by simp [jn1]
theorem jn_len (ps : List Pt) (i j A : Nat) (c : Int) : (jn ps i j A c).length = ps.length := by unfold jn; split <;> simp [jn1_len]
theorem jn1_get (ps : List Pt) {i j : Nat} (c : Int) (hi : i < ps.length) (hj : j < ps.length) (hne : i ≠ j) (k : Nat) : gp (jn1 ps i j c) k = if k = i then ⟨c, (gp ps i).ah, (gp ps j).af⟩ else if k = j then ⟨-1, (gp ps j).ah, (gp ps j).af⟩ else gp ps k := by
  unfold jn1
  rw [gp_set _ _ _ _ (by simpa using hi), gp_set _ _ _ _ (by simpa using hj), gp_set _ _ _ _ hi]
  by_cases h1 : k = i
  · simp [h1]
  · simp [h1]
theorem jn_get (ps : List Pt) {i j A : Nat} (c : Int) (hi : i < ps.length) (hj : j < ps.length) (hij : i < j) (hA : j < A) (k : Nat) : gp (jn ps i j A c) k = if k = i then ⟨c, (gp ps i).ah, (gp ps j).af⟩ else if k = j then ⟨-1, (gp ps j).ah, (gp ps j).af⟩ else if k = A ∧ A < ps.length then ⟨(gp ps A).id, i, (gp ps A).af⟩ else gp ps k := by
  have g := jn1_get ps c hi hj (show i ≠ j by omega)
  unfold jn
  by_cases hl : A < ps.length
  · rw [if_pos hl, gp_set _ _ _ _ (by rw [jn1_len]; exact hl), g A, g k]
    by_cases h1 : k = A
    · subst h1
      simp [hl, show k ≠ i by omega, show k ≠ j by omega]
    · simp [h1]
  · rw [if_neg hl, g k]
    simp [hl]

theorem below_drewR (w : World) : Below w.heap.size w w.drew := (Below.refl _ _).drew
theorem jn_ok {ps : List Pt} (hok : okP ps) {i j A : Nat} {c : Int} (hi : i < ps.length) (hj : j < ps.length) (hij : i < j) (hA : j < A) (hc : 0 ≤ c ∧ c ≤ 2000) : okP (jn ps i j A c) := by
  intro k
  rw [jn_get ps c hi hj hij hA k]
  split
  · exact ⟨by simp; omega, by simp; omega⟩
  · split
    · simp
    · split
      · exact hok A
      · exact hok k

section
variable {base : Nat} {F : List Nat} {pT : Nat} {v0 v1 : Value} {b2 b3 : Nat} {tx : List ByteArray} {mg : List (Int × Int)} {q : Nat} {bl : Int} {ps : List Pt} {h : Nat} {hv : Value} {tn : Int} {l : List Hq.It} {st : Int} {w : World}
theorem RAt.fz {g n cap : Nat} (r : RAt base F pT v0 v1 b2 b3 tx mg q bl (.slice (some ⟨g, 0, none⟩) n cap) ps h hv tn l st w) (o : Nat) : w.frozen? ⟨g, o, none⟩ = false := by
  rcases r.prow.2 with ⟨h0, _⟩ | ⟨g', cap', cur, hvv, hb, hg, hc, hmx, hsz, ht⟩
  · cases h0
  simp only [Value.slice.injEq, Option.some.injEq, Addr.mk.injEq, and_true, true_and] at hvv
  obtain ⟨rfl, rfl, rfl⟩ := hvv
  simp [World.frozen?, hg]
theorem join_three {g n cap : Nat} (r : RAt base F pT v0 v1 b2 b3 tx mg q bl (.slice (some ⟨g, 0, none⟩) n cap) ps h hv tn l st w) {i j : Nat} (hi : i < ps.length) (hj : j < ps.length) (hne : i ≠ j) (c A : Int) (hA : (gp ps j).af = A) :
    ∃ W, W = ((w.setCell ⟨g, i * 3, none⟩ (.int .i64 c)).setCell ⟨g, j * 3, none⟩ (.int .i64 (-1))).setCell ⟨g, i * 3 + 2, none⟩ (.int .i64 A) ∧ RAt base F pT v0 v1 b2 b3 tx mg q bl (.slice (some ⟨g, 0, none⟩) n cap) (jn1 ps i j c) h hv tn l st W ∧ Below base w W ∧ W.grownBy W none ∧ w.grownBy W (some g) := by
  obtain ⟨s1, t1⟩ := r.setG (ps' := ps.set i ⟨c, (gp ps i).ah, (gp ps i).af⟩) (i * 3) (.int .i64 c) (fl3_set0 ps i hi c) (by simp)
  have e1 : gp (ps.set i ⟨c, (gp ps i).ah, (gp ps i).af⟩) j = gp ps j := by rw [gp_set _ _ _ _ hi, if_neg (Ne.symm hne)]
  have f2 := fl3_set0 (ps.set i ⟨c, (gp ps i).ah, (gp ps i).af⟩) j (by simpa using hj) (-1)
  rw [e1] at f2
  obtain ⟨s2, t2⟩ := s1.setG (ps' := (ps.set i ⟨c, (gp ps i).ah, (gp ps i).af⟩).set j ⟨-1, (gp ps j).ah, (gp ps j).af⟩) (j * 3) (.int .i64 (-1)) f2 (by simp)
  have e2 : gp ((ps.set i ⟨c, (gp ps i).ah, (gp ps i).af⟩).set j ⟨-1, (gp ps j).ah, (gp ps j).af⟩) i = ⟨c, (gp ps i).ah, (gp ps i).af⟩ := by
    rw [gp_set _ _ _ _ (by simpa using hj), if_neg hne, gp_set _ _ _ _ hi, if_pos rfl]
  have f3 := fl3_set2 ((ps.set i ⟨c, (gp ps i).ah, (gp ps i).af⟩).set j ⟨-1, (gp ps j).ah, (gp ps j).af⟩) i (by simpa using hi) A
  rw [e2] at f3
  obtain ⟨s3, t3⟩ := s2.setG (ps' := jn1 ps i j c) (i * 3 + 2) (.int .i64 A) (by unfold jn1; subst hA; exact f3) (by simp [jn1])
  refine ⟨_, rfl, s3, (t1.trans t2).trans t3, ⟨rfl, rfl, rfl, Nat.le_refl _, fun _ _ _ => rfl⟩, ⟨rfl, rfl, rfl, by simp, fun k hk hkg => ?_⟩⟩
  have : k ≠ g := fun e => hkg (by simp [e])
  rw [heap_setCell_other _ _ _ _ (by simpa using this), heap_setCell_other _ _ _ _ (by simpa using this), heap_setCell_other _ _ _ _ (by simpa using this)]
end

section
variable {base : Nat} {F : List Nat} {pT : Nat} {v0 v1 : Value} {b2 b3 : Nat} {tx : List ByteArray} {mg : List (Int × Int)} {q : Nat} {bl : Int} {vp : Value} {ps ps' : List Pt} {h : Nat} {hv hv' : Value} {tn tn' : Int} {l l' : List Hq.It} {st : Int} {w w' : World}

set_option maxRecDepth 20000 in
set_option maxHeartbeats 8000000 in
theorem join_any (r : RAt base F pT v0 v1 b2 b3 tx mg q bl vp ps h hv tn l st w) (hHp : Hq.Hp l) (hk : Tok tx mg) (hn : l.length ≤ 800000) (ht : 0 ≤ tn ∧ tn ≤ 900000000) (hok : okP ps) (i j A : Nat) (c a b : Int) (hi : i < ps.length) (hj : j < ps.length) (hij : i < j) (hA : j < A) (hAf : (gp ps j).af = A) (hAl : A ≤ 1000000) (hah : (gp ps i).ah < 0 ∨ ∃ P : Nat, (gp ps i).ah = P ∧ P < ps.length) (hc : 0 ≤ c ∧ c ≤ 2000) (hst : 0 ≤ st ∧ st ≤ 1000000) :
    Calls Try.prog 63 #[.pointer (some ⟨q, 0, none⟩), .agg #[.int .i64 i, .int .i64 j, .int .i64 a, .int .i64 b], .int .i64 c] w fun e w' => e = .returned (.tuple #[]) ∧ ∃ hv' tn1 l1 tn' l', RAt base F pT v0 v1 b2 b3 tx mg q bl vp (jn ps i j A c) h hv' tn' l' (st + 1) w' ∧ Hq.Hp l' ∧ Below base w w' ∧ AwR mg bl (jn ps i j A c) (gp ps i).ah i tn l tn1 l1 ∧ AwR mg bl (jn ps i j A c) i A tn1 l1 tn' l' := by
  have hl := low1 w (.cells #[.int .i64 i, .int .i64 j, .int .i64 a, .int .i64 b] 114)
  have hx : (w.alloc (.cells #[.int .i64 i, .int .i64 j, .int .i64 a, .int .i64 b] 114)).heap[w.heap.size]? = some (.cells #[.int .i64 i, .int .i64 j, .int .i64 a, .int .i64 b] 114 (0, 0)) := heap_alloc_new w _
  have hbw := r.base_le
  have hh0 : h < w.heap.size := r.hp.lt
  have hhv0 : ∀ k, hv.ownBlock = some k → k < w.heap.size := fun k e => (r.hp.row.lt k e).2
  have r1 := r.kept hl
  have hql := r.lt
  obtain ⟨g, cap, rfl, hg, _⟩ := r.part hi
  have hgq : g ≠ q := fun e => r.pq (by simp [Value.ownBlock, e])
  have hB0 := hl.mono hbw
  clear r
  generalize hW0 : w.alloc (.cells #[.int .i64 i, .int .i64 j, .int .i64 a, .int .i64 b] 114) = w0 at *
  have bx0 : w0.cell? ⟨w.heap.size, 0, none⟩ = some (.int .i64 i) := by simp [World.cell?, hx]
  have bx1 : w0.cell? ⟨w.heap.size, 1, none⟩ = some (.int .i64 j) := by simp [World.cell?, hx]
  have q2 := r1.cs.2.2.1
  have hi0 : (0 : Int) ≤ (i : Int) := by omega
  have hi1 : (i : Int) < (ps.length : Int) := by omega
  have hj0 : (0 : Int) ≤ (j : Int) := by omega
  have hj1 : (j : Int) < (ps.length : Int) := by omega
  go_enter Try.func63, Try.ntmps63
  go_wp2
  clear hW0
  go_quiet (fail)
  have hd : Below w0.heap.size w0 (w0.drewN nq) := ⟨rfl, rfl, rfl, Nat.le_refl _, fun _ _ => rfl⟩
  have r2 := r1.kept hd
  have hx2 := (hd.block _ (Array.getElem?_eq_some_iff.1 hx).1).trans hx
  have hB2 := hB0.trans (hd.mono (by have := hB0.size; omega))
  clear r1 hx hd hB0 q2 bx0 bx1 hl
  generalize w0.drewN nq = w1 at *
  obtain ⟨q0, q1, q2, q3, q4, qf⟩ := r2.cs
  obtain ⟨g', cap', hv2, hg1, i0, i1, i2⟩ := r2.part hi
  simp only [Value.slice.injEq, Option.some.injEq, Addr.mk.injEq, and_true, true_and] at hv2
  obtain ⟨rfl, rfl⟩ := hv2
  obtain ⟨g', cap', hv2, _, j0, j1, j2⟩ := r2.part hj
  simp only [Value.slice.injEq, Option.some.injEq, Addr.mk.injEq, and_true, true_and] at hv2
  obtain ⟨rfl, rfl⟩ := hv2
  have gf : ∀ o, w1.frozen? ⟨g, o, none⟩ = false := fun o => r2.prow.frozenAt o
  have n1 : i * 3 ≠ j * 3 := by omega
  have n2 : i * 3 + 2 ≠ j * 3 + 2 := by omega
  rw [hAf] at j2
  have hgx : w.heap.size ≠ g := by omega
  obtain ⟨W, hW, rW, hBW, _, hGW⟩ := join_three r2 hi hj (by omega) c A hAf
  go_wp2
  rw [← hW]
  have hxW : W.heap[w.heap.size]? = some (.cells #[.int .i64 i, .int .i64 j, .int .i64 a, .int .i64 b] 114 (0, 0)) := (hGW.block _ (Array.getElem?_eq_some_iff.1 hx2).1 (by simp; omega)).trans hx2
  have hBW2 := hB2.trans hBW
  clear hW hGW hBW hB2 hx2 r2 q0 q1 q2 q3 q4 qf i0 i1 i2 j0 j1 j2 gf hg1
  have hgW : g < W.heap.size := (rW.prow.lt g rfl).2
  have hlj := jn1_len ps i j c
  have hi' : i < (jn1 ps i j c).length := by omega
  obtain ⟨g', cap', hv2, _, i0, i1, i2⟩ := rW.part hi'
  simp only [Value.slice.injEq, Option.some.injEq, Addr.mk.injEq, and_true, true_and] at hv2
  obtain ⟨rfl, hlen, rfl⟩ := hv2
  have hgi := jn1_get ps c hi hj (show i ≠ j by omega) i
  rw [if_pos rfl] at hgi
  rw [hgi] at i0 i1 i2
  simp only [hAf] at i0 i1 i2
  obtain ⟨q0, q1, q2, q3, q4, qf⟩ := rW.cs
  have bx0 : W.cell? ⟨w.heap.size, 0, none⟩ = some (.int .i64 i) := by simp [World.cell?, hxW]
  have HLJ := hide hlj
  have HGI := hide hgi
  clear hlj hgi hlen
  by_cases hAlt : A < ps.length
  · have hA' : A < (jn1 ps i j c).length := by have := HLJ.out; omega
    obtain ⟨g', cap', hv2, _, k0, k1, k2⟩ := rW.part hA'
    simp only [Value.slice.injEq, Option.some.injEq, Addr.mk.injEq, and_true, true_and] at hv2
    obtain ⟨rfl, _, rfl⟩ := hv2
    have hA1 : (A : Int) < (ps.length : Int) := by omega
    have hA0 : (0 : Int) ≤ (A : Int) := by omega
    go_wp2
    go_quiet (fail)
    have hd : Below W.heap.size W (W.drewN nq) := ⟨rfl, rfl, rfl, Nat.le_refl _, fun _ _ => rfl⟩
    have r3 := rW.kept hd
    have hx3 := (hd.block _ (Array.getElem?_eq_some_iff.1 hxW).1).trans hxW
    have hB3 := hBW2.trans (hd.mono (by have := rW.base_le; omega))
    obtain ⟨g', cap', hv2, _, m0, m1, m2⟩ := r3.part hi'
    simp only [Value.slice.injEq, Option.some.injEq, Addr.mk.injEq, and_true, true_and] at hv2
    obtain ⟨rfl, _, rfl⟩ := hv2
    rw [HGI.out] at m0 m1 m2
    simp only [hAf] at m0 m1 m2
    obtain ⟨g', cap', hv2, _, p0, p1, p2⟩ := r3.part hA'
    simp only [Value.slice.injEq, Option.some.injEq, Addr.mk.injEq, and_true, true_and] at hv2
    obtain ⟨rfl, _, rfl⟩ := hv2
    clear rW hxW hd hBW2 q0 q1 q2 q3 q4 qf i0 i1 i2 k0 k1 k2 bx0 hgW
    generalize W.drewN nq = W1 at *
    obtain ⟨q0, q1, q2, q3, q4, qf⟩ := r3.cs
    have bx0 : W1.cell? ⟨w.heap.size, 0, none⟩ = some (.int .i64 i) := by simp [World.cell?, hx3]
    have gf : ∀ o, W1.frozen? ⟨g, o, none⟩ = false := fun o => r3.fz o
    go_wp2
    go_region
    obtain ⟨s4, t4⟩ := r3.setG (ps' := jn ps i j A c) (A * 3 + 1) (.int .i64 i) (by unfold jn; rw [if_pos hAlt]; exact fl3_set1 (jn1 ps i j c) A hA' i) (by rw [jn_len, jn1_len])
    have r4 := s4.kept (below_drewR _)
    have hx4 : (W1.setCell ⟨g, A * 3 + 1, none⟩ (.int .i64 i)).drew.heap[w.heap.size]? = some (.cells #[.int .i64 i, .int .i64 j, .int .i64 a, .int .i64 b] 114 (0, 0)) := (heap_setCell_other W1 ⟨g, A * 3 + 1, none⟩ w.heap.size _ hgx).trans hx3
    have hB4 : Below base w (W1.setCell ⟨g, A * 3 + 1, none⟩ (.int .i64 i)).drew := (hB3.trans t4).drew
    clear s4 t4 r3 hx3 hB3 m0 m1 m2 p0 p1 p2 gf
    generalize (W1.setCell ⟨g, A * 3 + 1, none⟩ (.int .i64 i)).drew = W2 at *
    obtain ⟨s5, t5⟩ := r4.setS (st + 1)
    have hqx : w.heap.size ≠ q := by omega
    have hx5 : (W2.setCell ⟨q, 4, none⟩ (.int .i64 (st + 1))).heap[w.heap.size]? = some (.cells #[.int .i64 i, .int .i64 j, .int .i64 a, .int .i64 b] 114 (0, 0)) := (heap_setCell_other W2 ⟨q, 4, none⟩ w.heap.size _ hqx).trans hx4
    have hB5 := hB4.trans t5
    clear q0 q1 q2 q3 q4 qf bx0
    obtain ⟨q0, q1, q2, q3, q4, qf⟩ := r4.cs
    have hst1 : st + 1 ≤ 9000000 := by omega
    go_wp2
    clear q0 q1 q2 q3 q4 qf r4 hx4 hB4 t5
    generalize W2.setCell ⟨q, 4, none⟩ (.int .i64 (st + 1)) = W3 at *
    have hgJ := jn_get ps c hi hj hij hA i
    rw [if_pos rfl, hAf] at hgJ
    have hlJ := jn_len ps i j A c
    have hiJ : i < (jn ps i j A c).length := by omega
    have HOK := hide (jn_ok hok hi hj hij hA hc)
    have HLJ2 := hide hlJ
    have HGJ := hide hgJ
    obtain ⟨g', cap', hv2, _, m0, m1, m2⟩ := s5.part hiJ
    simp only [Value.slice.injEq, Option.some.injEq, Addr.mk.injEq, and_true, true_and] at hv2
    obtain ⟨rfl, _, rfl⟩ := hv2
    rw [HGJ.out] at m0 m1 m2
    have bx0 : W3.cell? ⟨w.heap.size, 0, none⟩ = some (.int .i64 i) := by simp [World.cell?, hx5]
    clear hgJ hlJ
    have HAW := hide (fun (W' : World) (r : RAt base F pT v0 v1 b2 b3 tx mg q bl (.slice (some ⟨g, 0, none⟩) ps.length cap) (jn ps i j A c) h hv tn l (st + 1) W') => await_any r hHp hk (by omega) (by omega) HOK.out (gp ps i).ah i (by rcases hah with h1 | ⟨P, h1, h2⟩; · { exact Or.inl (Or.inl h1) }; · { exact Or.inr ⟨P, i, h1, rfl, by rw [HLJ2.out]; exact h2, by rw [HLJ2.out]; exact hi⟩ }))
    have S5 := hide s5
    have X5 := hide hx5
    clear s5 hx5
    go_region_with (go_at_call 60; refine (HAW.out _ (by first | exact S5.out | exact S5.out.kept (below_drewR _))).mono ?_; rintro e w5 ⟨rfl, hv5, tn5, l5, r6, hp6, ⟨hB6, hF6⟩, aw6⟩)
    all_goals
      have hx6 : w5.heap[w.heap.size]? = some (.cells #[.int .i64 i, .int .i64 j, .int .i64 a, .int .i64 b] 114 (0, 0)) := (hF6.block _ (Array.getElem?_eq_some_iff.1 X5.out).1 (by omega) (fun e => by have := hhv0 _ e.symm; omega)).trans X5.out
      have hB7 : Below base w w5 := hB5.trans ⟨hB6.os, hB6.tape, hB6.output, hB6.size, hB6.block⟩
      have hbd := aw6.bound
      obtain ⟨g', cap', hv2, _, e0, e1, e2⟩ := r6.part hiJ
      simp only [Value.slice.injEq, Option.some.injEq, Addr.mk.injEq, and_true, true_and] at hv2
      obtain ⟨rfl, _, rfl⟩ := hv2
      rw [HGJ.out] at e0 e1 e2
      have bx6 : w5.cell? ⟨w.heap.size, 0, none⟩ = some (.int .i64 i) := by simp [World.cell?, hx6]
      have HAW2 := hide (fun (W' : World) (r : RAt base F pT v0 v1 b2 b3 tx mg q bl (.slice (some ⟨g, 0, none⟩) ps.length cap) (jn ps i j A c) h hv5 tn5 l5 (st + 1) W') => await_any r hp6 hk (by omega) (by omega) HOK.out i A (by by_cases h1 : A < ps.length; · { exact Or.inr ⟨i, A, rfl, rfl, by rw [HLJ2.out]; exact hi, by rw [HLJ2.out]; exact h1⟩ }; · { exact Or.inl (Or.inr (by rw [HLJ2.out]; omega)) }))
      have R6 := hide r6
      have HAA := hide aw6
      clear r6 aw6 hB6 hF6 hx6 m0 m1 m2 bx0 HAW S5 X5 hbd
      go_wp2
      go_region_with (go_at_call 60; refine (HAW2.out _ (by first | exact R6.out | exact R6.out.kept (below_drewR _))).mono ?_; rintro e w7 ⟨rfl, hv7, tn7, l7, r8, hp8, ⟨hB8, hF8⟩, aw8⟩)
      all_goals
        go_wp2
        go_end0
        exact ⟨rfl, hv7, tn5, l5, tn7, l7, r8, hp8, hB7.trans ⟨hB8.os, hB8.tape, hB8.output, hB8.size, hB8.block⟩, HAA.out, aw8⟩
  · have hA1 : ¬ ((A : Int) < (ps.length : Int)) := by omega
    have hJ : jn ps i j A c = jn1 ps i j c := by unfold jn; rw [if_neg hAlt]
    go_wp2
    go_quiet (fail)
    have hd : Below W.heap.size W (W.drewN nq) := ⟨rfl, rfl, rfl, Nat.le_refl _, fun _ _ => rfl⟩
    have r4 := rW.kept hd
    have hx4 := (hd.block _ (Array.getElem?_eq_some_iff.1 hxW).1).trans hxW
    have hB4 := hBW2.trans (hd.mono (by have := rW.base_le; omega))
    rw [← hJ] at r4
    clear rW hxW hd hBW2 q0 q1 q2 q3 q4 qf i0 i1 i2 bx0 hgW hi' HLJ HGI hJ
    generalize W.drewN nq = W2 at *
    have bx0 : True := trivial
    obtain ⟨q0, q1, q2, q3, q4, qf⟩ := r4.cs
    obtain ⟨s5, t5⟩ := r4.setS (st + 1)
    have hqx : w.heap.size ≠ q := by omega
    have hx5 : (W2.setCell ⟨q, 4, none⟩ (.int .i64 (st + 1))).heap[w.heap.size]? = some (.cells #[.int .i64 i, .int .i64 j, .int .i64 a, .int .i64 b] 114 (0, 0)) := (heap_setCell_other W2 ⟨q, 4, none⟩ w.heap.size _ hqx).trans hx4
    have hB5 := hB4.trans t5
    clear q0 q1 q2 q3 q4 qf bx0
    obtain ⟨q0, q1, q2, q3, q4, qf⟩ := r4.cs
    have hst1 : st + 1 ≤ 9000000 := by omega
    go_wp2
    clear q0 q1 q2 q3 q4 qf r4 hx4 hB4 t5
    generalize W2.setCell ⟨q, 4, none⟩ (.int .i64 (st + 1)) = W3 at *
    have hgJ := jn_get ps c hi hj hij hA i
    rw [if_pos rfl, hAf] at hgJ
    have hlJ := jn_len ps i j A c
    have hiJ : i < (jn ps i j A c).length := by omega
    have HOK := hide (jn_ok hok hi hj hij hA hc)
    have HLJ2 := hide hlJ
    have HGJ := hide hgJ
    obtain ⟨g', cap', hv2, _, m0, m1, m2⟩ := s5.part hiJ
    simp only [Value.slice.injEq, Option.some.injEq, Addr.mk.injEq, and_true, true_and] at hv2
    obtain ⟨rfl, _, rfl⟩ := hv2
    rw [HGJ.out] at m0 m1 m2
    have bx0 : W3.cell? ⟨w.heap.size, 0, none⟩ = some (.int .i64 i) := by simp [World.cell?, hx5]
    clear hgJ hlJ
    have HAW := hide (fun (W' : World) (r : RAt base F pT v0 v1 b2 b3 tx mg q bl (.slice (some ⟨g, 0, none⟩) ps.length cap) (jn ps i j A c) h hv tn l (st + 1) W') => await_any r hHp hk (by omega) (by omega) HOK.out (gp ps i).ah i (by rcases hah with h1 | ⟨P, h1, h2⟩; · { exact Or.inl (Or.inl h1) }; · { exact Or.inr ⟨P, i, h1, rfl, by rw [HLJ2.out]; exact h2, by rw [HLJ2.out]; exact hi⟩ }))
    have S5 := hide s5
    have X5 := hide hx5
    clear s5 hx5
    go_region_with (go_at_call 60; refine (HAW.out _ (by first | exact S5.out | exact S5.out.kept (below_drewR _))).mono ?_; rintro e w5 ⟨rfl, hv5, tn5, l5, r6, hp6, ⟨hB6, hF6⟩, aw6⟩)
    all_goals
      have hx6 : w5.heap[w.heap.size]? = some (.cells #[.int .i64 i, .int .i64 j, .int .i64 a, .int .i64 b] 114 (0, 0)) := (hF6.block _ (Array.getElem?_eq_some_iff.1 X5.out).1 (by omega) (fun e => by have := hhv0 _ e.symm; omega)).trans X5.out
      have hB7 : Below base w w5 := hB5.trans ⟨hB6.os, hB6.tape, hB6.output, hB6.size, hB6.block⟩
      have hbd := aw6.bound
      obtain ⟨g', cap', hv2, _, e0, e1, e2⟩ := r6.part hiJ
      simp only [Value.slice.injEq, Option.some.injEq, Addr.mk.injEq, and_true, true_and] at hv2
      obtain ⟨rfl, _, rfl⟩ := hv2
      rw [HGJ.out] at e0 e1 e2
      have bx6 : w5.cell? ⟨w.heap.size, 0, none⟩ = some (.int .i64 i) := by simp [World.cell?, hx6]
      have HAW2 := hide (fun (W' : World) (r : RAt base F pT v0 v1 b2 b3 tx mg q bl (.slice (some ⟨g, 0, none⟩) ps.length cap) (jn ps i j A c) h hv5 tn5 l5 (st + 1) W') => await_any r hp6 hk (by omega) (by omega) HOK.out i A (by by_cases h1 : A < ps.length; · { exact Or.inr ⟨i, A, rfl, rfl, by rw [HLJ2.out]; exact hi, by rw [HLJ2.out]; exact h1⟩ }; · { exact Or.inl (Or.inr (by rw [HLJ2.out]; omega)) }))
      have R6 := hide r6
      have HAA := hide aw6
      clear r6 aw6 hB6 hF6 hx6 m0 m1 m2 bx0 HAW S5 X5 hbd
      go_wp2
      go_region_with (go_at_call 60; refine (HAW2.out _ (by first | exact R6.out | exact R6.out.kept (below_drewR _))).mono ?_; rintro e w7 ⟨rfl, hv7, tn7, l7, r8, hp8, ⟨hB8, hF8⟩, aw8⟩)
      all_goals
        go_wp2
        go_end0
        exact ⟨rfl, hv7, tn5, l5, tn7, l7, r8, hp8, hB7.trans ⟨hB8.os, hB8.tape, hB8.output, hB8.size, hB8.block⟩, HAA.out, aw8⟩
end

end Go.Proofs.Ytlfffalfnnmliaa
