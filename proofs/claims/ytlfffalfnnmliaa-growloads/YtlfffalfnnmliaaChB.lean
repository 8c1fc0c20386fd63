/- Contracts of package chain: stands, await. -/
import Derived.Test.YtlfffalfnnmliaaChA
import Derived.BigRegion
import Derived.BigQuiet
namespace Go.Proofs.Ytlfffalfnnmliaa
open Go.RowKit Go.Maps
set_option linter.unusedVariables false
set_option linter.unusedSimpArgs false
attribute [local go_sem ↓] Go.wp_at_zero Go.wp_at_succ

section
variable {base : Nat} {F : List Nat} {pT : Nat} {v0 v1 : Value} {b2 b3 : Nat} {tx : List ByteArray} {mg : List (Int × Int)} {q : Nat} {bl : Int} {vp : Value} {ps ps' : List Pt} {h : Nat} {hv hv' : Value} {tn tn' : Int} {l l' : List Hq.It} {st : Int} {w w' : World}

theorem RAt.part (r : RAt base F pT v0 v1 b2 b3 tx mg q bl vp ps h hv tn l st w) {i : Nat} (hi : i < ps.length) : ∃ g cap, vp = .slice (some ⟨g, 0, none⟩) ps.length cap ∧ g < w.heap.size ∧ w.cell? ⟨g, i * 3, none⟩ = some (.int .i64 (gp ps i).id) ∧ w.cell? ⟨g, i * 3 + 1, none⟩ = some (.int .i64 (gp ps i).ah) ∧ w.cell? ⟨g, i * 3 + 2, none⟩ = some (.int .i64 (gp ps i).af) := by
  obtain ⟨g, cap, rfl, _, hg⟩ := r.prow.form (by omega)
  have hf := fl3_get ps i hi
  have hc := r.prow.cellAt
  exact ⟨g, cap, rfl, hg, by rw [hc _ (by omega)]; exact hf.1, by rw [hc _ (by omega)]; exact hf.2.1, by rw [hc _ (by omega)]; exact hf.2.2⟩

set_option maxRecDepth 20000 in
set_option maxHeartbeats 4000000 in
theorem stands_any (r : RAt base F pT v0 v1 b2 b3 tx mg q bl vp ps h hv tn l st w) (i j : Nat) (hi : i < ps.length) (hj : j < ps.length) (a b : Int) :
    Calls Try.prog 62 #[.pointer (some ⟨q, 0, none⟩), .agg #[.int .i64 i, .int .i64 j, .int .i64 a, .int .i64 b]] w fun e w' => e = .returned (.bool (decide ((gp ps i).id = a ∧ (gp ps j).id = b))) ∧ Below w.heap.size w w' := by
  have hl := low1 w (.cells #[.int .i64 i, .int .i64 j, .int .i64 a, .int .i64 b] 114)
  have hx : (w.alloc (.cells #[.int .i64 i, .int .i64 j, .int .i64 a, .int .i64 b] 114)).heap[w.heap.size]? = some (.cells #[.int .i64 i, .int .i64 j, .int .i64 a, .int .i64 b] 114 (0, 0)) := heap_alloc_new w _
  have r1 := r.kept hl
  clear r
  generalize hW0 : w.alloc (.cells #[.int .i64 i, .int .i64 j, .int .i64 a, .int .i64 b] 114) = w0 at *
  have bx0 : w0.cell? ⟨w.heap.size, 0, none⟩ = some (.int .i64 i) := by simp [World.cell?, hx]
  have bx1 : w0.cell? ⟨w.heap.size, 1, none⟩ = some (.int .i64 j) := by simp [World.cell?, hx]
  have bx2 : w0.cell? ⟨w.heap.size, 2, none⟩ = some (.int .i64 a) := by simp [World.cell?, hx]
  have bx3 : w0.cell? ⟨w.heap.size, 3, none⟩ = some (.int .i64 b) := by simp [World.cell?, hx]
  obtain ⟨g, cap, rfl, hg, i0, _, _⟩ := r1.part hi
  obtain ⟨g', cap', hv2, _, j0, _, _⟩ := r1.part hj
  simp only [Value.slice.injEq, Option.some.injEq, Addr.mk.injEq, and_true, true_and] at hv2
  obtain ⟨rfl, rfl⟩ := hv2
  have q2 := r1.cs.2.2.1
  have hi0 : (0 : Int) ≤ (i : Int) := by omega
  have hi1 : (i : Int) < (ps.length : Int) := by omega
  have hj0 : (0 : Int) ≤ (j : Int) := by omega
  have hj1 : (j : Int) < (ps.length : Int) := by omega
  generalize (gp ps i).id = x at *
  generalize (gp ps j).id = y at *
  clear r1 hx
  by_cases hxa : x = a
  · have hxb : (x == a) = true := by simpa using hxa
    go_enter Try.func62, Try.ntmps62
    go_wp2
    clear hW0
    go_quiet (fail)
    go_wp2
    go_ret
    refine ⟨?_, ⟨hl.os, hl.tape, hl.output, hl.size, hl.block⟩⟩
    by_cases hyb : y = b <;> simp [hxa, hyb]
  · have hxb : (x == a) = false := by simpa using hxa
    go_enter Try.func62, Try.ntmps62
    go_wp2
    clear hW0
    go_quiet (fail)
    go_wp2
    go_ret
    refine ⟨?_, ⟨hl.os, hl.tape, hl.output, hl.size, hl.block⟩⟩
    simp [hxa]
end

/-- The token whose parents two are. -/
def prC (mg : List (Int × Int)) (a b : Int) (x : Int) (ok : Bool) : Prop := (ok = false ∧ x = 0 ∧ (a, b) ∉ mg) ∨ ∃ i : Nat, ok = true ∧ x = 256 + i ∧ i < mg.length ∧ gm mg i = (a, b)
theorem tpair_c {F : List Nat} {p b2 b3 : Nat} {v0 v1 : Value} {tx : List ByteArray} {mg : List (Int × Int)} {lg : Int} (hk : Tok tx mg) (a b : Int) (hw : wfM (a, b)) :
    ∃ x ok, prC mg a b x ok ∧ ∀ w, TAt F p v0 v1 b2 b3 tx mg lg w → Calls Try.prog 64 #[.pointer (some ⟨p, 0, none⟩), .int .i64 a, .int .i64 b] w fun e w' => e = .returned (.tuple #[.int .i64 x, .bool ok]) ∧ w' = w := by
  by_cases hm : (a, b) ∈ mg
  · obtain ⟨i, hi, e⟩ := gm_mem hm
    refine ⟨256 + i, true, Or.inr ⟨i, rfl, rfl, hi, e⟩, fun w h => ?_⟩
    have := tpair_any h i hi hk.wf
    rw [e] at this
    exact this
  · exact ⟨0, false, Or.inl ⟨rfl, rfl, hm⟩, fun w h => tpair_none h a b hw hk.wf hm⟩

section
variable {base : Nat} {F : List Nat} {pT : Nat} {v0 v1 : Value} {b2 b3 : Nat} {tx : List ByteArray} {mg : List (Int × Int)} {q : Nat} {bl : Int} {vp : Value} {ps ps' : List Pt} {h : Nat} {hv hv' : Value} {tn tn' : Int} {l l' : List Hq.It} {st : Int} {w w' : World}

theorem await_out (r : RAt base F pT v0 v1 b2 b3 tx mg q bl vp ps h hv tn l st w) (i j : Int) (hout : i < 0 ∨ (ps.length : Int) ≤ j) :
    Calls Try.prog 60 #[.pointer (some ⟨q, 0, none⟩), .int .i64 i, .int .i64 j] w fun e w' => e = .returned (.tuple #[]) ∧ w' = w := by
  obtain ⟨ao, cap, rfl⟩ := row_form r.prow
  have q2 := r.cs.2.2.1
  clear r
  by_cases h0 : i < 0
  · have hb : decide (i < 0) = true := by simpa using h0
    go_enter Try.func60, Try.ntmps60
    go_wp2
    (try simp only [Exit.inBlock, Exit.then])
    refine bodyPost_ret (results_none rfl _ _ _) rfl ?_
    exact ⟨rfl, rfl⟩
  · have hb : decide (i < 0) = false := by simpa using h0
    have hj : (ps.length : Int) ≤ j := by omega
    go_enter Try.func60, Try.ntmps60
    go_wp2
    (try simp only [Exit.inBlock, Exit.then])
    refine bodyPost_ret (results_none rfl _ _ _) rfl ?_
    exact ⟨rfl, rfl⟩

set_option maxRecDepth 20000 in
set_option maxHeartbeats 4000000 in
theorem await_in (r : RAt base F pT v0 v1 b2 b3 tx mg q bl vp ps h hv tn l st w) (hHp : Hq.Hp l) (hk : Tok tx mg) (hn : l.length ≤ 900000) (ht : 0 ≤ tn ∧ tn ≤ 1000000000) (i j : Nat) (hi : i < ps.length) (hj : j < ps.length) (hw : wfM ((gp ps i).id, (gp ps j).id)) :
    Calls Try.prog 60 #[.pointer (some ⟨q, 0, none⟩), .int .i64 i, .int .i64 j] w fun e w' => e = .returned (.tuple #[]) ∧ ∃ hv' tn' l', RAt base F pT v0 v1 b2 b3 tx mg q bl vp ps h hv' tn' l' st w' ∧ Hq.Hp l' ∧ (Below base w w' ∧ Hq.Fr h hv w w') ∧
      ((tn' = tn ∧ l' = l ∧ ∀ k, k < mg.length → 256 + (k : Int) < bl → gm mg k ≠ ((gp ps i).id, (gp ps j).id)) ∨ (∃ k : Nat, k < mg.length ∧ 256 + (k : Int) < bl ∧ gm mg k = ((gp ps i).id, (gp ps j).id) ∧ tn' = tn + 1 ∧ l'.Perm (⟨256 + k, i, tn, i, j, (gp ps i).id, (gp ps j).id⟩ :: l))) := by
  obtain ⟨g, cap, rfl, hg, i0, _, _⟩ := r.part hi
  obtain ⟨g', cap', hv2, _, j0, _, _⟩ := r.part hj
  simp only [Value.slice.injEq, Option.some.injEq, Addr.mk.injEq, and_true, true_and] at hv2
  obtain ⟨rfl, rfl⟩ := hv2
  obtain ⟨q0, q1, q2, q3, q4, qf⟩ := r.cs
  have hi0 : ¬ ((i : Int) < 0) := by omega
  have hi1 : (i : Int) < (ps.length : Int) := by omega
  have hj0 : (0 : Int) ≤ (j : Int) := by omega
  have hj1 : (j : Int) < (ps.length : Int) := by omega
  obtain ⟨x, ok, hx, hP⟩ := tpair_c (F := F) (p := pT) (b2 := b2) (b3 := b3) (v0 := v0) (v1 := v1) (lg := lgs tx) hk _ _ hw
  have HP := hide hP
  have HX := hide hx
  have R := hide r
  have hql := r.lt
  generalize (gp ps i).id = a at *
  generalize (gp ps j).id = b at *
  clear hP hx r hw
  go_enter Try.func60, Try.ntmps60
  go_wp2
  go_region
  have hl : Below w.heap.size w (w.alloc (.cells #[.int .i64 i, .int .i64 j, .int .i64 a, .int .i64 b] 114)).drew := (low1 w _).drew
  have hx : (w.alloc (.cells #[.int .i64 i, .int .i64 j, .int .i64 a, .int .i64 b] 114)).drew.heap[w.heap.size]? = some (.cells #[.int .i64 i, .int .i64 j, .int .i64 a, .int .i64 b] 114 (0, 0)) := heap_alloc_new w _
  have R1 := hide (R.out.kept hl)
  clear q0 q1 q2 q3 q4 qf i0 j0
  generalize (w.alloc (.cells #[.int .i64 i, .int .i64 j, .int .i64 a, .int .i64 b] 114)).drew = w1 at *
  obtain ⟨q0, q1, q2, q3, q4, qf⟩ := R1.out.cs
  have bx0 : w1.cell? ⟨w.heap.size, 0, none⟩ = some (.int .i64 i) := by simp [World.cell?, hx]
  have bx1 : w1.cell? ⟨w.heap.size, 1, none⟩ = some (.int .i64 j) := by simp [World.cell?, hx]
  have bx2 : w1.cell? ⟨w.heap.size, 2, none⟩ = some (.int .i64 a) := by simp [World.cell?, hx]
  have bx3 : w1.cell? ⟨w.heap.size, 3, none⟩ = some (.int .i64 b) := by simp [World.cell?, hx]
  have HPn := hide (fun n => HP.out (w1.drewN n) (R1.out.tab.keptB ⟨rfl, rfl, rfl, Nat.le_refl _, fun _ _ => rfl⟩))
  go_wp2
  go_quiet ((first | (go_at_call 64; exact Calls.quiet_of_same (HPn.out _))))
  have hd : Below w1.heap.size w1 (w1.drewN nq) := ⟨rfl, rfl, rfl, Nat.le_refl _, fun _ _ => rfl⟩
  have R2 := hide (R1.out.kept hd)
  have hl2 := hl.trans (hd.mono hl.size)
  clear q0 q1 q2 q3 q4 qf HPn R1 hd hl
  rcases HX.out with ⟨rfl, rfl, hm⟩ | ⟨k, rfl, rfl, hkl, hgm⟩
  · generalize w1.drewN nq = w2 at *
    clear bx0 bx1 bx2 bx3
    go_wp2
    go_end0
    refine ⟨rfl, hv, tn, l, R2.out, hHp, ⟨hl2.mono R.out.base_le, Hq.Fr.ofBelow hl2⟩, Or.inl ⟨rfl, rfl, fun k hk _ e => hm ?_⟩⟩
    rw [← e, gm, List.getD_eq_getElem?_getD, List.getElem?_eq_getElem hk]
    exact List.getElem_mem hk
  · have HPU := hide (fun (W : World) (hW : HpA base h hv tn l W) (hz : base ≤ W.heap.size) => Hq.push_any base h hv tn l W hW hHp hn ht (256 + (k : Int)) (i : Int) (i : Int) (j : Int) a b hz)
    have bd0 := bx0
    have hd2 : Below w1.heap.size w1 (w1.drewN nq) := ⟨rfl, rfl, rfl, Nat.le_refl _, fun _ _ => rfl⟩
    have hx2 := (hd2.block _ (Array.getElem?_eq_some_iff.1 hx).1).trans hx
    clear bx0 bx1 bx2 bx3 bd0 hd2 hx
    generalize w1.drewN nq = w2 at *
    obtain ⟨q0, q1, q2, q3, q4, qf⟩ := R2.out.cs
    have bx0 : w2.cell? ⟨w.heap.size, 0, none⟩ = some (.int .i64 i) := by simp [World.cell?, hx2]
    have bx1 : w2.cell? ⟨w.heap.size, 1, none⟩ = some (.int .i64 j) := by simp [World.cell?, hx2]
    have bx2 : w2.cell? ⟨w.heap.size, 2, none⟩ = some (.int .i64 a) := by simp [World.cell?, hx2]
    have bx3 : w2.cell? ⟨w.heap.size, 3, none⟩ = some (.int .i64 b) := by simp [World.cell?, hx2]
    clear hx2
    by_cases hbl : 256 + (k : Int) < bl
    · go_wp2
      go_region_with (go_at_call 65; refine (HPU.out _ (by first | exact R2.out.hp.drew | exact R2.out.hp) (by first | exact R2.out.base_le)).mono ?_; rintro e w3 ⟨rfl, hv', l', hH3, hHp3, hP3, hF3, hN3⟩)
      all_goals
        go_wp2
        go_end0
        have hF3' : Hq.Fr h hv w2 w3 := ⟨hF3.os, hF3.tape, hF3.output, hF3.size, hF3.block⟩
        have hN3' : Hq.Nw w2 hv hv' := hN3
        obtain ⟨rr, rb⟩ := R2.out.heaped hH3 hF3' hN3'
        have hlb := hl2.mono R.out.base_le
        exact ⟨rfl, hv', tn + 1, l', rr, hHp3, ⟨hlb.trans rb, (Hq.Fr.ofBelow hl2).trans' hF3'⟩, Or.inr ⟨k, hkl, hbl, hgm, rfl, hP3⟩⟩
    · have hbd : decide (256 + (k : Int) < bl) = false := by simpa using hbl
      go_wp2
      go_end0
      refine ⟨rfl, hv, tn, l, R2.out, hHp, ⟨hl2.mono R.out.base_le, Hq.Fr.ofBelow hl2⟩, Or.inl ⟨rfl, rfl, fun k2 hk2 hb2 e => ?_⟩⟩
      have := hk.uniq hkl hk2 (hgm.trans e.symm)
      subst this
      omega
end

/-- What await does to the heap. -/
def AwR (mg : List (Int × Int)) (bl : Int) (ps : List Pt) (L R : Int) (tn : Int) (l : List Hq.It) (tn' : Int) (l' : List Hq.It) : Prop :=
  ((L < 0 ∨ (ps.length : Int) ≤ R) ∧ tn' = tn ∧ l' = l) ∨ ∃ i j : Nat, L = i ∧ R = j ∧ i < ps.length ∧ j < ps.length ∧
    ((tn' = tn ∧ l' = l ∧ ∀ k, k < mg.length → 256 + (k : Int) < bl → gm mg k ≠ ((gp ps i).id, (gp ps j).id)) ∨ (∃ k : Nat, k < mg.length ∧ 256 + (k : Int) < bl ∧ gm mg k = ((gp ps i).id, (gp ps j).id) ∧ tn' = tn + 1 ∧ l'.Perm (⟨256 + k, i, tn, i, j, (gp ps i).id, (gp ps j).id⟩ :: l)))
theorem AwR.bound {mg : List (Int × Int)} {bl : Int} {ps : List Pt} {L R tn tn' : Int} {l l' : List Hq.It} (h : AwR mg bl ps L R tn l tn' l') : l'.length ≤ l.length + 1 ∧ tn ≤ tn' ∧ tn' ≤ tn + 1 := by
  rcases h with ⟨_, rfl, rfl⟩ | ⟨i, j, _, _, _, _, ⟨rfl, rfl, _⟩ | ⟨k, _, _, _, rfl, hp⟩⟩
  · omega
  · omega
  · have := hp.length_eq
    simp at this
    omega
/-- Numbers of tokens, or of none. -/
def okP (ps : List Pt) : Prop := ∀ k, -1 ≤ (gp ps k).id ∧ (gp ps k).id ≤ 2000

section
variable {base : Nat} {F : List Nat} {pT : Nat} {v0 v1 : Value} {b2 b3 : Nat} {tx : List ByteArray} {mg : List (Int × Int)} {q : Nat} {bl : Int} {vp : Value} {ps ps' : List Pt} {h : Nat} {hv hv' : Value} {tn tn' : Int} {l l' : List Hq.It} {st : Int} {w w' : World}

theorem await_any (r : RAt base F pT v0 v1 b2 b3 tx mg q bl vp ps h hv tn l st w) (hHp : Hq.Hp l) (hk : Tok tx mg) (hn : l.length ≤ 900000) (ht : 0 ≤ tn ∧ tn ≤ 1000000000) (hok : okP ps) (L R : Int) (hLR : (L < 0 ∨ (ps.length : Int) ≤ R) ∨ ∃ i j : Nat, L = i ∧ R = j ∧ i < ps.length ∧ j < ps.length) :
    Calls Try.prog 60 #[.pointer (some ⟨q, 0, none⟩), .int .i64 L, .int .i64 R] w fun e w' => e = .returned (.tuple #[]) ∧ ∃ hv' tn' l', RAt base F pT v0 v1 b2 b3 tx mg q bl vp ps h hv' tn' l' st w' ∧ Hq.Hp l' ∧ (Below base w w' ∧ Hq.Fr h hv w w') ∧ AwR mg bl ps L R tn l tn' l' := by
  rcases hLR with hout | ⟨i, j, rfl, rfl, hi, hj⟩
  · refine (await_out r L R hout).mono ?_
    rintro e w' ⟨rfl, rfl⟩
    exact ⟨rfl, hv, tn, l, r, hHp, ⟨Below.refl _ _, Hq.Fr.refl _ _ _⟩, Or.inl ⟨hout, rfl, rfl⟩⟩
  · have h1 := hok i
    have h2 := hok j
    refine (await_in r hHp hk hn ht i j hi hj ⟨WalkArith.wf_i64 (by omega), WalkArith.wf_i64 (by omega)⟩).mono ?_
    rintro e w' ⟨rfl, hv', tn', l', rr, hp', hb, hd⟩
    exact ⟨rfl, hv', tn', l', rr, hp', hb, Or.inr ⟨i, j, rfl, rfl, hi, hj, hd⟩⟩

/-- A cell of the parts is changed. -/
theorem RAt.setG {g n cap : Nat} (r : RAt base F pT v0 v1 b2 b3 tx mg q bl (.slice (some ⟨g, 0, none⟩) n cap) ps h hv tn l st w) (o : Nat) (u : Value) (hp' : fl3 ps' = (fl3 ps).set o u) (hl : ps'.length = ps.length) :
    RAt base F pT v0 v1 b2 b3 tx mg q bl (.slice (some ⟨g, 0, none⟩) n cap) ps' h hv tn l st (w.setCell ⟨g, o, none⟩ u) ∧ Below base w (w.setCell ⟨g, o, none⟩ u) := by
  have hgq : g ≠ q := fun e => r.pq (by simp [Value.ownBlock, e])
  have hgh : g ≠ h := fun e => r.ph (by simp [Value.ownBlock, e])
  have hbg : base ≤ g := (r.prow.lt g rfl).1
  have hB : Below base w (w.setCell ⟨g, o, none⟩ u) := (Below.refl base w).setCell hbg u
  have hgr : w.grownBy (w.setCell ⟨g, o, none⟩ u) (some g) := ⟨rfl, rfl, rfl, by simp, fun k hk hne => heap_setCell_other w ⟨g, o, none⟩ k u (fun e => hne (by simp [e]))⟩
  have hn : n = ps.length := by
    obtain ⟨ao, c, e⟩ := row_form r.prow
    simp only [Value.slice.injEq] at e
    exact e.2.1
  subst hn
  obtain ⟨r1, _⟩ := r.prow.stored o u
  refine ⟨⟨(hgr.block q r.lt (by simp; omega)).trans r.cells, ?_, ⟨(hgr.block h r.hp.lt (by simp; omega)).trans r.hp.st, r.hp.row.kept hgr (Or.inr (fun e => r.hpv g e rfl)), r.hp.ne, r.hp.bp⟩, r.tab.keptL hB r.low, r.low, r.bq, r.qh, r.pq, r.ph, r.hq, r.hpv⟩, hB⟩
  rw [hl, hp']
  exact r1
/-- The steps are counted. -/
theorem RAt.setS (r : RAt base F pT v0 v1 b2 b3 tx mg q bl vp ps h hv tn l st w) (x : Int) :
    RAt base F pT v0 v1 b2 b3 tx mg q bl vp ps h hv tn l x (w.setCell ⟨q, 4, none⟩ (.int .i64 x)) ∧ Below base w (w.setCell ⟨q, 4, none⟩ (.int .i64 x)) := by
  have hB : Below base w (w.setCell ⟨q, 4, none⟩ (.int .i64 x)) := (Below.refl base w).setCell r.bq _
  have hgr : w.grownBy (w.setCell ⟨q, 4, none⟩ (.int .i64 x)) (some q) := ⟨rfl, rfl, rfl, by simp, fun k hk hne => heap_setCell_other w ⟨q, 4, none⟩ k _ (fun e => hne (by simp [e]))⟩
  refine ⟨⟨?_, r.prow.kept hgr (Or.inr r.pq), ⟨(hgr.block h r.hp.lt (by simp; exact fun e => r.qh e.symm)).trans r.hp.st, r.hp.row.kept hgr (Or.inr r.hq), r.hp.ne, r.hp.bp⟩, r.tab.keptL hB r.low, r.low, r.bq, r.qh, r.pq, r.ph, r.hq, r.hpv⟩, hB⟩
  rw [heap_setCell_same w q 4 _ _ _ r.cells]
  rfl
end

end Go.Proofs.Ytlfffalfnnmliaa
