/- Contracts of package chain: settle. -/
import Derived.Test.YtlfffalfnnmliaaChE
import Derived.Deep.LoopGhost
namespace Go.Proofs.Ytlfffalfnnmliaa
open Go.RowKit Go.Maps
set_option linter.unusedVariables false
set_option linter.unusedSimpArgs false
attribute [local go_sem ↓] Go.wp_at_zero Go.wp_at_succ

section
variable {base : Nat} {F : List Nat} {pT : Nat} {v0 v1 : Value} {b2 b3 : Nat} {tx : List ByteArray} {mg : List (Int × Int)} {q : Nat} {bl : Int} {vp : Value} {h : Nat}

/-- What holds at the head of settle's loop, and behind it: n rounds at most are to come. -/
structure SeI (base : Nat) (F : List Nat) (pT : Nat) (v0 v1 : Value) (b2 b3 : Nat) (tx : List ByteArray) (mg : List (Int × Int)) (q : Nat) (bl : Int) (vp : Value) (h : Nat) (N : Nat) (X : List Int) (w : World) (ps : List Pt) (hv : Value) (tn : Int) (l : List Hq.It) (st : Int) (T : List Int) (wr : World) : Prop where
  r : RAt base F pT v0 v1 b2 b3 tx mg q bl vp ps h hv tn l st wr
  hp : Hq.Hp l
  s : StI tx mg bl ps T l
  ok : okP ps
  len : ps.length = N
  t0 : 0 ≤ tn
  t1 : tn + 2 * T.length ≤ 3 * N
  l1 : l.length + 2 * T.length ≤ 3 * N
  st1 : st + T.length = N
  st0 : 0 ≤ st
  e : enc mg (rnds mg bl) T = X
  B : Below base w wr

theorem SeI.stale {N : Nat} {X : List Int} {w wr w2 w3 : World} {ps : List Pt} {hv hv' : Value} {tn : Int} {l l' : List Hq.It} {st : Int} {T : List Int} (I : SeI base F pT v0 v1 b2 b3 tx mg q bl vp h N X w ps hv tn l st T wr) (hk : Tok tx mg) (h0 : 0 < l.length) (hH : HpA base h hv' tn l' w2) (hHp : Hq.Hp l') (hP : l'.Perm l.tail) (hF : Hq.Fr h hv wr w2) (hve : hv'.ownBlock = hv.ownBlock) (hb : Below w2.heap.size w2 w3) {i j : Nat} (hi : (Hq.gi l 0).x1 = i) (hj : (Hq.gi l 0).x2 = j) (hns : ¬ ((gp ps i).id = (Hq.gi l 0).x3 ∧ (gp ps j).id = (Hq.gi l 0).x4)) : SeI base F pT v0 v1 b2 b3 tx mg q bl vp h N X w ps hv' tn l' st T w3 := by
  obtain ⟨rr, rb⟩ := I.r.heaped hH hF (Or.inl hve)
  have hl : l'.length ≤ l.length := by have := hP.length_eq; simp at this; omega
  have := I.l1
  exact ⟨rr.kept hb, hHp, I.s.stale hk h0 hP hi hj hns, I.ok, I.len, I.t0, I.t1, by omega, I.st1, I.st0, I.e, (I.B.trans rb).trans (hb.mono (by have := rr.base_le; omega))⟩

theorem SeI.joined {N : Nat} {X : List Int} {w wr w4 : World} {ps : List Pt} {hv hv' : Value} {tn tn1 tn' : Int} {l l0 l1 l' : List Hq.It} {st : Int} {T : List Int} (I : SeI base F pT v0 v1 b2 b3 tx mg q bl vp h N X w ps hv tn l st T wr) (hk : Tok tx mg) (h0 : 0 < l.length) (hP : l0.Perm l.tail) {i j A K : Nat} {u v : List Int} {a b : Int}
    (hK : K < mg.length) (hg : gm mg K = (a, b)) (hT : T = u ++ a :: b :: v) (hp : pos tx u = i) (hj : j = i + sz tx a) (hA : A = j + sz tx b) (hpi : (Hq.gi l 0).p = i) (hX : enc mg (rnds mg bl) T = enc mg (rnds mg bl) (u ++ (256 + (K : Int)) :: v))
    (r' : RAt base F pT v0 v1 b2 b3 tx mg q bl vp (jn ps i j A (256 + (K : Int))) h hv' tn' l' (st + 1) w4) (hHp' : Hq.Hp l') (hB : Below base w w4) (aw1 : AwR mg bl (jn ps i j A (256 + (K : Int))) (gp ps i).ah i tn l0 tn1 l1) (aw2 : AwR mg bl (jn ps i j A (256 + (K : Int))) i A tn1 l1 tn' l') :
    SeI base F pT v0 v1 b2 b3 tx mg q bl vp h N X w (jn ps i j A (256 + (K : Int))) hv' tn' l' (st + 1) (u ++ (256 + (K : Int)) :: v) w4 ∧ l'.length + 2 * (u ++ (256 + (K : Int)) :: v).length < l.length + 2 * T.length := by
  have b1 := aw1.bound
  have b2 := aw2.bound
  have hl0 := hP.length_eq
  simp at hl0
  have hTl : T.length = u.length + v.length + 2 := by rw [hT]; simp; omega
  have hTl' : (u ++ (256 + (K : Int)) :: v).length = u.length + v.length + 1 := by simp; omega
  have two := Lay.two a b v u (-1) 0 (hT ▸ I.s.lay)
  simp only [Nat.zero_add, hp] at two
  rw [← hj] at two
  have hle := two.2.2.2.2.1
  have za := two.2.2.1
  have zb := two.2.2.2.1
  have hcap := hk.cap
  have hlen := hk.len
  refine ⟨⟨r', hHp', I.s.joined hk h0 hP hK hg hT hp hj hA hpi aw1 aw2, jn_ok I.ok (by omega) (by omega) (by omega) (by omega) (by omega), by rw [jn_len]; exact I.len, by have := I.t0; omega, ?_, ?_, ?_, by have := I.st0; omega, hX.symm.trans I.e, hB⟩, ?_⟩
  · rw [hTl']; have := I.t1; omega
  · rw [hTl']; have := I.l1; omega
  · rw [hTl']; have := I.st1; omega
  · rw [hTl']; omega

set_option maxRecDepth 20000 in
set_option maxHeartbeats 8000000 in
theorem settle_any (N : Nat) (X : List Int) (w : World) (hk : Tok tx mg) (hN : N ≤ 100000) {ps : List Pt} {hv : Value} {tn : Int} {l : List Hq.It} {st : Int} {T : List Int} (I : SeI base F pT v0 v1 b2 b3 tx mg q bl vp h N X w ps hv tn l st T w) :
    Calls Try.prog 57 #[.pointer (some ⟨q, 0, none⟩)] w fun e w' => e = .returned (.tuple #[]) ∧ ∃ ps hv tn st T, SeI base F pT v0 v1 b2 b3 tx mg q bl vp h N X w ps hv tn [] st T w' := by
  go_enter Try.func57, Try.ntmps57
  go_wp2
  go_loopg [3] (3 * N + 1) (fun k _ wr => ∃ ps hv tn l st T, Hid (SeI base F pT v0 v1 b2 b3 tx mg q bl vp h N X w ps hv tn l st T wr ∧ l.length + 2 * T.length < k))
  case atStart => exact ⟨ps, hv, tn, l, st, T, hide ⟨I, by have := I.l1; omega⟩⟩
  case round =>
    clear I
    obtain ⟨ps, hv, tn, l, st, T, HI⟩ := hrel
    have I := HI.out.1
    have HM := hide HI.out.2
    clear HI
    have hln := I.l1
    obtain ⟨q0, q1, q2, q3, q4, qf⟩ := I.r.cs
    by_cases h0 : 0 < l.length
    · have hl := head_gi h0
      obtain ⟨i, j, K0, g1, g2, g3, g4, g5, g6, g7, g8, g9, g10⟩ := I.s.e1 (Hq.gi l 0) (by rw [hl]; exact List.mem_cons_self)
      have HPO := hide (Hq.pop_some base h hv tn l wr I.r.hp I.hp h0 (by omega))
      have hsy := I.st1
      have hst0 := I.st0
      have htn := I.t1
      have ht0 := I.t0
      have HIJ := hide (show (Hq.gi l 0).x1 = i ∧ (Hq.gi l 0).x2 = j from ⟨g1, g2⟩)
      have HG := hide (show (Hq.gi l 0).p = i ∧ (Hq.gi l 0).r = 256 + (K0 : Int) ∧ K0 < mg.length ∧ j = i + sz tx (Hq.gi l 0).x3 ∧ i < j ∧ j < ps.length from ⟨g3, g4, g5, g8, g9, g10⟩)
      unfold Hq.V4 at HPO
      rw [g1, g2, g3, g4] at HPO
      have HEX := hide (show ∃ a b, a = (Hq.gi l 0).x3 ∧ b = (Hq.gi l 0).x4 from ⟨_, _, rfl, rfl⟩)
      obtain ⟨a, b, ha, hb⟩ := HEX.out
      rw [← ha, ← hb] at HPO
      have HAB := hide (And.intro ha hb)
      have hil : i < ps.length := by omega
      have hjl : j < ps.length := g10
      have hNl := I.len
      have II := hide I
      have HNL := hide hNl
      have HHL := hide hl
      clear I ha hb g1 g2 g3 g4 g5 g6 g7 g8 g9 g10 HEX hl hNl
      go_wp2_with fail
      refine (unhide HPO).mono ?_
      rintro e w2 ⟨rfl, hv2, l2, hH2, hHp2, hP2, hF2, hve2⟩
      obtain ⟨rr, rb⟩ := II.out.r.heaped hH2 hF2 (Or.inl hve2)
      have hlow := low1 w2 (.cells #[.int .i64 i, .int .i64 j, .int .i64 a, .int .i64 b] 114)
      have r3 := rr.kept hlow
      have hx3 : (w2.alloc (.cells #[.int .i64 i, .int .i64 j, .int .i64 a, .int .i64 b] 114)).heap[w2.heap.size]? = some (.cells #[.int .i64 i, .int .i64 j, .int .i64 a, .int .i64 b] 114 (0, 0)) := heap_alloc_new w2 _
      have HST := hide (stands_any r3 i j hil hjl a b)
      clear q0 q1 q2 q3 q4 qf HPO
      go_wp2_with fail
      refine (unhide HST).mono ?_
      rintro e w4 ⟨rfl, hb4⟩
      have hlow2 := hlow.trans (hb4.mono hlow.size)
      have hx4 := (hb4.block _ (Array.getElem?_eq_some_iff.1 hx3).1).trans hx3
      have bx0 : w4.cell? ⟨w2.heap.size, 0, none⟩ = some (.int .i64 i) := by simp [World.cell?, hx4]
      have bx1 : w4.cell? ⟨w2.heap.size, 1, none⟩ = some (.int .i64 j) := by simp [World.cell?, hx4]
      have bx2 : w4.cell? ⟨w2.heap.size, 2, none⟩ = some (.int .i64 a) := by simp [World.cell?, hx4]
      have bx3 : w4.cell? ⟨w2.heap.size, 3, none⟩ = some (.int .i64 b) := by simp [World.cell?, hx4]
      clear hx3 hx4 HST r3 hlow hb4
      by_cases hs : (gp ps i).id = a ∧ (gp ps j).id = b
      · have hd : decide ((gp ps i).id = a ∧ (gp ps j).id = b) = true := by simpa using hs
        rw [hd]
        obtain ⟨K, u, v, a', b', t1, t2, t3, t4, t5, t6, t7, t8, t9, t10, t11⟩ := II.out.s.top hk II.out.hp h0 HIJ.out.1 HIJ.out.2 (by rw [← HAB.out.1, ← HAB.out.2]; exact hs)
        have ea : a' = a := t9.symm.trans HAB.out.1.symm
        have eb : b' = b := t10.symm.trans HAB.out.2.symm
        subst ea eb
        have hKK : K = K0 := by have := HG.out.2.1; omega
        subst hKK
        have two := Lay.two a' b' v u (-1) 0 (t6 ▸ II.out.s.lay)
        simp only [Nat.zero_add, t7] at two
        rw [← t8] at two
        have r4 := rr.kept hlow2
        have hcap := hk.cap
        have hlen := hk.len
        have HJ := hide (join_any r4 hHp2 hk (by have := hP2.length_eq; simp at this; omega) (by omega) II.out.ok i j (j + sz tx b') (256 + (K : Int)) a' b' hil hjl (by have := two.2.2.1; omega) (by have := two.2.2.2.1; omega) two.2.2.2.2.2.2.2.2.1 (by have := two.2.2.2.2.1; have := HNL.out; omega) (by rcases two.2.2.2.2.2.2.2.2.2 with ⟨_, e0⟩ | ⟨u', x, e0, e1⟩; · { left; omega }; · { right; refine ⟨_, e1, ?_⟩; have e2 := congrArg (pos tx) e0; rw [pos_append, t7] at e2; omega }) (by omega) (by omega))
        have HRB := hide rb
        have HTT := hide (And.intro t1 (And.intro t5 (And.intro t6 (And.intro t7 (And.intro t8 (And.intro t4 t11))))))
        have HPP := hide hP2
        have HLW := hide hlow2
        have HRR := hide rr
        clear two t1 t2 t3 t4 t5 t6 t7 t8 t9 t10 t11 r4 rr rb hd hs hH2 hHp2 hP2 hF2 hve2 hlow2 hcap hlen
        go_wp2_with fail
        refine (unhide HJ).mono ?_
        rintro e w5 ⟨rfl, hv5, tn1, l1, tn5, l5, r5, hp5, hB5, aw1, aw2⟩
        have hfin := SeI.joined II.out hk h0 HPP.out HTT.out.1 HTT.out.2.1 HTT.out.2.2.1 HTT.out.2.2.2.1 HTT.out.2.2.2.2.1 rfl HTT.out.2.2.2.2.2.1 HTT.out.2.2.2.2.2.2 r5 hp5 (((II.out.B.trans HRB.out).trans (HLW.out.mono HRR.out.base_le)).trans hB5) aw1 aw2
        have HF := hide hfin
        clear hfin r5 hp5 hB5 aw1 aw2
        go_wp2
        go_roundg (gk - 1)
        case measure => have := HM.out; omega
        case rel => exact ⟨_, hv5, tn5, l5, st + 1, _, hide ⟨HF.out.1, by have := HF.out.2; have := HM.out; omega⟩⟩
      · have hd : decide ((gp ps i).id = a ∧ (gp ps j).id = b) = false := by simpa using hs
        rw [hd]
        have hfin := SeI.stale II.out hk h0 hH2 hHp2 hP2 hF2 hve2 hlow2 HIJ.out.1 HIJ.out.2 (by rw [← HAB.out.1, ← HAB.out.2]; exact hs)
        have hl2 : l2.length + 1 = l.length := by have := hP2.length_eq; simp at this; omega
        have HF := hide (And.intro hfin hl2)
        clear hfin hl2 rr rb hd hs hH2 hHp2 hP2 hF2 hve2 hlow2
        go_wp2
        go_roundg (gk - 1)
        case measure => have := HM.out; omega
        case rel => exact ⟨ps, hv2, tn, l2, st, T, hide ⟨HF.out.1, by have := HF.out.2; have := HM.out; omega⟩⟩
    · obtain rfl : l = [] := List.eq_nil_of_length_eq_zero (by omega)
      have HPO := hide (Hq.pop_none base h hv tn wr I.r.hp)
      have II := hide I
      clear I
      go_wp2_with fail
      refine (unhide HPO).mono ?_
      rintro e w2 ⟨rfl, hb⟩
      unfold Hq.Z4
      go_wp2
      (try simp only [Exit.inBlock, Exit.then])
      refine bodyPost_ret (results_none rfl _ _ _) rfl ?_
      refine ⟨rfl, ps, hv, tn, st, T, ?_⟩
      have hbb := hb.trans ((low1 w2 (.cells #[.int .i64 0, .int .i64 0, .int .i64 0, .int .i64 0] 114)).mono hb.size)
      have I := II.out
      exact ⟨I.r.kept hbb, I.hp, I.s, I.ok, I.len, I.t0, I.t1, I.l1, I.st1, I.st0, I.e, I.B.trans (hbb.mono I.r.base_le)⟩
end

end Go.Proofs.Ytlfffalfnnmliaa
