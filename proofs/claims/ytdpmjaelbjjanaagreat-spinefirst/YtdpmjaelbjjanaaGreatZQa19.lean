/- Contracts of package chain: settle. Contracts of package chain: rowOf. Contracts of package chain: rowOf's walk. -/
import Derived.Test.YtdpmjaelbjjanaaGreatZQa18
import Derived.Deep.LoopGhost
import Derived.Laws.MakeOwn
import Derived.BigRegion
import Derived.Deep.RegionWith
namespace Go.Proofs.YtdpmjaelbjjanaaGreat
open Go.RowKit Go.Maps
set_option linter.unusedVariables false
set_option linter.unusedSimpArgs false
attribute [local go_sem ↓] Go.wp_at_zero Go.wp_at_succ

section
variable {base : Nat} {F : List Nat} {pT : Nat} {v0 v1 : Value} {b2 b3 : Nat} {tx : List ByteArray} {mg : List (Int × Int)} {q : Nat} {bl : Int} {vp : Value} {h : Nat}

/-- What holds at the head of settle's loop, and behind it: n rounds at most are to come. -/
structure SeI (base : Nat) (F : List Nat) (pT : Nat) (v0 v1 : Value) (b2 b3 : Nat) (tx : List ByteArray) (mg : List (Int × Int)) (q : Nat) (bl : Int) (vp : Value) (h : Nat) (N : Nat) (X : List Int) (w : World) (ps : List Pt) (hv : Value) (tn : Int) (l : List Hq.It) (st : Int) (T : List Int) (wr : World) : Prop where
  r : RAt base F pT v0 v1 b2 b3 tx mg q bl vp ps h hv tn l st wr
  hp : Hq.Hp l
  s : StI tx mg bl ps T l
  ok : okP ps
  len : ps.length = N
  t0 : 0 ≤ tn
  t1 : tn + 2 * T.length ≤ 3 * N
  l1 : l.length + 2 * T.length ≤ 3 * N
  st1 : st + T.length = N
  st0 : 0 ≤ st
  e : enc mg (rnds mg bl) T = X
  B : Below base w wr

theorem SeI.stale {N : Nat} {X : List Int} {w wr w2 w3 : World} {ps : List Pt} {hv hv' : Value} {tn : Int} {l l' : List Hq.It} {st : Int} {T : List Int} (I : SeI base F pT v0 v1 b2 b3 tx mg q bl vp h N X w ps hv tn l st T wr) (hk : Tok tx mg) (h0 : 0 < l.length) (hH : HpA base h hv' tn l' w2) (hHp : Hq.Hp l') (hP : l'.Perm l.tail) (hF : Hq.Fr h hv wr w2) (hve : hv'.ownBlock = hv.ownBlock) (hb : Below w2.heap.size w2 w3) {i j : Nat} (hi : (Hq.gi l 0).x1 = i) (hj : (Hq.gi l 0).x2 = j) (hns : ¬ ((gp ps i).id = (Hq.gi l 0).x3 ∧ (gp ps j).id = (Hq.gi l 0).x4)) : SeI base F pT v0 v1 b2 b3 tx mg q bl vp h N X w ps hv' tn l' st T w3 := by
  obtain ⟨rr, rb⟩ := I.r.heaped hH hF (Or.inl hve)
  have hl : l'.length ≤ l.length := by have := hP.length_eq; simp at this; omega
  have := I.l1
  exact ⟨rr.kept hb, hHp, I.s.stale hk h0 hP hi hj hns, I.ok, I.len, I.t0, I.t1, by omega, I.st1, I.st0, I.e, (I.B.trans rb).trans (hb.mono (by have := rr.base_le; omega))⟩

theorem SeI.joined {N : Nat} {X : List Int} {w wr w4 : World} {ps : List Pt} {hv hv' : Value} {tn tn1 tn' : Int} {l l0 l1 l' : List Hq.It} {st : Int} {T : List Int} (I : SeI base F pT v0 v1 b2 b3 tx mg q bl vp h N X w ps hv tn l st T wr) (hk : Tok tx mg) (h0 : 0 < l.length) (hP : l0.Perm l.tail) {i j A K : Nat} {u v : List Int} {a b : Int}
    (hK : K < mg.length) (hg : gm mg K = (a, b)) (hT : T = u ++ a :: b :: v) (hp : pos tx u = i) (hj : j = i + sz tx a) (hA : A = j + sz tx b) (hpi : (Hq.gi l 0).p = i) (hX : enc mg (rnds mg bl) T = enc mg (rnds mg bl) (u ++ (256 + (K : Int)) :: v))
    (r' : RAt base F pT v0 v1 b2 b3 tx mg q bl vp (jn ps i j A (256 + (K : Int))) h hv' tn' l' (st + 1) w4) (hHp' : Hq.Hp l') (hB : Below base w w4) (aw1 : AwR mg bl (jn ps i j A (256 + (K : Int))) (gp ps i).ah i tn l0 tn1 l1) (aw2 : AwR mg bl (jn ps i j A (256 + (K : Int))) i A tn1 l1 tn' l') :
    SeI base F pT v0 v1 b2 b3 tx mg q bl vp h N X w (jn ps i j A (256 + (K : Int))) hv' tn' l' (st + 1) (u ++ (256 + (K : Int)) :: v) w4 ∧ l'.length + 2 * (u ++ (256 + (K : Int)) :: v).length < l.length + 2 * T.length := by
  have b1 := aw1.bound
  have b2 := aw2.bound
  have hl0 := hP.length_eq
  simp at hl0
  have hTl : T.length = u.length + v.length + 2 := by rw [hT]; simp; omega
  have hTl' : (u ++ (256 + (K : Int)) :: v).length = u.length + v.length + 1 := by simp; omega
  have two := Lay.two a b v u (-1) 0 (hT ▸ I.s.lay)
  simp only [Nat.zero_add, hp] at two
  rw [← hj] at two
  have hle := two.2.2.2.2.1
  have za := two.2.2.1
  have zb := two.2.2.2.1
  have hcap := hk.cap
  have hlen := hk.len
  refine ⟨⟨r', hHp', I.s.joined hk h0 hP hK hg hT hp hj hA hpi aw1 aw2, jn_ok I.ok (by omega) (by omega) (by omega) (by omega) (by omega), by rw [jn_len]; exact I.len, by have := I.t0; omega, ?_, ?_, ?_, by have := I.st0; omega, hX.symm.trans I.e, hB⟩, ?_⟩
  · rw [hTl']; have := I.t1; omega
  · rw [hTl']; have := I.l1; omega
  · rw [hTl']; have := I.st1; omega
  · rw [hTl']; omega

set_option maxRecDepth 20000 in
set_option maxHeartbeats 8000000 in
theorem settle_any (N : Nat) (X : List Int) (w : World) (hk : Tok tx mg) (hN : N ≤ 100000) {ps : List Pt} {hv : Value} {tn : Int} {l : List Hq.It} {st : Int} {T : List Int} (I : SeI base F pT v0 v1 b2 b3 tx mg q bl vp h N X w ps hv tn l st T w) :
    Calls Tryz.prog 146 #[.pointer (some ⟨q, 0, none⟩)] w fun e w' => e = .returned (.tuple #[]) ∧ ∃ ps hv tn st T, SeI base F pT v0 v1 b2 b3 tx mg q bl vp h N X w ps hv tn [] st T w' := by
  go_enter Tryz.func146, Tryz.ntmps146
  go_wp2
  go_loopg [3] (3 * N + 1) (fun k _ wr => ∃ ps hv tn l st T, Hid (SeI base F pT v0 v1 b2 b3 tx mg q bl vp h N X w ps hv tn l st T wr ∧ l.length + 2 * T.length < k))
  case atStart => exact ⟨ps, hv, tn, l, st, T, hide ⟨I, by have := I.l1; omega⟩⟩
  case round =>
    clear I
    obtain ⟨ps, hv, tn, l, st, T, HI⟩ := hrel
    have I := HI.out.1
    have HM := hide HI.out.2
    clear HI
    have hln := I.l1
    obtain ⟨q0, q1, q2, q3, q4, qf⟩ := I.r.cs
    by_cases h0 : 0 < l.length
    · have hl := head_gi h0
      obtain ⟨i, j, K0, g1, g2, g3, g4, g5, g6, g7, g8, g9, g10⟩ := I.s.e1 (Hq.gi l 0) (by rw [hl]; exact List.mem_cons_self)
      have HPO := hide (Hq.pop_some base h hv tn l wr I.r.hp I.hp h0 (by omega))
      have hsy := I.st1
      have hst0 := I.st0
      have htn := I.t1
      have ht0 := I.t0
      have HIJ := hide (show (Hq.gi l 0).x1 = i ∧ (Hq.gi l 0).x2 = j from ⟨g1, g2⟩)
      have HG := hide (show (Hq.gi l 0).p = i ∧ (Hq.gi l 0).r = 256 + (K0 : Int) ∧ K0 < mg.length ∧ j = i + sz tx (Hq.gi l 0).x3 ∧ i < j ∧ j < ps.length from ⟨g3, g4, g5, g8, g9, g10⟩)
      unfold Hq.V4 at HPO
      rw [g1, g2, g3, g4] at HPO
      have HEX := hide (show ∃ a b, a = (Hq.gi l 0).x3 ∧ b = (Hq.gi l 0).x4 from ⟨_, _, rfl, rfl⟩)
      obtain ⟨a, b, ha, hb⟩ := HEX.out
      rw [← ha, ← hb] at HPO
      have HAB := hide (And.intro ha hb)
      have hil : i < ps.length := by omega
      have hjl : j < ps.length := g10
      have hNl := I.len
      have II := hide I
      have HNL := hide hNl
      have HHL := hide hl
      clear I ha hb g1 g2 g3 g4 g5 g6 g7 g8 g9 g10 HEX hl hNl
      go_wp2_with fail
      refine (unhide HPO).mono ?_
      rintro e w2 ⟨rfl, hv2, l2, hH2, hHp2, hP2, hF2, hve2⟩
      obtain ⟨rr, rb⟩ := II.out.r.heaped hH2 hF2 (Or.inl hve2)
      have hlow := low1 w2 (.cells #[.int .i64 i, .int .i64 j, .int .i64 a, .int .i64 b] 251)
      have r3 := rr.kept hlow
      have hx3 : (w2.alloc (.cells #[.int .i64 i, .int .i64 j, .int .i64 a, .int .i64 b] 251)).heap[w2.heap.size]? = some (.cells #[.int .i64 i, .int .i64 j, .int .i64 a, .int .i64 b] 251 (0, 0)) := heap_alloc_new w2 _
      have HST := hide (stands_any r3 i j hil hjl a b)
      clear q0 q1 q2 q3 q4 qf HPO
      go_wp2_with fail
      refine (unhide HST).mono ?_
      rintro e w4 ⟨rfl, hb4⟩
      have hlow2 := hlow.trans (hb4.mono hlow.size)
      have hx4 := (hb4.block _ (Array.getElem?_eq_some_iff.1 hx3).1).trans hx3
      have bx0 : w4.cell? ⟨w2.heap.size, 0, none⟩ = some (.int .i64 i) := by simp [World.cell?, hx4]
      have bx1 : w4.cell? ⟨w2.heap.size, 1, none⟩ = some (.int .i64 j) := by simp [World.cell?, hx4]
      have bx2 : w4.cell? ⟨w2.heap.size, 2, none⟩ = some (.int .i64 a) := by simp [World.cell?, hx4]
      have bx3 : w4.cell? ⟨w2.heap.size, 3, none⟩ = some (.int .i64 b) := by simp [World.cell?, hx4]
      clear hx3 hx4 HST r3 hlow hb4
      by_cases hs : (gp ps i).id = a ∧ (gp ps j).id = b
      · have hd : decide ((gp ps i).id = a ∧ (gp ps j).id = b) = true := by simpa using hs
        rw [hd]
        obtain ⟨K, u, v, a', b', t1, t2, t3, t4, t5, t6, t7, t8, t9, t10, t11⟩ := II.out.s.top hk II.out.hp h0 HIJ.out.1 HIJ.out.2 (by rw [← HAB.out.1, ← HAB.out.2]; exact hs)
        have ea : a' = a := t9.symm.trans HAB.out.1.symm
        have eb : b' = b := t10.symm.trans HAB.out.2.symm
        subst ea eb
        have hKK : K = K0 := by have := HG.out.2.1; omega
        subst hKK
        have two := Lay.two a' b' v u (-1) 0 (t6 ▸ II.out.s.lay)
        simp only [Nat.zero_add, t7] at two
        rw [← t8] at two
        have r4 := rr.kept hlow2
        have hcap := hk.cap
        have hlen := hk.len
        have HJ := hide (join_any r4 hHp2 hk (by have := hP2.length_eq; simp at this; omega) (by omega) II.out.ok i j (j + sz tx b') (256 + (K : Int)) a' b' hil hjl (by have := two.2.2.1; omega) (by have := two.2.2.2.1; omega) two.2.2.2.2.2.2.2.2.1 (by have := two.2.2.2.2.1; have := HNL.out; omega) (by rcases two.2.2.2.2.2.2.2.2.2 with ⟨_, e0⟩ | ⟨u', x, e0, e1⟩; · { left; omega }; · { right; refine ⟨_, e1, ?_⟩; have e2 := congrArg (pos tx) e0; rw [pos_append, t7] at e2; omega }) (by omega) (by omega))
        have HRB := hide rb
        have HTT := hide (And.intro t1 (And.intro t5 (And.intro t6 (And.intro t7 (And.intro t8 (And.intro t4 t11))))))
        have HPP := hide hP2
        have HLW := hide hlow2
        have HRR := hide rr
        clear two t1 t2 t3 t4 t5 t6 t7 t8 t9 t10 t11 r4 rr rb hd hs hH2 hHp2 hP2 hF2 hve2 hlow2 hcap hlen
        go_wp2_with fail
        refine (unhide HJ).mono ?_
        rintro e w5 ⟨rfl, hv5, tn1, l1, tn5, l5, r5, hp5, hB5, aw1, aw2⟩
        have hfin := SeI.joined II.out hk h0 HPP.out HTT.out.1 HTT.out.2.1 HTT.out.2.2.1 HTT.out.2.2.2.1 HTT.out.2.2.2.2.1 rfl HTT.out.2.2.2.2.2.1 HTT.out.2.2.2.2.2.2 r5 hp5 (((II.out.B.trans HRB.out).trans (HLW.out.mono HRR.out.base_le)).trans hB5) aw1 aw2
        have HF := hide hfin
        clear hfin r5 hp5 hB5 aw1 aw2
        go_wp2
        go_roundg (gk - 1)
        case measure => have := HM.out; omega
        case rel => exact ⟨_, hv5, tn5, l5, st + 1, _, hide ⟨HF.out.1, by have := HF.out.2; have := HM.out; omega⟩⟩
      · have hd : decide ((gp ps i).id = a ∧ (gp ps j).id = b) = false := by simpa using hs
        rw [hd]
        have hfin := SeI.stale II.out hk h0 hH2 hHp2 hP2 hF2 hve2 hlow2 HIJ.out.1 HIJ.out.2 (by rw [← HAB.out.1, ← HAB.out.2]; exact hs)
        have hl2 : l2.length + 1 = l.length := by have := hP2.length_eq; simp at this; omega
        have HF := hide (And.intro hfin hl2)
        clear hfin hl2 rr rb hd hs hH2 hHp2 hP2 hF2 hve2 hlow2
        go_wp2
        go_roundg (gk - 1)
        case measure => have := HM.out; omega
        case rel => exact ⟨ps, hv2, tn, l2, st, T, hide ⟨HF.out.1, by have := HF.out.2; have := HM.out; omega⟩⟩
    · obtain rfl : l = [] := List.eq_nil_of_length_eq_zero (by omega)
      have HPO := hide (Hq.pop_none base h hv tn wr I.r.hp)
      have II := hide I
      clear I
      go_wp2_with fail
      refine (unhide HPO).mono ?_
      rintro e w2 ⟨rfl, hb⟩
      unfold Hq.Z4
      go_wp2
      (try simp only [Exit.inBlock, Exit.then])
      refine bodyPost_ret (results_none rfl _ _ _) rfl ?_
      refine ⟨rfl, ps, hv, tn, st, T, ?_⟩
      have hbb := hb.trans ((low1 w2 (.cells #[.int .i64 0, .int .i64 0, .int .i64 0, .int .i64 0] 251)).mono hb.size)
      have I := II.out
      exact ⟨I.r.kept hbb, I.hp, I.s, I.ok, I.len, I.t0, I.t1, I.l1, I.st1, I.st0, I.e, I.B.trans (hbb.mono I.r.base_le)⟩
end

end Go.Proofs.YtdpmjaelbjjanaaGreat

namespace Go.Proofs.YtdpmjaelbjjanaaGreat
open Go.RowKit Go.Maps
set_option linter.unusedVariables false
set_option linter.unusedSimpArgs false
attribute [local go_sem ↓] Go.wp_at_zero Go.wp_at_succ

theorem info_part : (Tryz.prog.info? 255).map (fun i => (i.zero, i.size, i.bytes)) = some (some (.agg #[.int .i64 0, .int .i64 0, .int .i64 0]), 3, 24) := by kernel_rfl
theorem made3 (m : Nat) : (madeCells #[.int .i64 0, .int .i64 0, .int .i64 0] m).toList = List.replicate m (.int .i64 0) := by
  rw [List.eq_replicate_iff]
  refine ⟨by rw [Array.length_toList, size_madeCells], fun b hb => ?_⟩
  simp only [madeCells, Array.toList_map, List.mem_map] at hb
  obtain ⟨i, _, rfl⟩ := hb
  have h3 : i % 3 = 0 ∨ i % 3 = 1 ∨ i % 3 = 2 := by omega
  show (#[Value.int .i64 0, .int .i64 0, .int .i64 0] : Array Value)[i % 3]! = _
  rcases h3 with h | h | h <;> rw [h] <;> rfl
theorem fl3_rep (n : Nat) : fl3 (List.replicate n ptZ) = List.replicate (n * 3) (.int .i64 0) := by
  induction n with
  | zero => rfl
  | succ n ih =>
    rw [List.replicate_succ, fl3, ih, show (n + 1) * 3 = n * 3 + 1 + 1 + 1 by omega, List.replicate_succ, List.replicate_succ, List.replicate_succ]
    rfl
theorem run_parts (w : World) (n : Nat) (hn : n ≤ 1000000) : Sem.run Tryz.prog (Instr.makeSlice 247 (.int .i64 (n : Int)) (.int .i64 (n : Int))) w = .ok (.slice (some ⟨w.heap.size, 0, none⟩) n n) (w.alloc (.cells (madeCells #[.int .i64 0, .int .i64 0, .int .i64 0] (n * 3)) 255)) := by
  obtain ⟨i0, hi, hz0, hz1, hz2⟩ := info_parts info_part
  have := run_make (P := Tryz.prog) w 247 255 i0 _ Tryz.underlying247 hi hz0 .i64 .i64 n n (by omega) (Int.le_refl _) (by rw [hz2]; omega) (by omega)
  rw [hz1] at this
  have e : (Value.agg #[.int .i64 0, .int .i64 0, .int .i64 0]).cells = #[.int .i64 0, .int .i64 0, .int .i64 0] := rfl
  rw [e] at this
  simpa using this

/-- The bytes of a text as numbers: the first k. -/
def bys (s : ByteArray) (k : Nat) : List Int := (s.data.toList.take k).map (fun b => (b.toNat : Int))
def byt (s : ByteArray) (k : Nat) : Int := ((s.data.toList.getD k 0).toNat : Int)
theorem bys_len (s : ByteArray) (k : Nat) (h : k ≤ s.size) : (bys s k).length = k := by
  simp [bys]
  omega
theorem bys_succ (s : ByteArray) (k : Nat) (h : k < s.size) : bys s (k + 1) = bys s k ++ [byt s k] := by
  have hl : k < s.data.toList.length := by simpa using h
  unfold bys byt
  rw [List.take_succ_eq_append_getElem hl, List.map_append]
  simp [List.getD_eq_getElem?_getD, List.getElem?_eq_getElem hl]
theorem byt_lt (s : ByteArray) (k : Nat) : 0 ≤ byt s k ∧ byt s k < 256 := by
  unfold byt
  have := (s.data.toList.getD k 0).toNat_lt
  omega
theorem bys_lt (s : ByteArray) (k : Nat) : ∀ x ∈ bys s k, 0 ≤ x ∧ x < 256 := by
  intro x hx
  simp only [bys, List.mem_map] at hx
  obtain ⟨b, _, rfl⟩ := hx
  have := b.toNat_lt
  omega
theorem sz_byte {tx : List ByteArray} {mg : List (Int × Int)} (hk : Tok tx mg) {x : Int} (h : 0 ≤ x ∧ x < 256) : sz tx x = 1 := by
  unfold sz
  rw [hk.low x.toNat (by omega)]
  rfl
theorem pos_bytes {tx : List ByteArray} {mg : List (Int × Int)} (hk : Tok tx mg) : ∀ (T : List Int), (∀ x ∈ T, 0 ≤ x ∧ x < 256) → pos tx T = T.length
  | [], _ => rfl
  | x :: r, h => by
    simp only [pos, List.length_cons]
    rw [sz_byte hk (h x (List.mem_cons_self)), pos_bytes hk r (fun y hy => h y (List.mem_cons_of_mem _ hy))]
    omega

theorem Lay.snoc {tx : List ByteArray} {mg : List (Int × Int)} (hk : Tok tx mg) {ps ps' : List Pt} {E : Nat} {b : Int} (hb : 0 ≤ b ∧ b < 256) (he : ∀ k, k < E → gp ps' k = gp ps k) : ∀ (T : List Int) (ah : Int) (at_ : Nat), Lay tx ps E ah at_ T → (∀ x ∈ T, 0 ≤ x ∧ x < 256) → gp ps' E = ⟨b, (if T = [] then ah else (E : Int) - 1), (E : Int) + 1⟩ → Lay tx ps' (E + 1) ah at_ (T ++ [b])
  | [], ah, at_, h, hT, hg => by
    have h1 : at_ = E := h
    subst h1
    have hz := sz_byte hk hb
    have hl := hk.len
    refine ⟨by omega, by omega, by omega, ?_, fun k h1 h2 => by omega, ?_⟩
    · rw [hg, if_pos rfl, hz]; simp
    · show at_ + sz tx b = at_ + 1
      omega
  | x :: r, ah, at_, h, hT, hg => by
    obtain ⟨h1, h2, h3, h4, h5, h6⟩ := h
    have hx := sz_byte hk (hT x (List.mem_cons_self))
    refine ⟨h1, h2, by omega, (he _ (by omega)).trans h4, fun k q1 q2 => by rw [he k (by omega)]; exact h5 k q1 q2, ?_⟩
    refine Lay.snoc hk hb he r _ _ h6 (fun y hy => hT y (List.mem_cons_of_mem _ hy)) ?_
    rw [hg, if_neg (by simp)]
    by_cases e : r = []
    · rw [if_pos e]
      subst e
      have : at_ + sz tx x = E := h6
      congr 1
      omega
    · rw [if_neg e]

/-- While the parts are laid. -/
structure StK (tx : List ByteArray) (mg : List (Int × Int)) (bl : Int) (ps : List Pt) (E : Nat) (T : List Int) (l : List Hq.It) : Prop where
  lay : Lay tx ps E (-1) 0 T
  e1 : ∀ e ∈ l, Ent tx mg bl ps.length e
  e2 : ∀ u a b v, T = u ++ a :: b :: v → ∀ K : Nat, K < mg.length → 256 + (K : Int) < bl → gm mg K = (a, b) → ∃ e ∈ l, e.r = 256 + K ∧ e.p = pos tx u

theorem Lay.last {tx : List ByteArray} {mg : List (Int × Int)} (hk : Tok tx mg) {ps : List Pt} {E : Nat} (x : Int) : ∀ (u : List Int) (ah : Int) (at_ : Nat), Lay tx ps E ah at_ (u ++ [x]) → 0 ≤ x ∧ x < 256 → 0 < E ∧ (gp ps (E - 1)).id = x
  | [], ah, at_, h, hx => by
    obtain ⟨h1, h2, h3, h4, h5, h6⟩ := h
    have hz := sz_byte hk hx
    have h7 : at_ + sz tx x = E := h6
    refine ⟨by omega, ?_⟩
    rw [show E - 1 = at_ by omega, h4]
  | y :: u, ah, at_, h, hx => Lay.last hk x u _ _ h.2.2.2.2.2 hx

theorem StK.step {tx : List ByteArray} {mg : List (Int × Int)} (hk : Tok tx mg) {bl : Int} {ps ps' : List Pt} {E : Nat} {T : List Int} {l l' : List Hq.It} (h : StK tx mg bl ps E T l) (hT : ∀ x ∈ T, 0 ≤ x ∧ x < 256) {b : Int} (hb : 0 ≤ b ∧ b < 256) (hlen : ps'.length = ps.length) (hE : E < ps.length) (he : ∀ k, k < E → gp ps' k = gp ps k) (hg : gp ps' E = ⟨b, (E : Int) - 1, (E : Int) + 1⟩)
    {tn tn' : Int} (aw : AwR mg bl ps' ((E : Int) - 1) E tn l tn' l') : StK tx mg bl ps' (E + 1) (T ++ [b]) l' := by
  have hpos := Lay.len T (-1) 0 h.lay
  have hpb := pos_bytes hk T hT
  refine ⟨Lay.snoc hk hb he T (-1) 0 h.lay hT ?_, ?_, ?_⟩
  · rw [hg]
    by_cases e : T = []
    · rw [if_pos e]
      subst e
      simp [pos] at hpos
      subst hpos
      rfl
    · rw [if_neg e]
  · intro e he'
    rcases aw.mem e he' with hm | ⟨i', j', k, q1, q2, q3, q4, q5, q6, q7, rfl⟩
    · rw [hlen]; exact h.e1 e hm
    · obtain rfl : E = j' := by omega
      have hi' : i' = E - 1 := by omega
      subst hi'
      have hz : sz tx (gp ps' (E - 1)).id = 1 := by
        rw [he _ (by omega)]
        rcases List.eq_nil_or_concat T with e0 | ⟨u, x, e0⟩
        · subst e0; simp [pos] at hpos; omega
        · rw [List.concat_eq_append] at e0
          have hxx := hT x (by rw [e0]; simp)
          have hl := Lay.last hk x u (-1) 0 (e0 ▸ h.lay) hxx
          rw [hl.2]
          exact sz_byte hk hxx
      exact ⟨E - 1, E, k, rfl, rfl, rfl, rfl, q5, q6, q7, by rw [hz]; omega, by omega, by rw [hlen] at q4 ⊢; omega⟩
  · intro u a c v hT1 K hK hb1 hg1
    rcases List.eq_nil_or_concat v with e0 | ⟨v', x, e0⟩
    · subst e0
      have e1 : T ++ [b] = (u ++ [a]) ++ [c] := by rw [hT1]; simp
      obtain ⟨e2, e3⟩ := List.append_inj' e1 rfl
      simp at e3
      subst e3
      have haa := hT a (by rw [e2]; simp)
      have hl := Lay.last hk a u (-1) 0 (e2 ▸ h.lay) haa
      have hpu : pos tx u = E - 1 := by
        have := hpos
        rw [e2, pos_append] at this
        simp only [pos, sz_byte hk haa] at this
        omega
      have aw' : AwR mg bl ps' ((E - 1 : Nat) : Int) (E : Int) tn l tn' l' := by
        rw [show ((E - 1 : Nat) : Int) = (E : Int) - 1 by omega]
        exact aw
      obtain ⟨e, he', hr, hp⟩ := aw'.has (by rw [hlen]; exact hE) hK hb1 (by rw [hg1, he _ (by omega), hl.2, hg]) hk
      exact ⟨e, he', hr, by omega⟩
    · rw [List.concat_eq_append] at e0
      subst e0
      have e1 : T ++ [b] = (u ++ a :: c :: v') ++ [x] := by rw [hT1]; simp
      obtain ⟨e2, _⟩ := List.append_inj' e1 rfl
      obtain ⟨e, he', hr, hp⟩ := h.e2 u a c v' e2 K hK hb1 hg1
      exact ⟨e, aw.sub e he', hr, hp⟩

end Go.Proofs.YtdpmjaelbjjanaaGreat

namespace Go.Proofs.YtdpmjaelbjjanaaGreat
open Go.RowKit Go.Maps
set_option linter.unusedVariables false
set_option linter.unusedSimpArgs false
attribute [local go_sem ↓] Go.wp_at_zero Go.wp_at_succ

theorem hnew_eq (w : World) :
    Calls Tryz.prog 162 #[] w fun e w' => e = .returned (.pointer (some ⟨w.heap.size, 0, none⟩)) ∧ w' = w.alloc (.cells #[.slice none 0 0, .int .i64 0] 267) := by
  go_enter Tryz.func162, Tryz.ntmps162
  go_wp2
  go_ret
  exact ⟨rfl, rfl⟩

section
variable {F : List Nat} {pT : Nat} {v0 v1 : Value} {b2 b3 : Nat} {tx : List ByteArray} {mg : List (Int × Int)}

/-- A row that was made just now. -/
theorem row_new (W : World) (base g h q N : Nat) (bl : Int) (hT : TAt F pT v0 v1 b2 b3 tx mg (lgs tx) W) (hlow : ∀ k ∈ F, k < base) (hN : N ≤ 100000)
    (hg : W.heap[g]? = some (.cells (madeCells #[.int .i64 0, .int .i64 0, .int .i64 0] (N * 3)) 255 (0, 0)))
    (hh : W.heap[h]? = some (.cells #[.slice none 0 0, .int .i64 0] 267 (0, 0)))
    (hq : W.heap[q]? = some (.cells #[.pointer (some ⟨pT, 0, none⟩), .int .i64 bl, .slice (some ⟨g, 0, none⟩) N N, .pointer (some ⟨h, 0, none⟩), .int .i64 0] 253 (0, 0)))
    (b1 : base ≤ g) (b2' : base ≤ h) (b3' : base ≤ q) (n1 : g ≠ h) (n2 : g ≠ q) (n3 : h ≠ q) :
    RAt base F pT v0 v1 b2 b3 tx mg q bl (.slice (some ⟨g, 0, none⟩) N N) (List.replicate N ptZ) h (.slice none 0 0) 0 [] 0 W := by
  refine ⟨hq, ⟨by simp [fl3_len], Or.inr ⟨g, N, _, by simp, b1, hg, by simp, by unfold maxLen; omega, size_madeCells _ _, ?_⟩⟩, ⟨hh, World.ownsRow_nil _ _ _ _, by simp [Value.ownBlock], b2'⟩, hT, hlow, b3', fun e => n3 e.symm, by simpa [Value.ownBlock] using n2, by simpa [Value.ownBlock] using n1, by simp [Value.ownBlock], by simp [Value.ownBlock]⟩
  rw [made3, fl3_rep, List.length_replicate, List.take_replicate, Nat.min_self]

/-- What holds at the head of rowOf's loop. -/
structure RoI (base : Nat) (F : List Nat) (pT : Nat) (v0 v1 : Value) (b2 b3 : Nat) (tx : List ByteArray) (mg : List (Int × Int)) (q : Nat) (bl : Int) (vp : Value) (h : Nat) (S : ByteArray) (w : World) (ps : List Pt) (hv : Value) (tn : Int) (l : List Hq.It) (k : Nat) (wr : World) : Prop where
  r : RAt base F pT v0 v1 b2 b3 tx mg q bl vp ps h hv tn l 0 wr
  hp : Hq.Hp l
  s : StK tx mg bl ps k (bys S k) l
  ok : okP ps
  len : ps.length = S.size
  t0 : 0 ≤ tn
  t1 : tn ≤ k
  l1 : l.length ≤ k
  B : Below base w wr

theorem okP_rep (N : Nat) : okP (List.replicate N ptZ) := by
  intro k
  have : gp (List.replicate N ptZ) k = ptZ := by
    unfold gp
    rw [List.getD_eq_getElem?_getD, List.getElem?_replicate]
    split <;> rfl
  rw [this]
  simp [ptZ]

theorem RoI.first {base q h : Nat} {bl : Int} {vp : Value} {s : ByteArray} {w wr : World} (r : RAt base F pT v0 v1 b2 b3 tx mg q bl vp (List.replicate s.size ptZ) h (.slice none 0 0) 0 [] 0 wr) (hB : Below base w wr) : RoI base F pT v0 v1 b2 b3 tx mg q bl vp h s w (List.replicate s.size ptZ) (.slice none 0 0) 0 [] 0 wr :=
  ⟨r, Hq.Hp.nil, ⟨rfl, fun e he => by simp at he, fun u a b v e => by simp [bys] at e⟩, okP_rep _, by simp, Int.le_refl _, by simp, by simp, hB⟩

theorem belowd (B : Nat) (w : World) : Below B w w.drew := ⟨rfl, rfl, rfl, Nat.le_refl _, fun _ _ => rfl⟩

/-- A part is laid. -/
theorem RAt.setP {base q h g n cap : Nat} {bl : Int} {ps : List Pt} {hv : Value} {tn st : Int} {l : List Hq.It} {w : World} (r : RAt base F pT v0 v1 b2 b3 tx mg q bl (.slice (some ⟨g, 0, none⟩) n cap) ps h hv tn l st w) (k : Nat) (hk : k < ps.length) (x y z : Int) :
    RAt base F pT v0 v1 b2 b3 tx mg q bl (.slice (some ⟨g, 0, none⟩) n cap) (ps.set k ⟨x, y, z⟩) h hv tn l st (((w.setCell ⟨g, k * 3, none⟩ (.int .i64 x)).setCell ⟨g, k * 3 + 1, none⟩ (.int .i64 y)).setCell ⟨g, k * 3 + 2, none⟩ (.int .i64 z)) ∧ Below base w (((w.setCell ⟨g, k * 3, none⟩ (.int .i64 x)).setCell ⟨g, k * 3 + 1, none⟩ (.int .i64 y)).setCell ⟨g, k * 3 + 2, none⟩ (.int .i64 z)) := by
  have e1 := fl3_set0 ps k hk x
  have e2 := fl3_set1 (ps.set k ⟨x, (gp ps k).ah, (gp ps k).af⟩) k (by simpa using hk) y
  rw [gp_set _ _ _ _ hk, if_pos rfl, List.set_set] at e2
  have e3 := fl3_set2 (ps.set k ⟨x, y, (gp ps k).af⟩) k (by simpa using hk) z
  rw [gp_set _ _ _ _ hk, if_pos rfl, List.set_set] at e3
  obtain ⟨r1, b1⟩ := r.setG _ _ e1 (by simp)
  obtain ⟨r2, b2⟩ := r1.setG _ _ e2 (by simp)
  obtain ⟨r3, b3⟩ := r2.setG _ _ e3 (by simp)
  exact ⟨r3, (b1.trans b2).trans b3⟩

theorem okP_set {ps : List Pt} (h : okP ps) {k : Nat} (hk : k < ps.length) {a : Pt} (ha : -1 ≤ a.id ∧ a.id ≤ 2000) : okP (ps.set k a) := by
  intro i
  rw [gp_set _ _ _ _ hk]
  split
  · exact ha
  · exact h i

theorem RoI.step {base q h g : Nat} {bl : Int} {n cap : Nat} {s : ByteArray} {w wr w2 : World} {ps : List Pt} {hv hv' : Value} {tn tn' : Int} {l l' : List Hq.It} {k : Nat} (hk : Tok tx mg) (I : RoI base F pT v0 v1 b2 b3 tx mg q bl (.slice (some ⟨g, 0, none⟩) n cap) h s w ps hv tn l k wr) (hks : k < s.size)
    (r' : RAt base F pT v0 v1 b2 b3 tx mg q bl (.slice (some ⟨g, 0, none⟩) n cap) (ps.set k ⟨byt s k, (k : Int) - 1, (k : Int) + 1⟩) h hv' tn' l' 0 w2) (hp' : Hq.Hp l') (hB : Below base wr w2) (aw : AwR mg bl (ps.set k ⟨byt s k, (k : Int) - 1, (k : Int) + 1⟩) ((k : Int) - 1) k tn l tn' l') :
    RoI base F pT v0 v1 b2 b3 tx mg q bl (.slice (some ⟨g, 0, none⟩) n cap) h s w (ps.set k ⟨byt s k, (k : Int) - 1, (k : Int) + 1⟩) hv' tn' l' (k + 1) w2 := by
  have hl : k < ps.length := by rw [I.len]; exact hks
  have hbt := byt_lt s k
  have hb := aw.bound
  have h0 := I.t0
  have h1 := I.t1
  have h2 := I.l1
  refine ⟨r', hp', ?_, okP_set I.ok hl ⟨by simp; omega, by simp; omega⟩, by rw [List.length_set]; exact I.len, by omega, by omega, by omega, I.B.trans hB⟩
  rw [bys_succ s k hks]
  exact I.s.step hk (bys_lt s k) hbt (by simp) hl (fun j hj => by rw [gp_set _ _ _ _ hl, if_neg (by omega)]) (by rw [gp_set _ _ _ _ hl, if_pos rfl]) aw

theorem RoI.done {base q h : Nat} {bl : Int} {vp : Value} {s : ByteArray} {w wr : World} {ps : List Pt} {hv : Value} {tn : Int} {l : List Hq.It} (I : RoI base F pT v0 v1 b2 b3 tx mg q bl vp h s w ps hv tn l s.size wr) : SeI base F pT v0 v1 b2 b3 tx mg q bl vp h s.size (enc mg (rnds mg bl) (bys s s.size)) wr ps hv tn l 0 (bys s s.size) wr := by
  have hl := bys_len s s.size (Nat.le_refl _)
  have h1 := I.t1
  have h2 := I.l1
  refine ⟨I.r, I.hp, ⟨?_, I.s.e1, I.s.e2⟩, I.ok, I.len, I.t0, by omega, by omega, by omega, by omega, rfl, Below.refl _ _⟩
  rw [I.len]
  exact I.s.lay

theorem three (w : World) (o1 o2 o3 : Obj) : (((w.alloc o1).alloc o2).alloc o3).drew.heap[w.heap.size]? = some o1 ∧ (((w.alloc o1).alloc o2).alloc o3).drew.heap[w.heap.size + 1]? = some o2 ∧ (((w.alloc o1).alloc o2).alloc o3).drew.heap[w.heap.size + 1 + 1]? = some o3 ∧ Below w.heap.size w (((w.alloc o1).alloc o2).alloc o3).drew := by
  have s1 : (w.alloc o1).heap.size = w.heap.size + 1 := by simp
  have s2 : ((w.alloc o1).alloc o2).heap.size = w.heap.size + 1 + 1 := by simp
  have l2 := low1 (w.alloc o1) o2
  have l3 := low1 ((w.alloc o1).alloc o2) o3
  have e2 := heap_alloc_new (w.alloc o1) o2
  have e3 := heap_alloc_new ((w.alloc o1).alloc o2) o3
  rw [s1] at e2
  rw [s2] at e3
  refine ⟨?_, ?_, e3, (((low1 w o1).alloc (by omega) o2).alloc (by omega) o3).drew⟩
  · exact (l3.block _ (by omega)).trans ((l2.block _ (by omega)).trans (heap_alloc_new w o1))
  · exact (l3.block _ (by omega)).trans e2

set_option maxRecDepth 20000 in
set_option maxHeartbeats 8000000 in
theorem rowOf_any (w : World) (hT : TAt F pT v0 v1 b2 b3 tx mg (lgs tx) w) (hk : Tok tx mg) (s : ByteArray) (hs : s.size ≤ 100000) (bl : Int) :
    Calls Tryz.prog 145 #[.pointer (some ⟨pT, 0, none⟩), .string s, .int .i64 bl] w fun e w' => ∃ q vp h ps hv tn l, e = .returned (.pointer (some ⟨q, 0, none⟩)) ∧ SeI w.heap.size F pT v0 v1 b2 b3 tx mg q bl vp h s.size (enc mg (rnds mg bl) (bys s s.size)) w' ps hv tn l 0 (bys s s.size) w' ∧ Below w.heap.size w w' := by
  have HMK := fun w => run_parts w s.size (by omega)
  have HT := hide hT
  clear hT
  obtain ⟨base, hbase⟩ : ∃ b, b = w.heap.size := ⟨_, rfl⟩
  have HB := hide hbase
  clear hbase
  go_enter Tryz.func145, Tryz.ntmps145
  go_wp2
  go_region_with (first | (go_at_call 162; refine (hnew_eq _).mono ?_; rintro e w1 ⟨rfl, rfl⟩))
  all_goals clear HMK
  have H3 := three w (.cells (madeCells #[.int .i64 0, .int .i64 0, .int .i64 0] (s.size * 3)) 255) (.cells #[.slice none 0 0, .int .i64 0] 267) (.cells #[.pointer (some ⟨pT, 0, none⟩), .int .i64 bl, .slice (some ⟨w.heap.size, 0, none⟩) s.size s.size, .pointer (some ⟨w.heap.size + 1, 0, none⟩), .int .i64 0] 253)
  have HR : Hid (∃ ps hv tn l, RoI base F pT v0 v1 b2 b3 tx mg (w.heap.size + 1 + 1) bl (.slice (some ⟨w.heap.size, 0, none⟩) s.size s.size) (w.heap.size + 1) s w ps hv tn l 0 (((w.alloc (.cells (madeCells #[.int .i64 0, .int .i64 0, .int .i64 0] (s.size * 3)) 255)).alloc (.cells #[.slice none 0 0, .int .i64 0] 267)).alloc (.cells #[.pointer (some ⟨pT, 0, none⟩), .int .i64 bl, .slice (some ⟨w.heap.size, 0, none⟩) s.size s.size, .pointer (some ⟨w.heap.size + 1, 0, none⟩), .int .i64 0] 253)).drew) := hide ⟨_, _, _, _, RoI.first (row_new _ _ _ _ _ _ bl (HT.out.keptB H3.2.2.2) (fun k hk => by have h1 := HT.out.flt k hk; have h2 := HB.out; omega) (by omega) H3.1 H3.2.1 H3.2.2.1 (by have := HB.out; omega) (by have := HB.out; omega) (by have := HB.out; omega) (by omega) (by omega) (by omega)) (by rw [HB.out]; exact H3.2.2.2)⟩
  clear H3
  generalize (((w.alloc (.cells (madeCells #[.int .i64 0, .int .i64 0, .int .i64 0] (s.size * 3)) 255)).alloc (.cells #[.slice none 0 0, .int .i64 0] 267)).alloc (.cells #[.pointer (some ⟨pT, 0, none⟩), .int .i64 bl, .slice (some ⟨w.heap.size, 0, none⟩) s.size s.size, .pointer (some ⟨w.heap.size + 1, 0, none⟩), .int .i64 0] 253)).drew = W0 at *
  generalize w.heap.size + 1 + 1 = q at *
  generalize w.heap.size + 1 = h at *
  generalize w.heap.size = g at HR ⊢
  rotate_left
  have H3 := three w (.cells #[.slice none 0 0, .int .i64 0] 267) (.cells (madeCells #[.int .i64 0, .int .i64 0, .int .i64 0] (s.size * 3)) 255) (.cells #[.pointer (some ⟨pT, 0, none⟩), .int .i64 bl, .slice (some ⟨w.heap.size + 1, 0, none⟩) s.size s.size, .pointer (some ⟨w.heap.size, 0, none⟩), .int .i64 0] 253)
  have HR : Hid (∃ ps hv tn l, RoI base F pT v0 v1 b2 b3 tx mg (w.heap.size + 1 + 1) bl (.slice (some ⟨w.heap.size + 1, 0, none⟩) s.size s.size) (w.heap.size) s w ps hv tn l 0 (((w.alloc (.cells #[.slice none 0 0, .int .i64 0] 267)).alloc (.cells (madeCells #[.int .i64 0, .int .i64 0, .int .i64 0] (s.size * 3)) 255)).alloc (.cells #[.pointer (some ⟨pT, 0, none⟩), .int .i64 bl, .slice (some ⟨w.heap.size + 1, 0, none⟩) s.size s.size, .pointer (some ⟨w.heap.size, 0, none⟩), .int .i64 0] 253)).drew) := hide ⟨_, _, _, _, RoI.first (row_new _ _ _ _ _ _ bl (HT.out.keptB H3.2.2.2) (fun k hk => by have h1 := HT.out.flt k hk; have h2 := HB.out; omega) (by omega) H3.2.1 H3.1 H3.2.2.1 (by have := HB.out; omega) (by have := HB.out; omega) (by have := HB.out; omega) (by omega) (by omega) (by omega)) (by rw [HB.out]; exact H3.2.2.2)⟩
  clear H3
  generalize (((w.alloc (.cells #[.slice none 0 0, .int .i64 0] 267)).alloc (.cells (madeCells #[.int .i64 0, .int .i64 0, .int .i64 0] (s.size * 3)) 255)).alloc (.cells #[.pointer (some ⟨pT, 0, none⟩), .int .i64 bl, .slice (some ⟨w.heap.size + 1, 0, none⟩) s.size s.size, .pointer (some ⟨w.heap.size, 0, none⟩), .int .i64 0] 253)).drew = W0 at *
  generalize w.heap.size + 1 + 1 = q at *
  generalize w.heap.size + 1 = g at *
  generalize w.heap.size = h at HR ⊢
  all_goals
    obtain ⟨ps0, hv0, tn0, l0, HR0⟩ := HR.out
    have HI0 := hide HR0
    clear HR HR0
    go_wp2
    go_loopw [19] (fun i wr => ∃ (k : Nat) (ps : List Pt) (hv : Value) (tn : Int) (l : List Hq.It), i = .int .i64 k ∧ k ≤ s.size ∧ Hid (RoI base F pT v0 v1 b2 b3 tx mg q bl (.slice (some ⟨g, 0, none⟩) s.size s.size) h s w ps hv tn l k wr)) (fun i _ => s.size - (intOf i).toNat)
    case atStart => exact ⟨0, ps0, hv0, tn0, l0, rfl, Nat.zero_le _, HI0⟩
    case round =>
      clear HI0
      obtain ⟨k, ps, hv, tn, l, rfl, hks, HI⟩ := hrel
      obtain ⟨q0, q1, q2, q3, q4, qf⟩ := HI.out.r.cs
      by_cases hlt : k < s.size
      · have hk0 : (0 : Int) ≤ (k : Int) := by omega
        have hk1 : (k : Int) < (s.size : Int) := by omega
        have hgf := HI.out.r.prow
        rw [HI.out.len] at hgf
        have f0 := hgf.frozenAt (k * 3)
        have f1 := hgf.frozenAt (k * 3 + 1)
        have f2 := hgf.frozenAt (k * 3 + 2)
        have g0 := hgf.cellAt (k * 3) (by omega)
        have g1 := hgf.cellAt (k * 3 + 1) (by omega)
        have g2 := hgf.cellAt (k * 3 + 2) (by omega)
        have hps := fl3_get ps k (by rw [HI.out.len]; exact hlt)
        rw [hps.1] at g0
        rw [hps.2.1] at g1
        rw [hps.2.2] at g2
        clear hgf hps
        go_wp2
        go_region
        have eb : wrap64 ((s[k]'(by simpa using hlt)).toNat : Int) = byt s k := by
          have h1 : byt s k = ((s[k]'(by simpa using hlt)).toNat : Int) := by
            unfold byt
            rw [List.getD_eq_getElem?_getD, List.getElem?_eq_getElem (by simpa using hlt)]
            rfl
          have h2 := byt_lt s k
          rw [← h1]
          unfold wrap64
          omega
        simp only [eb]
        obtain ⟨r1, b1⟩ := HI.out.r.setP k (by rw [HI.out.len]; exact hlt) (byt s k) ((k : Int) - 1) ((k : Int) + 1)
        have hd : Below base _ (World.drew _) := belowd base (((wr.setCell ⟨g, k * 3, none⟩ (.int .i64 (byt s k))).setCell ⟨g, k * 3 + 1, none⟩ (.int .i64 ((k : Int) - 1))).setCell ⟨g, k * 3 + 2, none⟩ (.int .i64 ((k : Int) + 1)))
        have HR1 := hide (r1.kept (belowd _ _))
        have HB1 := hide (b1.trans hd)
        clear r1 b1 hd g0 g1 g2 f0 f1 f2 q0 q1 q2 q3 q4 qf eb
        generalize (((wr.setCell ⟨g, k * 3, none⟩ (.int .i64 (byt s k))).setCell ⟨g, k * 3 + 1, none⟩ (.int .i64 ((k : Int) - 1))).setCell ⟨g, k * 3 + 2, none⟩ (.int .i64 ((k : Int) + 1))).drew = w1 at *
        have HAW := hide (await_any HR1.out HI.out.hp hk (by have := HI.out.l1; omega) (by have := HI.out.t0; have := HI.out.t1; omega) (okP_set HI.out.ok (by rw [HI.out.len]; exact hlt) (by have := byt_lt s k; simp; omega)) ((k : Int) - 1) k (by by_cases e : k = 0; · { left; left; omega }; · { right; exact ⟨k - 1, k, by omega, rfl, by rw [List.length_set, HI.out.len]; omega, by rw [List.length_set, HI.out.len]; omega⟩ }))
        go_wp2_with fail
        refine (unhide HAW).mono ?_
        rintro e w2 ⟨rfl, hv2, tn2, l2, r2, hp2, hb2, aw⟩
        have HS := hide (RoI.step hk HI.out hlt r2 hp2 (HB1.out.trans hb2.1) aw)
        clear r2 hp2 hb2 aw HAW
        go_wp2
        go_roundw
        case rel => exact ⟨k + 1, _, hv2, tn2, l2, by go_num, by omega, HS⟩
        case measure => simp [intOf]; omega
      · obtain rfl : k = s.size := by omega
        go_wp2
        go_ret
        refine ⟨q, .slice (some ⟨g, 0, none⟩) s.size s.size, h, ps, hv, tn, l, rfl, ?_, ?_⟩
        · rw [← HB.out]
          exact HI.out.done
        · rw [← HB.out]
          exact HI.out.B
end

end Go.Proofs.YtdpmjaelbjjanaaGreat
