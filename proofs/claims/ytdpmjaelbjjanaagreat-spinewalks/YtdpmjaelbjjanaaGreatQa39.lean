/- What is made of items: made. slices.Clone of a piece; rows of rows that are new. Contracts of package encode: Items, Text, Plain, Made; of no vocabulary. The pieces of right items: encode.Pieces. Pieces and what is made of them: pure facts. Pieces as they lie in memory, read; numbers put behind others while other rows stay. The laws' case: what a vocabulary is made of; Great and Of. The example of the laws of layer 12. -/
import Derived.Sort.CutIn
import Derived.Test.YtdpmjaelbjjanaaGreatQa37
import Derived.Test.YtdpmjaelbjjanaaGreatQa30
import Derived.Test.YtdpmjaelbjjanaaGreatQa31
import Derived.Test.YtdpmjaelbjjanaaGreatQa38
import Derived.Test.YtdpmjaelbjjanaaGreatQa35
import Derived.Test.YtdpmjaelbjjanaaGreatQa33
namespace Go.Proofs.YtdpmjaelbjjanaaGreat
open Go.RowKit Go.Maps
set_option linter.unusedVariables false
set_option linter.unusedSimpArgs false
attribute [local go_sem] Oper.semAt_some

/-- What is made of a piece; of pieces. -/
abbrev tE (s : Wf.Sp) : Int := (txT s).length
def mkE1 (s : Wf.Sp) (p : List Int) : List Int := mk1E (mgT s) (tE s) s.specials p
def mkEs {s : Wf.Sp} {I : List Int} (pre : List (PcT s I)) : List Int := pre.flatMap (fun x => mkE1 s (pcL x))
theorem mkEs_snoc {s : Wf.Sp} {I : List Int} (pre : List (PcT s I)) (x : PcT s I) : mkEs (pre ++ [x]) = mkEs pre ++ mkE1 s (pcL x) := by
  unfold mkEs
  rw [List.flatMap_append]
  simp
theorem mkEs_all {s : Wf.Sp} {I : List Int} {ys : List (PcT s I)} (h : ys.map pcL = rns (icE (cuE s)) I) : mkEs ys = encG (cuE s) (mgT s) (tE s) s.specials I := by
  unfold mkEs encG
  rw [← h, List.flatMap_map]
  rfl
theorem pcL_ne {s : Wf.Sp} {I : List Int} (x : PcT s I) : pcL x ≠ [] := rns_ne _ _ x.2.2.2
theorem pcL_len {s : Wf.Sp} {I : List Int} (x : PcT s I) : (pcL x).length = x.1.2 := by
  unfold pcL
  have := x.2.2.1
  rw [List.length_take, List.length_drop]
  omega
theorem mkEs_len {s : Wf.Sp} {I : List Int} : ∀ pre : List (PcT s I), (mkEs pre).length ≤ pre.length * I.length
  | [] => by simp [mkEs]
  | x :: r => by
    have ih := mkEs_len r
    have h1 : (mkE1 s (pcL x)).length ≤ I.length := by
      have h2 := mk1_len (mgT s) (tE s) s.specials (pcL_ne x)
      rw [pcL_len] at h2
      have := x.2.2.1
      unfold mkE1
      omega
    have e : mkEs (x :: r) = mkE1 s (pcL x) ++ mkEs r := by unfold mkEs; rw [List.flatMap_cons]
    rw [e, List.length_append, List.length_cons, Nat.succ_mul]
    omega
theorem wpListIn_append_runE {F : Fence} {n : Nat} {P : Program} (w : World) {ops : Array Oper} {rest : List Oper} {o : Oper} {a : Act} {Q : Exit → Act → World → Prop}
    (hg : o.guard = none) (s x : Operand) (t tn : TypeId) (hop : o.op = Op.call { callee := Callee.builtin Builtin.append, args := #[s, x], argTypes := #[t, tn] }) (vs vx : Value) (hs : a.eval s = vs) (hx : a.eval x = vx)
    (v' : Value) (w' : World) (hr : (Builtin.append_ #[t, tn] o.type #[vs, vx]).run P w = .ok v' w') (hK : wpListIn F n P ops Q rest (a.put o.dst v') w') :
    wpListIn F n P ops Q (o :: rest) a w := by
  refine wpListIn_plain hg fun K hK' => ?_
  unfold Oper.wpIn
  refine ⟨?_, ?_⟩
  · simp [Oper.about, hop, resolve, Target.leads, Sem.run_pure]
  · rw [Oper.semAt_plain F _ _ (by rw [hop]; intro c hc'; cases hc')]
    simp [execOp, hop, resolve, invoke, builtin, hs, hx, hr, Result.andThen]
    exact hK' _ _ hK

/-- In a round an operation that is no defer statement is carried out as anywhere: so is a region. -/
theorem oper_round {F : Fence} {n : Nat} {P : Program} {o : Oper} {a : Act} {w : World} {K : Act → World → Prop} {Q : Exit → Act → World → Prop} (l : Nat) (h : ∀ c, o.op ≠ .defer c) (hh : o.wpIn F n P a w K Q) : o.wpIn (F.inRound l) n P a w K Q := by
  have h2 := hh.2
  refine ⟨hh.1, ?_⟩
  rw [Oper.semAt_plain F _ _ h] at h2
  rw [Oper.semAt_plain (F.inRound l) _ _ h]
  exact h2
theorem wpAny_round {F : Fence} {n : Nat} {P : Program} {md : Region.Mode} {ops : Array Oper} {Q : Exit → Act → World → Prop} (l : Nat) (h : ∀ (i : Nat) (o : Oper), ops[i]? = some o → ∀ c, o.op ≠ .defer c) :
    ∀ (fuel : Nat) (listed : Array Bool) (a : Act) (w : World), wpAnyIn F n P md ops Q fuel listed a w → wpAnyIn (F.inRound l) n P md ops Q fuel listed a w
  | 0, _, _, _, hh => hh
  | fuel + 1, listed, a, w, hh => by
    refine ⟨hh.1, fun i hi => ?_⟩
    have h1 := wpOpIn_mono (fun a w => wpAny_round l h fuel (listed.setIfInBounds i true) a w) (hh.2 i hi)
    unfold wpOpIn at h1 ⊢
    split
    · rename_i e
      simpa only [e] using h1
    · rename_i o e
      simp only [e] at h1
      split
      · rename_i hw
        simp only [hw, if_true] at h1
        exact oper_round l (h i o e) h1
      · rename_i hw
        simp only [hw] at h1
        exact h1
theorem region_round {F : Fence} {n : Nat} {P : Program} {id : Nat} {l : Nat} {os : List Oper} {Q : Exit → Act → World → Prop} {a : Act} {w : World} (hm : P.follows .mixedOrders = true) (h : ∀ o ∈ os, ∀ c, o.op ≠ .defer c)
    (hh : wpAnyIn F n P .any os.toArray Q os.length (Array.replicate os.length false) a w.drew) : (Code.region id os.toArray true).wpIn (F.inRound l) n P Q a w := by
  refine wpIn_region_any hm (wpAny_round l (fun i o e c => h o (by
    have := (Array.getElem?_eq_some_iff.1 e)
    obtain ⟨h1, h2⟩ := this
    rw [← h2]
    simp) c) _ _ _ _ ?_)
  simpa using hh
theorem oper_append_run {F : Fence} {n : Nat} {P : Program} {w : World} {ops : Array Oper} {o : Oper} {a : Act} {K : Act → World → Prop} {Q : Exit → Act → World → Prop} {E : Prop} (hgd : o.guard = none) (s x : Operand) (t tn : TypeId)
    (hop : o.op = .call { callee := .builtin .append, args := #[s, x], argTypes := #[t, tn] }) (vs vx : Value) (hs : a.eval s = vs) (hx : a.eval x = vx)
    (v' : Value) (w' : World) (hr : (Builtin.append_ #[t, tn] o.type #[vs, vx]).run P w = .ok v' w') (h : K (a.put o.dst v') w') :
    if Region.wanted o (yielded ops a.tmps) = true then Oper.wpIn F n P o a w K Q else E := by
  have hw : Region.wanted o (yielded ops a.tmps) = true := by simp [Region.wanted, hgd]
  rw [if_pos hw]
  unfold Oper.wpIn
  refine ⟨?_, ?_⟩
  · simp [Oper.about, hop, resolve, Target.leads, Sem.run_pure]
  · rw [Oper.semAt_plain F _ _ (by rw [hop]; intro c hc'; cases hc')]
    simp [execOp, hop, resolve, invoke, builtin, hs, hx, hr, Result.andThen]
    exact h
theorem rnd_bytes (T : List (List UInt8)) : ∀ p : List Int, (∀ x ∈ p, 0 ≤ x ∧ x < 256) → Mk.rnd T p = some (p.map u8E)
  | [], _ => rfl
  | x :: r, h => by
    have ih := rnd_bytes T r (fun y hy => h y (List.mem_cons_of_mem _ hy))
    have hx := h x (by simp)
    rw [Mk.rnd, Mk.itm_byte T hx.1 hx.2, ih]
    rfl
theorem mk1E_ne {s : Wf.Sp} (hK : VOk s) {p : List Int} (h0 : p ≠ []) (hp : ∀ x ∈ p, 0 ≤ x) : 0 < (made (mgT s) (tE s) (bsE p)).length := by
  have h := catV_made hK (tE s) (bsE p)
  rcases Nat.eq_zero_or_pos (made (mgT s) (tE s) (bsE p)).length with e | e
  · have e2 := List.length_eq_zero_iff.1 e
    rw [e2] at h
    have h2 := congrArg List.length h
    rw [Mk.bys_len] at h2
    have h3 : (bsE p).size = p.length := by simp [bsE, ByteArray.size]
    rw [h3] at h2
    simp [catV] at h2
    exact absurd (List.length_eq_zero_iff.1 h2.symm) h0
  · exact e

theorem rdI_sub {W : World} {b off n k m : Nat} {I : List Int} (h : Mk.RdI W (some ⟨b, off, none⟩) n I) (h1 : k + m ≤ I.length) : Mk.RdI W (some ⟨b, off + k, none⟩) m ((I.drop k).take m) := by
  refine ⟨by rw [List.length_take, List.length_drop]; omega, ?_⟩
  rcases h.2 with h0 | ⟨b', off', e, hbl, hc⟩
  · left
    have := h.1
    omega
  · simp only [Option.some.injEq, Addr.mk.injEq, and_true] at e
    obtain ⟨rfl, rfl⟩ := e
    refine Or.inr ⟨b, off + k, rfl, hbl, fun i hi => ?_⟩
    have := h.1
    have h3 := hc (k + i) (by omega)
    rw [Nat.add_assoc, h3]
    simp [Mk.gI, List.getD_eq_getElem?_getD, List.getElem?_take, hi]
/-- Where the loop stands. -/
structure MdI (w : World) (Bo Bm Bt Bv pm p q : Nat) (L : List Int) (W : World) : Prop where
  bel : Below w.heap.size w W
  ho : w.heap.size ≤ Bo
  out : ∃ v, Boxed W Bo 41 v ∧ W.ownsRow w.heap.size 3 1 v L.length (Mk.iv L)
  bm : Boxed W Bm 126 (.pointer (some ⟨pm, 0, none⟩))
  bt : Boxed W Bt 53 (.pointer (some ⟨p, 0, none⟩))
  bv : Boxed W Bv 30 (.pointer (some ⟨q, 0, none⟩))
theorem boxed_low {W W' : World} {B : Nat} {t : TypeId} {v : Value} (h : Boxed W B t v) (hb : Below W.heap.size W W') : Boxed W' B t v := by
  unfold Boxed
  rw [hb.block B h.lt]
  exact h
theorem keeps_low {W W' : World} (h : Below W.heap.size W W') (B : Nat) : KeepsFrom B W W' := ⟨h.size, fun k o _ hk _ => (h.block k (Array.getElem?_eq_some_iff.1 hk).1).trans hk⟩
section
variable {w W W' : World} {Bo Bm Bt Bv pm p q : Nat} {L : List Int}
theorem MdI.low (h : MdI w Bo Bm Bt Bv pm p q L W) (hb : Below W.heap.size W W') : MdI w Bo Bm Bt Bv pm p q L W' := by
  obtain ⟨v, h1, h2⟩ := h.out
  exact ⟨h.bel.trans (hb.mono h.bel.size), h.ho, ⟨v, boxed_low h1 hb, row_keptB h2 hb⟩, boxed_low h.bm hb, boxed_low h.bt hb, boxed_low h.bv hb⟩
theorem MdI.own {β : Type} {B0 : Nat} (hB : w.heap.size ≤ B0) (f : β → List Int) : OwnFrom B0 (fun s W => MdI w Bo Bm Bt Bv pm p q (f s) W) := fun s X Y row h hg hr => by
  have hr2 : ∀ r, row = some r → ∃ o : Obj, X.heap[r]? = some o ∧ o.isCells = false := fun r e => (hr r e).2
  obtain ⟨v, h1, h2, _⟩ := holdsRow_own w.heap.size Bo 41 3 1 (fun s => (f s).length) (fun s => Mk.iv (f s)) (fun _ _ => True) s X Y row ⟨_, h.out.choose_spec.1, h.out.choose_spec.2, trivial⟩ hg hr2
  exact ⟨ownFrom_below (Nat.le_refl _) hB s X Y row h.bel hg hr, h.ho, ⟨v, h1, h2⟩, boxed_own Bm _ (fun _ => _) s X Y row h.bm hg hr2, boxed_own Bt _ (fun _ => _) s X Y row h.bt hg hr2, boxed_own Bv _ (fun _ => _) s X Y row h.bv hg hr2⟩
theorem MdI.kp (h : MdI w Bo Bm Bt Bv pm p q L W) (hb : Below W.heap.size W W') : KpE w.heap.size Bv W W' := ⟨hb.mono h.bel.size, hb.block Bv h.bv.lt⟩
theorem boxed_ne {W : World} {B B' : Nat} {t t' : TypeId} {v v' : Value} (h : Boxed W B t v) (h' : Boxed W B' t' v') (hne : t ≠ t') : B ≠ B' := by
  rintro rfl
  have e := (show W.heap[B]? = _ from h).symm.trans (show W.heap[B]? = _ from h')
  simp at e
  exact hne e.2
/-- What is put behind is stored. -/
theorem MdI.stored (h : MdI w Bo Bm Bt Bv pm p q L W) {v v' : Value} {L' : List Int} {W0 w1 : World} (hv : Boxed W Bo 41 v) (hrow : W.ownsRow w.heap.size 3 1 v L.length (Mk.iv L)) (hb : Below W.heap.size W W0) (hg : W0.grownBy w1 v.ownBlock) (hown : w1.ownsRow w.heap.size 3 1 v' L'.length (Mk.iv L')) (B : Nat) :
    w1.cell? ⟨Bo, 0, none⟩ = some v ∧ w1.frozen? ⟨Bo, 0, none⟩ = false ∧ MdI w Bo Bm Bt Bv pm p q L' (w1.setCell ⟨Bo, 0, none⟩ v') ∧ KeepsFrom B W (w1.setCell ⟨Bo, 0, none⟩ v') ∧ KpE w.heap.size Bv W (w1.setCell ⟨Bo, 0, none⟩ v') := by
  have h0 := h.low hb
  have hv0 := boxed_low hv hb
  have hr0 := row_keptB hrow hb
  have hv1 := hv0.kept hg (hv0.not_row (by decide) hr0)
  have hm1 := h0.bm.kept hg (h0.bm.not_row (by decide) hr0)
  have ht1 := h0.bt.kept hg (h0.bt.not_row (by decide) hr0)
  have hp1 := h0.bv.kept hg (h0.bv.not_row (by decide) hr0)
  have hm2 := hm1.other (boxed_ne hm1 hv1 (by decide)) v'
  have ht2 := ht1.other (boxed_ne ht1 hv1 (by decide)) v'
  have hp2 := hp1.other (boxed_ne hp1 hv1 (by decide)) v'
  have hbl : Below w.heap.size W (w1.setCell ⟨Bo, 0, none⟩ v') := by
    refine ((hb.mono h.bel.size).grown hg h0.bel.size (fun j ej => ?_)).setCell (p := ⟨Bo, 0, none⟩) h.ho v'
    exact (hr0.lt j ej).1
  refine ⟨hv1.cell, hv1.frozen, ⟨h.bel.trans hbl, h.ho, ⟨v', hv1.set v', hown.kept (grownBy_setCell' w1 Bo v') (.inr (hv1.not_row (by decide) hown).symm)⟩, hm2, ht2, hp2⟩, ?_, hbl, ?_⟩
  · refine ((keeps_low hb B).trans ((KeepsOthers.of_grownBy hg fun j o ej hj => ?_).from B)).trans ((KeepsOthers.setCell _ _ _).from B)
    rcases hr0.2 with ⟨rfl, _⟩ | ⟨g, cap, cur, rfl, _, hgb, _⟩
    · simp [Value.ownBlock] at ej
    · obtain rfl : g = j := by simpa [Value.ownBlock] using ej
      rw [hgb] at hj; cases hj; rfl
  · exact (show (w1.setCell ⟨Bo, 0, none⟩ v').heap[Bv]? = _ from hp2).trans (show W.heap[Bv]? = _ from h.bv).symm
/-- One number more. -/
theorem MdI.put1 (h : MdI w Bo Bm Bt Bv pm p q L W) (hL : L.length ≤ 10000000000) {ao : Option Addr} {cap : Nat} (hv : Boxed W Bo 41 (.slice ao L.length cap)) (hrow : W.ownsRow w.heap.size 3 1 (.slice ao L.length cap) L.length (Mk.iv L)) (x : Int) (B : Nat) :
    ∃ g cap1 w1, (Builtin.append_ #[41, 41] 41 #[.slice ao L.length cap, .slice (some ⟨W.heap.size, 0, none⟩) 1 1]).run Tryz.prog (W.alloc (.cells #[.int .i64 x] 3)) = .ok (.slice (some ⟨g, 0, none⟩) (L.length + 1) cap1) w1 ∧
      w1.cell? ⟨Bo, 0, none⟩ = some (.slice ao L.length cap) ∧ w1.frozen? ⟨Bo, 0, none⟩ = false ∧ MdI w Bo Bm Bt Bv pm p q (L ++ [x]) (w1.setCell ⟨Bo, 0, none⟩ (.slice (some ⟨g, 0, none⟩) (L.length + 1) cap1)) ∧ KeepsFrom B W (w1.setCell ⟨Bo, 0, none⟩ (.slice (some ⟨g, 0, none⟩) (L.length + 1) cap1)) ∧ KpE w.heap.size Bv W (w1.setCell ⟨Bo, 0, none⟩ (.slice (some ⟨g, 0, none⟩) (L.length + 1) cap1)) := by
  obtain ⟨i0, hi, hz0, hz1, hz2⟩ := info_parts Mk.info_int
  obtain ⟨g, cap1, w1, hrun, hown, hgrow, _, _⟩ := run_append_lies (P := Tryz.prog) (W.alloc (.cells #[.int .i64 x] 3)) 41 41 w.heap.size 3 i0 _ 1 8 Tryz.underlying41 hi hz0 hz1 hz2 rfl (by omega) (.slice ao L.length cap) L.length (Mk.iv L) (hrow.alloc _) ⟨W.heap.size, 0, none⟩ 1 1 [.int .i64 x] rfl (World.news_of_block (heap_alloc_new W _)) (by simp [Value.oneCell']) (by omega) (by unfold maxLen; omega) (by omega) (by have := h.bel.size; simp; omega) (W.heap.size + 1) (by simp)
  have hown2 : w1.ownsRow w.heap.size 3 1 (.slice (some ⟨g, 0, none⟩) (L.length + 1) cap1) (L ++ [x]).length (Mk.iv (L ++ [x])) := by
    rw [Mk.iv_append, List.length_append]; exact hown
  exact ⟨g, cap1, w1, hrun, h.stored hv hrow (Mk.low1 W _) hgrow hown2 B⟩
/-- Some numbers more. -/
theorem MdI.puts (h : MdI w Bo Bm Bt Bv pm p q L W) (hL : L.length ≤ 10000000000) {ao : Option Addr} {cap : Nat} (hv : Boxed W Bo 41 (.slice ao L.length cap)) (hrow : W.ownsRow w.heap.size 3 1 (.slice ao L.length cap) L.length (Mk.iv L)) {W0 : World} (hb : Below W.heap.size W W0) {B2 n2 c2 : Nat} {a2 : Option Addr} {l2 : List Int} (h2 : W0.ownsRow B2 3 1 (.slice a2 n2 c2) n2 (Mk.iv l2)) (hn2 : n2 = l2.length) (h0 : 0 < n2) (hn3 : n2 ≤ 1000000) (B : Nat) :
    ∃ g cap1 w1, (Builtin.append_ #[41, 41] 41 #[.slice ao L.length cap, .slice a2 n2 c2]).run Tryz.prog W0 = .ok (.slice (some ⟨g, 0, none⟩) (L.length + n2) cap1) w1 ∧
      w1.cell? ⟨Bo, 0, none⟩ = some (.slice ao L.length cap) ∧ w1.frozen? ⟨Bo, 0, none⟩ = false ∧ MdI w Bo Bm Bt Bv pm p q (L ++ l2) (w1.setCell ⟨Bo, 0, none⟩ (.slice (some ⟨g, 0, none⟩) (L.length + n2) cap1)) ∧ KeepsFrom B W (w1.setCell ⟨Bo, 0, none⟩ (.slice (some ⟨g, 0, none⟩) (L.length + n2) cap1)) ∧ KpE w.heap.size Bv W (w1.setCell ⟨Bo, 0, none⟩ (.slice (some ⟨g, 0, none⟩) (L.length + n2) cap1)) := by
  obtain ⟨i0, hi, hz0, hz1, hz2⟩ := info_parts Mk.info_int
  obtain ⟨g2, c2', hv2, _, _⟩ := h2.form (by omega)
  simp only [Value.slice.injEq] at hv2
  obtain ⟨rfl, _, rfl⟩ := hv2
  obtain ⟨g, cap1, w1, hrun, hown, hgrow, _, _⟩ := run_append_lies (P := Tryz.prog) W0 41 41 w.heap.size 3 i0 _ 1 8 Tryz.underlying41 hi hz0 hz1 hz2 rfl (by omega) (.slice ao L.length cap) L.length (Mk.iv L) (row_keptB hrow hb) ⟨g2, 0, none⟩ n2 c2 (Mk.iv l2) h2.1 (fun j u hu => h2.cells (g := g2) rfl j u hu) (fun u hu => by simp [Mk.iv] at hu; obtain ⟨x, _, rfl⟩ := hu; rfl) h0 (by unfold maxLen; omega) (by omega) (Nat.le_trans h.bel.size hb.size) W0.heap.size rfl
  have hown2 : w1.ownsRow w.heap.size 3 1 (.slice (some ⟨g, 0, none⟩) (L.length + n2) cap1) (L ++ l2).length (Mk.iv (L ++ l2)) := by
    rw [Mk.iv_append, List.length_append, ← hn2]; exact hown
  exact ⟨g, cap1, w1, hrun, h.stored hv hrow hb hgrow hown2 B⟩
end

set_option maxRecDepth 100000 in
set_option maxHeartbeats 8000000 in
theorem made_any {B q : Nat} {z : VV} {s : Wf.Sp} {u : Int} {w : World} (hV : Ve B q z s u w) (hR : okB s) (hK : VOk s) (hl : s.specials.length ≤ 1000) {ai : Option Addr} {ni ci : Nat} {I : List Int} (hI : Mk.RdI w ai ni I) (hci : ni ≤ ci) (hni : ni ≤ 1000000000) (hn2 : ni ≤ 100000) (hok : ∀ j, j < ni → okE s.specials (Mk.gI I j)) :
    Calls Tryz.prog 43 #[.pointer (some ⟨q, 0, none⟩), .slice ai ni ci] w fun e w' => (∃ v, e = .returned v ∧ w'.ownsRow w.heap.size 3 1 v (encG (cuE s) (mgT s) (tE s) s.specials I).length (Mk.iv (encG (cuE s) (mgT s) (tE s) s.specials I))) ∧ Below w.heap.size w w' := by
  have hA : ∃ b off, 0 < ni → ai = some ⟨b, off, none⟩ := by
    rcases hI.2 with h0 | ⟨b, off, e, _⟩
    · exact ⟨0, 0, fun h => by omega⟩
    · exact ⟨b, off, fun _ => e⟩
  obtain ⟨b, off, hA⟩ := hA
  have HV := hide hV
  have HR := hide hR
  have HK := hide hK
  have HLS := hide hl
  have HI := hide hI
  have HA := hide hA
  have HOK := hide hok
  have HIL := hide hI.1
  have hmo : Tryz.prog.follows .mixedOrders = true := by kernel_rfl
  clear hV hR hK hl hI hA hok
  refine (callsIn_wide (n := 10)).1 ?_
  refine callsIn_of_wp_marks Tryz.func43 rfl trivial ?_ rfl
  simp only [Tryz.ntmps43, List.size_toArray, List.length_cons, List.length_nil, Nat.reduceAdd, Nat.reduceSub, Array.replicate_succ, Array.replicate_zero, List.push_toArray, List.append_toArray, List.nil_append, List.cons_append]
  have hl1 := Mk.low1 w (.cells #[.slice none 0 0] 41)
  have HB1 := hide hl1
  have HX1 := hide (Boxed.new w 41 (.slice none 0 0))
  have HZ1 : Hid ((w.alloc (.cells #[.slice none 0 0] 41)).heap.size = w.heap.size + 1) := hide (by simp)
  have HV1 := hide (HV.out.low hl1)
  have K1 := hide (vmarksE HV1.out)
  clear hl1
  gi_wp2_with fail
  refine ⟨trivial, (callsIn_wide.2 (unhide K1)).mono ?_⟩
  rintro e w1 ⟨rfl, hw1⟩
  obtain rfl := hw1.symm
  clear hw1 K1
  generalize w.alloc (.cells #[.slice none 0 0] 41) = w1 at *
  have K2 := hide (vtableE HV1.out)
  gi_wp2_with fail
  refine ⟨trivial, (callsIn_wide.2 (unhide K2)).mono ?_⟩
  rintro e w2 ⟨rfl, hb2⟩
  have HV2 := hide (HV1.out.low hb2)
  have HX2 := hide (boxed_low HX1.out hb2)
  have HB2 := hide (HB1.out.trans (hb2.mono HB1.out.size))
  have HZ2 : Hid (w.heap.size < w2.heap.size) := hide (by have := hb2.size; have := HZ1.out; omega)
  clear hb2 K2 HV1 HX1 HB1 HZ1
  have K3 := hide (pieces_any (.pointer none) ai ni ci q ((w2.alloc (.cells #[.pointer (some ⟨z.pm, 0, none⟩)] 126)).alloc (.cells #[.pointer (some ⟨z.p, 0, none⟩)] 53)))
  have hla := Mk.low1 w2 (.cells #[.pointer (some ⟨z.pm, 0, none⟩)] 126)
  have hlb := Mk.low1 (w2.alloc (.cells #[.pointer (some ⟨z.pm, 0, none⟩)] 126)) (.cells #[.pointer (some ⟨z.p, 0, none⟩)] 53)
  have HB3 := hide ((HB2.out.trans (hla.mono HB2.out.size)).trans (hlb.mono (HB2.out.trans (hla.mono HB2.out.size)).size))
  have HX3 := hide (boxed_low (boxed_low HX2.out hla) hlb)
  have HM3 := hide (boxed_low (Boxed.new w2 126 (.pointer (some ⟨z.pm, 0, none⟩))) hlb)
  have HT3 := Boxed.new (w2.alloc (.cells #[.pointer (some ⟨z.pm, 0, none⟩)] 126)) 53 (.pointer (some ⟨z.p, 0, none⟩))
  rw [World.size_alloc] at HT3
  replace HT3 := hide HT3
  have HZ3 : Hid (w.heap.size < ((w2.alloc (.cells #[.pointer (some ⟨z.pm, 0, none⟩)] 126)).alloc (.cells #[.pointer (some ⟨z.p, 0, none⟩)] 53)).heap.size) := hide (by simp; have := HZ2.out; omega)
  clear hla hlb HB2 HX2
  gi_wp2_with fail
  refine ⟨trivial, (callsIn_wide.2 (unhide K3)).mono ?_⟩
  rintro e w4 ⟨rfl, hw4⟩
  clear K3
  generalize (w2.alloc (.cells #[.pointer (some ⟨z.pm, 0, none⟩)] 126)).alloc (.cells #[.pointer (some ⟨z.p, 0, none⟩)] 53) = w3 at *
  have hla := Mk.low1 w3 (.cells #[.pointer (some ⟨q, 0, none⟩)] 30)
  have hlb := Mk.low1 (w3.alloc (.cells #[.pointer (some ⟨q, 0, none⟩)] 30)) (.cells #[.slice ai ni ci] 41)
  have HB4 := hide ((HB3.out.trans (hla.mono HB3.out.size)).trans (hlb.mono (HB3.out.trans (hla.mono HB3.out.size)).size))
  have HX4 := hide (boxed_low (boxed_low HX3.out hla) hlb)
  have HM4 := hide (boxed_low (boxed_low HM3.out hla) hlb)
  have HT4 := hide (boxed_low (boxed_low HT3.out hla) hlb)
  have HP4 := hide (boxed_low (Boxed.new w3 30 (.pointer (some ⟨q, 0, none⟩))) hlb)
  have HI4 := Boxed.new (w3.alloc (.cells #[.pointer (some ⟨q, 0, none⟩)] 30)) 41 (.slice ai ni ci)
  rw [World.size_alloc] at HI4
  replace HI4 := hide HI4
  have HZ4 : Hid (w.heap.size ≤ ((w3.alloc (.cells #[.pointer (some ⟨q, 0, none⟩)] 30)).alloc (.cells #[.slice ai ni ci] 41)).heap.size ∧ w3.heap.size < ((w3.alloc (.cells #[.pointer (some ⟨q, 0, none⟩)] 30)).alloc (.cells #[.slice ai ni ci] 41)).heap.size) := hide (by simp; have := HZ3.out; omega)
  rw [← hw4] at HB4 HX4 HM4 HT4 HP4 HI4 HZ4
  clear hla hlb HB3 HX3 HM3 HT3 hw4
  have HMI : Hid (MdI w w.heap.size w2.heap.size (w2.heap.size + 1) w3.heap.size z.pm z.p q (mkEs ([] : List (PcT s I))) w4) := hide ⟨HB4.out, Nat.le_refl _, ⟨_, HX4.out, World.ownsRow_nil _ _ _ _⟩, HM4.out, HT4.out, HP4.out⟩
  gi_wp2
  refine wpIn_rangeFunc_ownG (F := Fence.wide) (n := 10) rfl (by omega) (gf := 73) (lb := #[.pointer (some ⟨w3.heap.size + 1, 0, none⟩), .pointer (some ⟨w3.heap.size, 0, none⟩)]) rfl trivial (enters_of Tryz.func73 (by kernel_rfl) rfl)
    (pieces_stops HV.out HR.out HI.out HA.out hci hni (fun j hj => (HOK.out j hj).1) 9 (w3.heap.size + 1) w3.heap.size (by omega) w4 HB4.out HI4.out HP4.out)
    (fun h k => KpE.trans h k) (fun W l o o' hl h ho hw => ⟨belowK_b (w := w4) HZ4.out.1 W l o o' hl h ho hw, World.putObj_heap_other (by have := HZ4.out.2; omega)⟩) (Below.refl _ _) (fun _ => rfl)
    (fun pre W => MdI w w.heap.size w2.heap.size (w2.heap.size + 1) w3.heap.size z.pm z.p q (mkEs pre) W) (fun _ _ _ => False) (MdI.own HZ4.out.1 mkEs) (fun _ _ _ _ _ hs _ _ => hs) HMI.out
    (fun x => { tmps := #[.pointer (some ⟨q, 0, none⟩), .slice ai ni ci, undef, undef, .slice none 0 0, .pointer (some ⟨w.heap.size, 0, none⟩), .pointer (some ⟨w2.heap.size, 0, none⟩), .pointer (some ⟨w2.heap.size + 1, 0, none⟩), .slice (some ⟨b, off + x.1.1, none⟩) x.1.2 (ci - x.1.1), undef, undef, undef, undef, .pointer (some ⟨q, 0, none⟩), .pointer (some ⟨z.pm, 0, none⟩), .pointer (some ⟨q, 0, none⟩), .pointer (some ⟨z.p, 0, none⟩), .pointer (some ⟨q, 0, none⟩), .slice ai ni ci, pcF (w3.heap.size + 1) w3.heap.size, .slice (some ⟨b, off + x.1.1, none⟩) x.1.2 (ci - x.1.1), undef, undef, undef, undef, undef, undef, undef, undef, undef, undef, undef, undef, undef, undef, undef, undef, undef, undef, undef, undef, undef, undef, undef, undef, undef], defers := [] }) ?assign ?body ?done ?stop
  case assign =>
    intro l x W K hK
    gi_wp2
    exact hK
  case body =>
    rintro l pre x W hM hlen
    have hnI : 0 < ni := by
      have h1 := x.2.1
      have h2 := x.2.2.1
      have h3 := HIL.out
      omega
    obtain rfl := HA.out hnI
    have HSN := hide (mkEs_snoc pre x)
    have hlE := mkEs_len pre
    have hple : pre.length * I.length ≤ 100000 * 100000 := Nat.mul_le_mul (by have := HIL.out; omega) (by have := HIL.out; omega)
    have HLE : Hid ((mkEs pre).length ≤ 10000000000) := hide (by omega)
    have HPI := hide (rdI_sub (HI.out.kept (hM.bel.mono (Nat.le_refl _))) x.2.2.1)
    have HPL : Hid ((I.drop x.1.1).take x.1.2 = pcL x) := hide rfl
    rw [HPL.out] at HPI
    have HKD := hide (rns_kind I x.2.2.2)
    rw [HPL.out] at HKD
    have hlen2 := pcL_len x
    have hin : ∀ y ∈ pcL x, okE s.specials y := fun y hy => by
      obtain ⟨j, hj, rfl⟩ := List.mem_iff_getElem.1 (rns_mem x.2.2.2 hy)
      have h1 := HOK.out j (by rw [← HIL.out]; exact hj)
      simpa [Mk.gI, hj] using h1
    have HIN := hide hin
    have hm0 := x.2.1
    have hmI : x.1.2 ≤ 100000 := by
      have h2 := x.2.2.1
      have h3 := HIL.out
      omega
    obtain ⟨v, hvb, hvr⟩ := hM.out
    obtain ⟨ao, cap, rfl⟩ := row_form hvr
    have HVB := hide hvb
    have HVR := hide hvr
    have HM := hide hM
    have HWV := hide (HV.out.low hM.bel)
    dsimp only
    clear hvb hvr hM hlE hple hin HMI HI4 HX4 HM4 HT4 HP4 HB4
    generalize mkEs pre = L at *
    generalize pcL x = P at *
    generalize x.1.1 = k at *
    generalize x.1.2 = m at *
    generalize ci - k = cp at *
    have HB0 : Hid (Below W.heap.size W W.drew) := hide below_drw
    have hk0 : (0 : Int) < (m : Int) := by omega
    have hc1 := HM.out.bm.cell
    have hc2 := HM.out.bt.cell
    have hc3 := HVB.out.cell
    have hd1 : W.drew.cell? ⟨w2.heap.size, 0, none⟩ = some (.pointer (some ⟨z.pm, 0, none⟩)) := hc1
    have hf : W.drew.cell? ⟨b, off + k, none⟩ = some (.int .i64 (P.getD 0 0)) := by
      rcases HPI.out.2 with h0 | ⟨b', off', e, hbl, hc⟩
      · omega
      · simp only [Option.some.injEq, Addr.mk.injEq, and_true] at e
        obtain ⟨rfl, rfl⟩ := e
        exact hc 0 hm0
    have HWD := hide (HWV.out.low HB0.out)
    rcases HKD.out with ⟨y, hP, hy⟩ | ⟨hP, hy⟩
    · subst hP
      have hm1 : m = 1 := by simpa using hlen2.symm
      subst hm1
      have hyo := HIN.out y (by simp)
      have KI := id_all HWD.out.vu.mr HLS.out y (by unfold Mk.wfI; have := hyo.1; have := hyo.2; have := HLS.out; constructor <;> omega)
      unfold idMk isMk at KI
      rw [if_pos ⟨hy, hyo.2⟩, decide_eq_true (show y < 0 ∧ -(s.specials.length : Int) ≤ y from ⟨hy, hyo.2⟩)] at KI
      replace KI := hide KI
      have HLN : Hid (mkEs (pre ++ [x]) = L ++ [idE s.specials y]) := hide (by rw [HSN.out]; unfold mkE1 mk1E; rw [if_pos (by simpa using hy)]; rfl)
      simp only [List.getD_cons_zero] at hf
      generalize idE s.specials y = idy at *
      gi_wp2
      gi_cut [9, 10] from 21 (fun a b wx => a = .int .i64 idy ∧ b = .bool true ∧ Hid (Below W.heap.size W wx))
      case first =>
        rename_i J0 K0 hJ0 hK0
        gi_region_with_o (refine ⟨trivial, ?_⟩; gi_at_call 75; refine (CallsIn.inRound l (callsIn_wide.2 (unhide KI))).mono ?_; rintro e w' ⟨rfl, hb'⟩)
        all_goals
          refine hK0 _ _ (Met.intro (hJ0 _ _ ?_))
          (repeat apply Exists.intro)
          exact ⟨⟨rfl, rfl, hide (HB0.out.trans (hb'.mono HB0.out.size))⟩, rfl⟩
      obtain ⟨rfl, rfl, HBW⟩ := hcut
      generalize wc = w' at *
      have hbW := HBW.out
      have hM1 := HM.out.low hbW
      have hv1 := boxed_low HVB.out hbW
      obtain ⟨g, cap1, w5, hrun, hc5, hf5, hM5, hk5, hp5⟩ := hM1.put1 HLE.out hv1 (row_keptB HVR.out hbW) idy w4.heap.size
      have hc6 := hv1.cell
      have HRUN := hide hrun
      rw [← HLN.out] at hM5
      have hk6 := (keeps_low hbW w4.heap.size).trans hk5
      have hp6 := (HM.out.kp hbW).trans hp5
      have HN := hide (And.intro hk6 (And.intro hp6 hM5))
      clear hrun hM5 hk5 hp5 hk6 hp6 hM1 hv1 hbW KI hd1 hf hc1 hc2 hc3
      gi_wp2_with (gi_at_builtin; refine wpListIn_append_runE _ rfl _ _ _ _ rfl _ _ rfl rfl _ _ HRUN.out ?_)
      exact HN.out
    · have h0 : ¬ P.getD 0 0 < 0 := by
        cases P with
        | nil => simp at hP
        | cons a r => have := hy a (by simp); simpa using this
      have hin : ∀ y ∈ P, 0 ≤ y ∧ y < 256 := fun y h => ⟨hy y h, (HIN.out y h).1⟩
      have HPOS := hide (mk1E_ne HK.out hP hy)
      have HLN : Hid (mkEs (pre ++ [x]) = L ++ made (mgT s) (tE s) (bsE P)) := hide (by rw [HSN.out]; unfold mkE1 mk1E; rw [if_neg h0])
      have hP0 : P.getD 0 0 < 256 := by
        cases P with
        | nil => simp at hP
        | cons a r => have := hin a (by simp); simpa using this.2
      have KI := id_all HWD.out.vu.mr HLS.out (P.getD 0 0) (by unfold Mk.wfI; omega)
      unfold idMk isMk at KI
      rw [if_neg (by omega), decide_eq_false (by omega)] at KI
      replace KI := hide KI
      have HRN := hide (fun (W2 : World) (hb2 : Below W.heap.size W W2) => Mk.render_any (ci := cp) (HWV.out.low hb2).vu.mr (Mk.good_tx HK.out.2.1) (HPI.out.kept hb2) (fun i hi => by
        have h1 := hin (Mk.gI P i) (by
          have h2 : i < P.length := by omega
          unfold Mk.gI
          rw [List.getD_eq_getElem?_getD, List.getElem?_eq_getElem h2]
          exact List.getElem_mem h2)
        unfold Mk.wfI
        omega) hmI)
      rw [rnd_bytes _ P hin] at HRN
      have HSZ : Hid ((bsE P).size ≤ 100000) := hide (by
        have h3 : (bsE P).size = P.length := by simp [bsE, ByteArray.size]
        omega)
      have HTB := hide (show (⟨(P.map u8E).toArray⟩ : ByteArray) = bsE P from rfl)
      have HMLE := hide (made_len (mgT s) (tE s) (bsE P))
      generalize bsE P = tx at *
      unfold Mk.RndV at HRN
      dsimp only at HRN
      rw [HTB.out] at HRN
      clear HTB hin hP0 h0
      generalize P.getD 0 0 = f0 at *
      gi_wp2
      gi_cut [9, 10] from 21 (fun a b wx => a = .int .i64 0 ∧ b = .bool false ∧ Hid (Below W.heap.size W wx))
      case first =>
        rename_i J0 K0 hJ0 hK0
        gi_region_with_o (refine ⟨trivial, ?_⟩; gi_at_call 75; refine (CallsIn.inRound l (callsIn_wide.2 (unhide KI))).mono ?_; rintro e w' ⟨rfl, hb'⟩)
        all_goals
          refine hK0 _ _ (Met.intro (hJ0 _ _ ?_))
          (repeat apply Exists.intro)
          exact ⟨⟨rfl, rfl, hide (HB0.out.trans (hb'.mono HB0.out.size))⟩, rfl⟩
      obtain ⟨rfl, rfl, HBW⟩ := hcut
      generalize wc = w' at *
      have hbW := HBW.out
      have hM1 := HM.out.low hbW
      have c1 := hM1.bm.cell
      have KR := hide (HRN.out w' hbW)
      clear hbW KI hd1 hf hc1 hc2 hc3 hM1
      gi_wp2_with fail
      refine ⟨trivial, (CallsIn.inRound l (callsIn_wide.2 (unhide KR))).mono ?_⟩
      rintro e w6 ⟨rfl, hb6⟩
      have HB6 := hide ((HBW.out.trans (hb6.mono HBW.out.size)).trans (below_drw.mono (HBW.out.trans (hb6.mono HBW.out.size)).size))
      have hv6 := boxed_low HVB.out HB6.out
      have hd5 : w6.drew.cell? ⟨w.heap.size, 0, none⟩ = some (.slice ao L.length cap) := hv6.cell
      have hM6 := HM.out.low HB6.out
      have hd6 : w6.drew.cell? ⟨w2.heap.size + 1, 0, none⟩ = some (.pointer (some ⟨z.p, 0, none⟩)) := hM6.bt.cell
      have KE := hide (encode_any w6.drew (HWV.out.low HB6.out).vu.tb.1 (tokT s) tx HSZ.out)
      clear hb6 KR c1 hv6 hM6
      generalize made (mgT s) (tE s) tx = M at *
      gi_wp2
      refine region_round (F := Fence.wide) hmo (by intro o ho c hc; simp only [List.mem_cons, List.not_mem_nil, or_false] at ho; rcases ho with rfl | rfl | rfl | rfl | rfl | rfl <;> cases hc) ?_
      refine wpAnyIn_take (i := 2) (v := .string tx) rfl rfl (by kernel_rfl) (by kernel_rfl) (by kernel_rfl) (fun _ _ _ h => h) ⟨Or.inl ⟨by rfl, ?_⟩, fun _ => rfl⟩ ?_
      · intro w
        go_simp
      refine wpAnyIn_ready (rs := [0, 1]) (by kernel_rfl) (by simp) ?_
      refine AllReadyIn.cons rfl (fun K hK => ?_) (AllReadyIn.cons rfl (fun K hK => ?_) AllReadyIn.nil)
      · go_simp
        refine hK _ _ ?_
        clear hK K
        refine wpAnyIn_ready (rs := [1]) (by kernel_rfl) (by simp) ?_
        refine AllReadyIn.cons rfl (fun K hK => ?_) AllReadyIn.nil
        go_simp
        refine hK _ _ ?_
        clear hK K
        refine wpAnyIn_ready (rs := [3]) (by kernel_rfl) (by simp) ?_
        refine AllReadyIn.cons rfl (fun K hK => ?_) AllReadyIn.nil
        go_simp
        gi_wp2_with fail
        refine ⟨trivial, (callsIn_wide.2 (unhide KE)).mono ?_⟩
        rintro e w7 ⟨⟨ve, rfl, hrow⟩, hb7⟩
        obtain ⟨ae, ce, rfl⟩ := Mk.row_form hrow
        have hbW7 := HB6.out.trans (hb7.mono HB6.out.size)
        obtain ⟨g, cap1, w8, hrun, hc8, hf8, hM8, hk8, hp8⟩ := HM.out.puts HLE.out HVB.out HVR.out hbW7 hrow rfl HPOS.out (by have := HMLE.out; have := HSZ.out; omega) w4.heap.size
        have hd7 := (boxed_low HVB.out hbW7).cell
        have HN := hide (And.intro hk8 (And.intro hp8 hM8))
        clear hk8 hp8 hM8 hbW7 hb7 hrow
        refine hK _ _ ?_
        clear hK K
        refine wpAnyIn_ready (rs := [4]) (by kernel_rfl) (by simp) ?_
        refine AllReadyIn.cons rfl (fun K hK => oper_append_run rfl _ _ _ _ rfl _ _ rfl rfl _ _ hrun (hK _ _ ?_)) AllReadyIn.nil
        clear hK K
        refine wpAnyIn_ready (rs := [5]) (by kernel_rfl) (by simp) ?_
        refine AllReadyIn.cons rfl (fun K hK => ?_) AllReadyIn.nil
        clear hrun
        go_simp
        refine hK _ _ ?_
        clear hK K
        refine wpAnyIn_done (by kernel_rfl) ?_ _
        refine ⟨HN.out.1, HN.out.2.1, ?_⟩
        show MdI _ _ _ _ _ _ _ _ (mkEs (pre ++ [x])) _
        rw [HLN.out]
        exact HN.out.2.2
      · go_simp
        refine hK _ _ ?_
        clear hK K
        refine wpAnyIn_ready (rs := [0, 3]) (by kernel_rfl) (by simp) ?_
        refine AllReadyIn.cons rfl (fun K hK => ?_) (AllReadyIn.cons rfl (fun K hK => ?_) AllReadyIn.nil)
        · go_simp
          refine hK _ _ ?_
          clear hK K
          refine wpAnyIn_ready (rs := [3]) (by kernel_rfl) (by simp) ?_
          refine AllReadyIn.cons rfl (fun K hK => ?_) AllReadyIn.nil
          go_simp
          gi_wp2_with fail
          refine ⟨trivial, (callsIn_wide.2 (unhide KE)).mono ?_⟩
          rintro e w7 ⟨⟨ve, rfl, hrow⟩, hb7⟩
          obtain ⟨ae, ce, rfl⟩ := Mk.row_form hrow
          have hbW7 := HB6.out.trans (hb7.mono HB6.out.size)
          obtain ⟨g, cap1, w8, hrun, hc8, hf8, hM8, hk8, hp8⟩ := HM.out.puts HLE.out HVB.out HVR.out hbW7 hrow rfl HPOS.out (by have := HMLE.out; have := HSZ.out; omega) w4.heap.size
          have hd7 := (boxed_low HVB.out hbW7).cell
          have HN := hide (And.intro hk8 (And.intro hp8 hM8))
          clear hk8 hp8 hM8 hbW7 hb7 hrow
          refine hK _ _ ?_
          clear hK K
          refine wpAnyIn_ready (rs := [4]) (by kernel_rfl) (by simp) ?_
          refine AllReadyIn.cons rfl (fun K hK => oper_append_run rfl _ _ _ _ rfl _ _ rfl rfl _ _ hrun (hK _ _ ?_)) AllReadyIn.nil
          clear hK K
          refine wpAnyIn_ready (rs := [5]) (by kernel_rfl) (by simp) ?_
          refine AllReadyIn.cons rfl (fun K hK => ?_) AllReadyIn.nil
          clear hrun
          go_simp
          refine hK _ _ ?_
          clear hK K
          refine wpAnyIn_done (by kernel_rfl) ?_ _
          refine ⟨HN.out.1, HN.out.2.1, ?_⟩
          show MdI _ _ _ _ _ _ _ _ (mkEs (pre ++ [x])) _
          rw [HLN.out]
          exact HN.out.2.2
        · go_simp
          gi_wp2_with fail
          refine ⟨trivial, (callsIn_wide.2 (unhide KE)).mono ?_⟩
          rintro e w7 ⟨⟨ve, rfl, hrow⟩, hb7⟩
          obtain ⟨ae, ce, rfl⟩ := Mk.row_form hrow
          have hbW7 := HB6.out.trans (hb7.mono HB6.out.size)
          obtain ⟨g, cap1, w8, hrun, hc8, hf8, hM8, hk8, hp8⟩ := HM.out.puts HLE.out HVB.out HVR.out hbW7 hrow rfl HPOS.out (by have := HMLE.out; have := HSZ.out; omega) w4.heap.size
          have hd7 := (boxed_low HVB.out hbW7).cell
          have HN := hide (And.intro hk8 (And.intro hp8 hM8))
          clear hk8 hp8 hM8 hbW7 hb7 hrow
          refine hK _ _ ?_
          clear hK K
          refine wpAnyIn_ready (rs := [0]) (by kernel_rfl) (by simp) ?_
          refine AllReadyIn.cons rfl (fun K hK => ?_) AllReadyIn.nil
          go_simp
          refine hK _ _ ?_
          clear hK K
          refine wpAnyIn_ready (rs := [4]) (by kernel_rfl) (by simp) ?_
          refine AllReadyIn.cons rfl (fun K hK => oper_append_run rfl _ _ _ _ rfl _ _ rfl rfl _ _ hrun (hK _ _ ?_)) AllReadyIn.nil
          clear hK K
          refine wpAnyIn_ready (rs := [5]) (by kernel_rfl) (by simp) ?_
          refine AllReadyIn.cons rfl (fun K hK => ?_) AllReadyIn.nil
          clear hrun
          go_simp
          refine hK _ _ ?_
          clear hK K
          refine wpAnyIn_done (by kernel_rfl) ?_ _
          refine ⟨HN.out.1, HN.out.2.1, ?_⟩
          show MdI _ _ _ _ _ _ _ _ (mkEs (pre ++ [x])) _
          rw [HLN.out]
          exact HN.out.2.2
  case done =>
    rintro D ys W hD hS hM hK
    obtain ⟨v, hvb, hvr⟩ := hM.out
    rw [mkEs_all hS] at hvr
    have hc := hvb.cell
    have HVR := hide hvr
    have HM := hide hM
    have HBK := hide (belowK_b (w := w4) HZ4.out.1 W D _ (.deferred none) hD hK rfl rfl)
    clear hvr hM hvb
    gi_wp2
    refine ⟨by simp, .inl ⟨_, _, rfl, run_takeDeferred hK, ?_⟩⟩
    exact ⟨_, results_tmp rfl _ _ _, ⟨v, rfl, ownsRow_putObj HVR.out _ hK rfl⟩, HM.out.bel.trans HBK.out⟩
  case stop =>
    rintro D c pre W _ _ h _
    exact h.elim
end Go.Proofs.YtdpmjaelbjjanaaGreat

namespace Go.Proofs.YtdpmjaelbjjanaaGreat
open Go.RowKit Go.Maps
set_option linter.unusedVariables false
set_option linter.unusedSimpArgs false

theorem clonei_any (w : World) (b off n cap : Nat) (l : List Int) (h : Mk.RdI w (some ⟨b, off, none⟩) n l) (h0 : 0 < n) (hn : n ≤ 1000000) :
    Calls Tryz.prog 41 #[.slice (some ⟨b, off, none⟩) n cap] w fun e w' => (∃ v, e = .returned v ∧ w'.ownsRow w.heap.size 3 1 v n (Mk.iv l)) ∧ Below w.heap.size w w' := by
  obtain ⟨i0, hi, hz0, hz1, hz2⟩ := info_parts Mk.info_int
  have heq : ∀ (w : World) (a : Option Addr) (n c n' c' : Nat), (binOp .eql 41 (.slice a n c) (.slice none n' c')).run Tryz.prog w = .ok (.bool a.isNone) w := fun w a n c n' c' => Lib.run_eql_slice_nil w _ _ a n c n' c' Tryz.underlying41
  have hlo := Mk.low1 w (.cells #[] 3)
  have hk := h.kept hlo
  have hcell : ∀ (j : Nat) (u : Value), (Mk.iv l)[j]? = some u → (w.alloc (.cells #[] 3)).cell? (Addr.add ⟨b, off, none⟩ j) = some u := by
    intro j u hj
    rcases hk.2 with h1 | ⟨b', off', e, hlt, hc⟩
    · omega
    · simp only [Option.some.injEq, Addr.mk.injEq, and_true] at e
      obtain ⟨rfl, rfl⟩ := e
      have hjl : j < l.length := by
        have := (List.getElem?_eq_some_iff.1 hj).1
        simpa [Mk.iv] using this
      have e2 : u = .int .i64 (Mk.gI l j) := by
        rw [List.getElem?_eq_some_iff] at hj
        obtain ⟨_, h3⟩ := hj
        rw [← h3]
        simp [Mk.iv, Mk.gI, hjl]
      rw [Addr.add_lit, e2]
      exact hc j (by rw [← hk.1]; exact hjl)
  obtain ⟨g, cap1, w1, hrun, hown, hgrow, _, _⟩ := run_append_lies (P := Tryz.prog) (w.alloc (.cells #[] 3)) 41 41 w.heap.size 3 i0 _ 1 8 Tryz.underlying41 hi hz0 hz1 hz2 rfl (by omega) (.slice (some ⟨w.heap.size, 0, none⟩) 0 0) 0 [] (World.ownsRow_made w #[] 0 (Nat.le_refl _) (Nat.zero_le _) rfl) ⟨b, off, none⟩ n cap (Mk.iv l) (by rw [← hk.1]; simp [Mk.iv]) hcell (fun u hu => by simp [Mk.iv] at hu; obtain ⟨x, _, rfl⟩ := hu; rfl) h0 (by unfold maxLen; omega) (by omega) (by simp) (w.heap.size + 1) (by simp)
  rw [Nat.zero_add, List.nil_append] at hown
  rw [Nat.zero_add] at hrun
  have HR := hide hown
  have HB : Hid (Below w.heap.size w w1) := hide (hlo.trans ⟨hgrow.os, hgrow.tape, hgrow.output, hgrow.size, fun k hk => hgrow.block k (by simp; omega) (fun e => by simp [Value.ownBlock] at e; omega)⟩)
  have HRUN := hide hrun
  clear hrun hown hgrow hcell hk hlo h hi hz0 hz1 hz2
  go_enter Tryz.func41, Tryz.ntmps41
  go_wp2_with (at_builtin; refine Lib.wpList_append_run _ rfl _ _ _ _ rfl _ _ rfl rfl _ _ HRUN.out ?_)
  go_ret
  exact ⟨⟨_, rfl, HR.out⟩, HB.out⟩
theorem info_ints : (Tryz.prog.info? 41).map (fun i => (i.zero, i.size, i.bytes)) = some (some (.slice none 0 0), 1, 24) := by kernel_rfl
theorem rows_ne {W : World} {B B' k k' n n' : Nat} {E E' : TypeId} {v v' : Value} {xs xs' : List Value} (h : W.ownsRow B E k v n xs) (h' : W.ownsRow B' E' k' v' n' xs') (hE : E ≠ E') : v.ownBlock = none ∨ v.ownBlock ≠ v'.ownBlock := by
  rcases h.2 with ⟨rfl, _⟩ | ⟨g, cap, cur, rfl, _, hg, _⟩
  · exact Or.inl rfl
  · rcases h'.2 with ⟨rfl, _⟩ | ⟨g', cap', cur', rfl, _, hg', _⟩
    · exact Or.inr (by simp [Value.ownBlock])
    · refine Or.inr (fun e => ?_)
      simp only [Value.ownBlock, Option.some.injEq] at e
      subst e
      rw [hg] at hg'
      simp only [Option.some.injEq, Obj.cells.injEq] at hg'
      exact hE hg'.2.1
theorem own_base {W : World} {B B' k n : Nat} {E : TypeId} {v : Value} {xs : List Value} (h : W.ownsRow B E k v n xs) (hB : B' ≤ B) : W.ownsRow B' E k v n xs := by
  refine ⟨h.1, ?_⟩
  rcases h.2 with e | ⟨g, cap, cur, e, hb, rest⟩
  · exact Or.inl e
  · exact Or.inr ⟨g, cap, cur, e, Nat.le_trans hB hb, rest⟩
/-- Rows of numbers, in values that are slices. -/
structure PwR (B : Nat) (Ls : List (List Int)) (vs : List Value) (W : World) : Prop where
  len : vs.length = Ls.length
  row : ∀ i, i < Ls.length → ∃ v, vs[i]? = some v ∧ W.ownsRow B 3 1 v (Ls.getD i []).length (Mk.iv (Ls.getD i []))
theorem PwR.nil (B : Nat) (W : World) : PwR B [] [] W := ⟨rfl, fun i hi => by simp at hi⟩
theorem PwR.low {B : Nat} {Ls : List (List Int)} {vs : List Value} {W W' : World} (h : PwR B Ls vs W) (hb : Below W.heap.size W W') : PwR B Ls vs W' :=
  ⟨h.len, fun i hi => by obtain ⟨v, h1, h2⟩ := h.row i hi; exact ⟨v, h1, row_keptB h2 hb⟩⟩
theorem PwR.grown {B B' k n : Nat} {Ls : List (List Int)} {vs : List Value} {W W' : World} {u : Value} {xs : List Value} (h : PwR B Ls vs W) (hr : W.ownsRow B' 41 k u n xs) (hg : W.grownBy W' u.ownBlock) : PwR B Ls vs W' :=
  ⟨h.len, fun i hi => by obtain ⟨v, h1, h2⟩ := h.row i hi; exact ⟨v, h1, h2.kept hg (rows_ne h2 hr (by decide))⟩⟩
theorem PwR.box {B Bo : Nat} {Ls : List (List Int)} {vs : List Value} {W : World} {u : Value} (h : PwR B Ls vs W) (hb : Boxed W Bo 43 u) (u' : Value) : PwR B Ls vs (W.setCell ⟨Bo, 0, none⟩ u') :=
  ⟨h.len, fun i hi => by obtain ⟨v, h1, h2⟩ := h.row i hi; exact ⟨v, h1, h2.kept (grownBy_setCell' W Bo u') (.inr (hb.not_row (by decide) h2).symm)⟩⟩
theorem PwR.snoc {B : Nat} {Ls : List (List Int)} {vs : List Value} {W : World} {x : Value} {P : List Int} (h : PwR B Ls vs W) (hx : W.ownsRow B 3 1 x P.length (Mk.iv P)) : PwR B (Ls ++ [P]) (vs ++ [x]) W := by
  refine ⟨by simp [h.len], fun i hi => ?_⟩
  rcases Nat.lt_or_ge i Ls.length with h1 | h1
  · obtain ⟨v, h2, h3⟩ := h.row i h1
    refine ⟨v, by rw [List.getElem?_append_left (by rw [h.len]; exact h1)]; exact h2, ?_⟩
    rw [show (Ls ++ [P]).getD i [] = Ls.getD i [] by rw [List.getD_eq_getElem?_getD, List.getD_eq_getElem?_getD, List.getElem?_append_left h1]]
    exact h3
  · obtain rfl : i = Ls.length := by simp at hi; omega
    refine ⟨x, by rw [← h.len]; simp, ?_⟩
    rw [show (Ls ++ [P]).getD Ls.length [] = P by simp]
    exact hx
/-- Where the loop of Pieces stands. -/
structure PdI (w : World) (Bo Bv q : Nat) (Ls : List (List Int)) (W : World) : Prop where
  bel : Below w.heap.size w W
  ho : w.heap.size ≤ Bo
  out : ∃ v vs, Boxed W Bo 43 v ∧ W.ownsRow w.heap.size 41 1 v Ls.length vs ∧ PwR w.heap.size Ls vs W
  bv : Boxed W Bv 30 (.pointer (some ⟨q, 0, none⟩))
section
variable {w W W' : World} {Bo Bv q : Nat} {Ls : List (List Int)}
theorem PdI.low (h : PdI w Bo Bv q Ls W) (hb : Below W.heap.size W W') : PdI w Bo Bv q Ls W' := by
  obtain ⟨v, vs, h1, h2, h3⟩ := h.out
  exact ⟨h.bel.trans (hb.mono h.bel.size), h.ho, ⟨v, vs, boxed_low h1 hb, row_keptB h2 hb, h3.low hb⟩, boxed_low h.bv hb⟩
/-- A row more. -/
theorem PdI.put (h : PdI w Bo Bv q Ls W) (hL : Ls.length ≤ 1000000000) {v : Value} {vs : List Value} (hv : Boxed W Bo 43 v) (hrow : W.ownsRow w.heap.size 41 1 v Ls.length vs) (hin : PwR w.heap.size Ls vs W) {W0 : World} (hb : Below W.heap.size W W0) {x : Value} {P : List Int} (hx : W0.ownsRow W.heap.size 3 1 x P.length (Mk.iv P)) (h1 : x.oneCell' = true) (B : Nat) :
    ∃ g cap1 w1, (Builtin.append_ #[43, 43] 43 #[v, .slice (some ⟨W0.heap.size, 0, none⟩) 1 1]).run Tryz.prog (W0.alloc (.cells #[x] 41)) = .ok (.slice (some ⟨g, 0, none⟩) (Ls.length + 1) cap1) w1 ∧
      w1.cell? ⟨Bo, 0, none⟩ = some v ∧ w1.frozen? ⟨Bo, 0, none⟩ = false ∧ PdI w Bo Bv q (Ls ++ [P]) (w1.setCell ⟨Bo, 0, none⟩ (.slice (some ⟨g, 0, none⟩) (Ls.length + 1) cap1)) ∧ KeepsFrom B W (w1.setCell ⟨Bo, 0, none⟩ (.slice (some ⟨g, 0, none⟩) (Ls.length + 1) cap1)) ∧ KpE w.heap.size Bv W (w1.setCell ⟨Bo, 0, none⟩ (.slice (some ⟨g, 0, none⟩) (Ls.length + 1) cap1)) := by
  obtain ⟨i0, hi, hz0, hz1, hz2⟩ := info_parts info_ints
  have hlo := Mk.low1 W0 (.cells #[x] 41)
  have hb2 : Below W.heap.size W (W0.alloc (.cells #[x] 41)) := hb.trans (hlo.mono hb.size)
  obtain ⟨g, cap1, w1, hrun, hown, hg, _, _⟩ := run_append_lies (P := Tryz.prog) (W0.alloc (.cells #[x] 41)) 43 43 w.heap.size 41 i0 _ 1 24 Tryz.underlying43 hi hz0 hz1 hz2 rfl (by omega) v Ls.length vs (row_keptB hrow hb2) ⟨W0.heap.size, 0, none⟩ 1 1 [x] rfl (World.news_of_block (heap_alloc_new W0 _)) (by simpa using h1) (by omega) (by unfold maxLen; omega) (by omega) (by have := h.bel.size; have := hb.size; simp; omega) (W0.heap.size + 1) (by simp)
  refine ⟨g, cap1, w1, hrun, ?_⟩
  have hv0 := boxed_low hv hb2
  have hr0 := row_keptB hrow hb2
  have hv1 := hv0.kept hg (hv0.not_row (by decide) hr0)
  have hp1 := (boxed_low h.bv hb2).kept hg ((boxed_low h.bv hb2).not_row (by decide) hr0)
  have hp2 := hp1.other (boxed_ne hp1 hv1 (by decide)) (.slice (some ⟨g, 0, none⟩) (Ls.length + 1) cap1)
  have hbl : Below w.heap.size W (w1.setCell ⟨Bo, 0, none⟩ (.slice (some ⟨g, 0, none⟩) (Ls.length + 1) cap1)) := by
    refine ((hb2.mono h.bel.size).grown hg (Nat.le_trans h.bel.size hb2.size) (fun j ej => ?_)).setCell (p := ⟨Bo, 0, none⟩) h.ho _
    exact (hr0.lt j ej).1
  have hx1 : w1.ownsRow w.heap.size 3 1 x P.length (Mk.iv P) := by
    have h2 := row_keptB (own_base hx h.bel.size) hlo
    exact h2.kept hg (rows_ne h2 hr0 (by decide))
  have hP1 := ((hin.low hb2).grown hr0 hg).snoc hx1
  refine ⟨hv1.cell, hv1.frozen, ⟨h.bel.trans hbl, h.ho, ⟨_, vs ++ [x], hv1.set _, ?_, hP1.box hv1 _⟩, hp2⟩, ?_, hbl, ?_⟩
  · rw [List.length_append]
    exact hown.kept (grownBy_setCell' w1 Bo _) (.inr (hv1.not_row (by decide) hown).symm)
  · refine ((keeps_low hb2 B).trans ((KeepsOthers.of_grownBy hg fun j o ej hj => ?_).from B)).trans ((KeepsOthers.setCell _ _ _).from B)
    rcases hr0.2 with ⟨rfl, _⟩ | ⟨g, cap, cur, rfl, _, hgb, _⟩
    · simp [Value.ownBlock] at ej
    · obtain rfl : g = j := by simpa [Value.ownBlock] using ej
      rw [hgb] at hj; cases hj; rfl
  · exact (show (w1.setCell ⟨Bo, 0, none⟩ _).heap[Bv]? = _ from hp2).trans (show W.heap[Bv]? = _ from h.bv).symm
end
end Go.Proofs.YtdpmjaelbjjanaaGreat

namespace Go.Proofs.YtdpmjaelbjjanaaGreat
open Go.RowKit Go.Maps
set_option linter.unusedVariables false
set_option linter.unusedSimpArgs false

/-- What is made of items by a vocabulary. -/
abbrev enS (s : Wf.Sp) (I : List Int) : List Int := encG (cuE s) (mgT s) (tE s) s.specials I
/-- A row that is made of them. -/
def EnR (B : Nat) (v : Value) (A : List Int) (W : World) : Prop := W.ownsRow B 3 1 v A.length (Mk.iv A)
theorem row_le {W : World} {B E k n : Nat} {ao : Option Addr} {cap : Nat} {xs : List Value} (h : W.ownsRow B E k (.slice ao n cap) n xs) : n ≤ cap := by
  rcases h.2 with ⟨_, h0⟩ | ⟨g, c, cur, e, _, _, h1, _⟩
  · omega
  · simp only [Value.slice.injEq] at e
    omega
/-- What comes of Items. -/
def EiP (B : Nat) (s : Wf.Sp) (I : List Int) (e : Ending) (w' : World) : Prop :=
  (4000 < I.length ∧ e = .returned (.tuple #[.slice none 0 0, .int .i64 0, .int .i64 3])) ∨
  (I.length ≤ 4000 ∧ ∃ k : Nat, k < I.length ∧ (∀ j, j < k → okE s.specials (Mk.gI I j)) ∧ ¬ okE s.specials (Mk.gI I k) ∧ e = .returned (.tuple #[.slice none 0 0, .int .i64 (k : Int), .int .i64 2])) ∨
  (I.length ≤ 4000 ∧ (∀ j, j < I.length → okE s.specials (Mk.gI I j)) ∧ ∃ ao cap, e = .returned (.tuple #[.slice ao (enS s I).length cap, .int .i64 (I.length : Int), .int .i64 0]) ∧ EnR B (.slice ao (enS s I).length cap) (enS s I) w')

set_option maxRecDepth 20000 in
set_option maxHeartbeats 4000000 in
theorem eitems_any {B q : Nat} {z : VV} {s : Wf.Sp} {u : Int} {w : World} (h : Ve B q z s u w) (hR : okB s) (hK : VOk s) (hl : s.specials.length ≤ 1000) {ai : Option Addr} {ni ci : Nat} {I : List Int} (hI : Mk.RdI w ai ni I) (hci : ni ≤ ci) (hni : ni ≤ 9223372036854775807) (hw : ∀ j, j < ni → Mk.wfI (Mk.gI I j)) :
    Calls Tryz.prog 14 #[.pointer (some ⟨q, 0, none⟩), .slice ai ni ci] w fun e w' => EiP w.heap.size s I e w' ∧ Below w.heap.size w w' := by
  have HIL := hide hI.1
  by_cases hbig : 4000 < ni
  · have hb1 : (4000 : Int) < (ni : Int) := by omega
    clear h hR hK hl hI hw
    go_enter Tryz.func14, Tryz.ntmps14
    go_wp2
    (try simp only [Exit.inBlock, Exit.then])
    refine bodyPost_ret (v := .tuple #[.slice none 0 0, .int .i64 0, .int .i64 3]) (by simp [results, Tryz.results14, go_sem]) rfl ?_
    exact ⟨Or.inl ⟨by rw [HIL.out]; exact hbig, rfl⟩, Below.refl _ _⟩
  · have hb1 : (ni : Int) ≤ 4000 := by omega
    have KW := hide (wrong_any (ci := ci) h hl hI (by omega) hw)
    have KM := hide (fun (w1 : World) (hb : Below w.heap.size w w1) (hok : ∀ j, j < ni → okE s.specials (Mk.gI I j)) => made_any (h.low hb) hR hK hl (hI.kept hb) hci (by omega) (by omega) hok)
    clear h hR hK hl hI hw
    go_enter Tryz.func14, Tryz.ntmps14
    go_wp2_with fail
    refine (unhide KW).mono ?_
    rintro e w1 ⟨hP, hb⟩
    have HB := hide hb
    clear KW
    rcases hP with ⟨h1, rfl⟩ | ⟨k, h0, h1, h2, rfl⟩
    · have K := hide (KM.out w1 hb (by rw [← HIL.out]; exact h1))
      have H1 := hide h1
      clear KM hb h1
      go_wp2_with fail
      refine (unhide K).mono ?_
      rintro e w2 ⟨⟨v, rfl, hrow⟩, hb2⟩
      obtain ⟨ao, cap, rfl⟩ := Mk.row_form hrow
      have HB2 := hide (below_step HB.out hb2)
      have HRW := hide (ownsRow_down hrow HB.out.size)
      clear K hrow hb2 HB
      go_wp2
      (try simp only [Exit.inBlock, Exit.then])
      refine bodyPost_ret (v := .tuple #[.slice ao (enS s I).length cap, .int .i64 (ni : Int), .int .i64 0]) (by simp [results, Tryz.results14, go_sem]) rfl ?_
      exact ⟨Or.inr (Or.inr ⟨by rw [HIL.out]; omega, H1.out, ao, cap, by rw [HIL.out], HRW.out⟩), HB2.out⟩
    · have H1 := hide (And.intro h0 (And.intro h1 h2))
      clear KM hb h0 h1 h2
      go_wp2
      (try simp only [Exit.inBlock, Exit.then])
      refine bodyPost_ret (v := .tuple #[.slice none 0 0, .int .i64 (k : Int), .int .i64 2]) (by simp [results, Tryz.results14, go_sem]) rfl ?_
      exact ⟨Or.inr (Or.inl ⟨by rw [HIL.out]; omega, k, H1.out.1, H1.out.2.1, H1.out.2.2, rfl⟩), HB.out⟩

/-- What comes of Text and Plain. -/
def EtP (B : Nat) (s : Wf.Sp) (n : Nat) (I : List Int) (e : Ending) (w' : World) : Prop :=
  (4000 < n ∧ e = .returned (.tuple #[.slice none 0 0, .int .i64 3])) ∨
  (n ≤ 4000 ∧ ∃ ao cap, e = .returned (.tuple #[.slice ao (enS s I).length cap, .int .i64 0]) ∧ EnR B (.slice ao (enS s I).length cap) (enS s I) w')
theorem wf_of_ok {L : List (Int × ByteArray)} (hl : L.length ≤ 1000) {x : Int} (h : okE L x) : Mk.wfI x := by
  have h1 := h.1
  have h2 := h.2
  unfold Mk.wfI
  constructor <;> omega
theorem ok_pars {L : List (Int × ByteArray)} (t : List UInt8) : ∀ j, j < (Mk.parsM (Mk.tL L) t).length → okE L (Mk.gI (Mk.parsM (Mk.tL L) t) j) := fun j hj => by
  have h := pars_right (Mk.tL L) t _ (List.getElem_mem hj)
  rw [Mk.tL_len] at h
  simpa [Mk.gI, hj, okE] using h
theorem ok_bys {L : List (Int × ByteArray)} (t : ByteArray) : ∀ j, j < (Mk.bys t).length → okE L (Mk.gI (Mk.bys t) j) := fun j hj => by
  have h := bys_right t _ (List.getElem_mem hj)
  have e : Mk.gI (Mk.bys t) j = (Mk.bys t)[j] := by simp [Mk.gI, hj]
  rw [e]
  unfold okE
  omega

set_option maxRecDepth 20000 in
set_option maxHeartbeats 4000000 in
theorem etext_any {B q : Nat} {z : VV} {s : Wf.Sp} {u : Int} {w : World} (h : Ve B q z s u w) (hR : okB s) (hK : VOk s) (hl : s.specials.length ≤ 1000) (t : ByteArray) (ht : t.size ≤ 9223372036854775807) :
    Calls Tryz.prog 34 #[.pointer (some ⟨q, 0, none⟩), .string t] w fun e w' => EtP w.heap.size s t.size (Mk.parsM (Mk.tL s.specials) t.data.toList) e w' ∧ Below w.heap.size w w' := by
  have KP : Hid (Calls Tryz.prog 65 #[.pointer (some ⟨q, 0, none⟩), .string t, .func (.func 67) #[.pointer (some ⟨z.pm, 0, none⟩)] #[]] w fun e w' => EtP w.heap.size s t.size (Mk.parsM (Mk.tL s.specials) t.data.toList) e w' ∧ Below w.heap.size w w') := hide (by
    by_cases hbig : 4000 < t.size
    · have hb1 : (4000 : Int) < (t.size : Int) := by omega
      clear h hR hK hl
      go_enter Tryz.func65, Tryz.ntmps65
      go_wp2
      (try simp only [Exit.inBlock, Exit.then])
      refine bodyPost_ret (v := .tuple #[.slice none 0 0, .int .i64 3]) (by simp [results, Tryz.results65, go_sem]) rfl ?_
      exact ⟨Or.inl ⟨hbig, rfl⟩, Below.refl _ _⟩
    · have hb1 : (t.size : Int) ≤ 4000 := by omega
      have KA := hide (Mk.parse_any h.vu.mr (Mk.good_tx hK.2.1) (Mk.good_mk hK.2.1) t (by omega))
      have KM := hide (fun (w1 : World) (hb : Below w.heap.size w w1) (ai : Option Addr) (ci : Nat) (hr : w1.ownsRow w.heap.size 3 1 (.slice ai (Mk.parsM (Mk.tL s.specials) t.data.toList).length ci) (Mk.parsM (Mk.tL s.specials) t.data.toList).length (Mk.iv (Mk.parsM (Mk.tL s.specials) t.data.toList))) =>
        made_any (h.low hb) hR hK hl (Mk.RdI.of_row hr) (row_le hr) (by have := pars_len (Mk.tL s.specials) t.data.toList; simp at this; omega) (by have := pars_len (Mk.tL s.specials) t.data.toList; simp at this; omega) (ok_pars t.data.toList))
      clear h hR hK hl
      generalize Mk.parsM (Mk.tL s.specials) t.data.toList = I at *
      go_enter Tryz.func65, Tryz.ntmps65
      go_wp2_with fail
      refine (unhide KA).mono ?_
      rintro e w1 ⟨⟨ai, ci, rfl, hr⟩, hb⟩
      have HB := hide hb
      have K := hide (KM.out w1 hb ai ci hr)
      clear KA KM hb hr
      go_wp2_with fail
      refine (unhide K).mono ?_
      rintro e w2 ⟨⟨v, rfl, hrow⟩, hb2⟩
      obtain ⟨ao, cap, rfl⟩ := Mk.row_form hrow
      have HB2 := hide (below_step HB.out hb2)
      have HRW := hide (ownsRow_down hrow HB.out.size)
      clear K hrow hb2 HB
      go_wp2
      (try simp only [Exit.inBlock, Exit.then])
      refine bodyPost_ret (v := .tuple #[.slice ao (enS s I).length cap, .int .i64 0]) (by simp [results, Tryz.results65, go_sem]) rfl ?_
      exact ⟨Or.inr ⟨by omega, ao, cap, rfl, HRW.out⟩, HB2.out⟩)
  have K1 := hide (vmarksE h)
  clear h hR hK hl
  go_enter Tryz.func34, Tryz.ntmps34
  go_wp2_with fail
  refine (unhide K1).mono ?_
  rintro e w1 ⟨rfl, hw1⟩
  obtain rfl := hw1.symm
  clear hw1 K1
  go_wp2_with fail
  refine (unhide KP).mono ?_
  rintro e w2 ⟨hP, hb⟩
  have HB := hide hb
  have HP2 := hide hP
  have hres : ∃ ao n cap f, e = .returned (.tuple #[.slice ao n cap, .int .i64 f]) := by
    rcases hP with ⟨_, rfl⟩ | ⟨_, ao, cap, rfl, _⟩
    · exact ⟨_, _, _, _, rfl⟩
    · exact ⟨_, _, _, _, rfl⟩
  obtain ⟨ao, n, cap, f, rfl⟩ := hres
  clear hb hP KP
  go_wp2
  (try simp only [Exit.inBlock, Exit.then])
  refine bodyPost_ret (v := .tuple #[.slice ao n cap, .int .i64 f]) (by simp [results, Tryz.results34, go_sem]) rfl ?_
  exact ⟨HP2.out, HB.out⟩

set_option maxRecDepth 20000 in
set_option maxHeartbeats 4000000 in
theorem eplain_any {B q : Nat} {z : VV} {s : Wf.Sp} {u : Int} {w : World} (h : Ve B q z s u w) (hR : okB s) (hK : VOk s) (hl : s.specials.length ≤ 1000) (t : ByteArray) (ht : t.size ≤ 9223372036854775807) :
    Calls Tryz.prog 35 #[.pointer (some ⟨q, 0, none⟩), .string t] w fun e w' => EtP w.heap.size s t.size (Mk.bys t) e w' ∧ Below w.heap.size w w' := by
  have KP : Hid (Calls Tryz.prog 65 #[.pointer (some ⟨q, 0, none⟩), .string t, .func (.func 68) #[] #[]] w fun e w' => EtP w.heap.size s t.size (Mk.bys t) e w' ∧ Below w.heap.size w w') := hide (by
    by_cases hbig : 4000 < t.size
    · have hb1 : (4000 : Int) < (t.size : Int) := by omega
      clear h hR hK hl
      go_enter Tryz.func65, Tryz.ntmps65
      go_wp2
      (try simp only [Exit.inBlock, Exit.then])
      refine bodyPost_ret (v := .tuple #[.slice none 0 0, .int .i64 3]) (by simp [results, Tryz.results65, go_sem]) rfl ?_
      exact ⟨Or.inl ⟨hbig, rfl⟩, Below.refl _ _⟩
    · have hb1 : (t.size : Int) ≤ 4000 := by omega
      have KA := hide (Mk.bytes_any t w (by omega))
      have HYL := hide (Mk.bys_len t)
      have KM := hide (fun (w1 : World) (hb : Below w.heap.size w w1) (ai : Option Addr) (ci : Nat) (hr : w1.ownsRow w.heap.size 3 1 (.slice ai t.size ci) t.size (Mk.iv (Mk.bys t))) =>
        made_any (h.low hb) hR hK hl (Mk.RdI.of_row hr) (row_le hr) (by omega) (by omega) (fun j hj => ok_bys t j (by rw [Mk.bys_len]; exact hj)))
      clear h hR hK hl
      generalize Mk.bys t = I at *
      go_enter Tryz.func65, Tryz.ntmps65
      go_wp2_with fail
      refine (unhide KA).mono ?_
      rintro e w1 ⟨⟨ai, ci, rfl, hr⟩, hb⟩
      have HB := hide hb
      have K := hide (KM.out w1 hb ai ci hr)
      clear KA KM hb hr
      go_wp2_with fail
      refine (unhide K).mono ?_
      rintro e w2 ⟨⟨v, rfl, hrow⟩, hb2⟩
      obtain ⟨ao, cap, rfl⟩ := Mk.row_form hrow
      have HB2 := hide (below_step HB.out hb2)
      have HRW := hide (ownsRow_down hrow HB.out.size)
      clear K hrow hb2 HB
      go_wp2
      (try simp only [Exit.inBlock, Exit.then])
      refine bodyPost_ret (v := .tuple #[.slice ao (enS s I).length cap, .int .i64 0]) (by simp [results, Tryz.results65, go_sem]) rfl ?_
      exact ⟨Or.inr ⟨by omega, ao, cap, rfl, HRW.out⟩, HB2.out⟩)
  clear h hR hK hl
  go_enter Tryz.func35, Tryz.ntmps35
  go_wp2_with fail
  refine (unhide KP).mono ?_
  rintro e w2 ⟨hP, hb⟩
  have HB := hide hb
  have HP2 := hide hP
  have hres : ∃ ao n cap f, e = .returned (.tuple #[.slice ao n cap, .int .i64 f]) := by
    rcases hP with ⟨_, rfl⟩ | ⟨_, ao, cap, rfl, _⟩
    · exact ⟨_, _, _, _, rfl⟩
    · exact ⟨_, _, _, _, rfl⟩
  obtain ⟨ao, n, cap, f, rfl⟩ := hres
  clear hb hP KP
  go_wp2
  (try simp only [Exit.inBlock, Exit.then])
  refine bodyPost_ret (v := .tuple #[.slice ao n cap, .int .i64 f]) (by simp [results, Tryz.results35, go_sem]) rfl ?_
  exact ⟨HP2.out, HB.out⟩
end Go.Proofs.YtdpmjaelbjjanaaGreat

namespace Go.Proofs.YtdpmjaelbjjanaaGreat
open Go.RowKit Go.Maps
set_option linter.unusedVariables false
set_option linter.unusedSimpArgs false
attribute [local go_sem] Oper.semAt_some

theorem own_notcells {X : World} {row : Option Nat} {B k n : Nat} {E : TypeId} {v : Value} {xs : List Value} (h : X.ownsRow B E k v n xs) (hr : ∀ r, row = some r → ∃ o : Obj, X.heap[r]? = some o ∧ o.isCells = false) : v.ownBlock = none ∨ v.ownBlock ≠ row := by
  rcases h.2 with ⟨rfl, _⟩ | ⟨g, cap, cur, rfl, _, hg, _⟩
  · exact Or.inl rfl
  · refine Or.inr (fun e => ?_)
    obtain ⟨o, h1, h2⟩ := hr g (by rw [← e]; rfl)
    rw [hg] at h1
    simp only [Option.some.injEq] at h1
    subst h1
    cases h2
section
variable {w W W' : World} {Bo Bv q : Nat} {Ls : List (List Int)}
theorem PdI.own {β : Type} {B0 : Nat} (hB : w.heap.size ≤ B0) (f : β → List (List Int)) : OwnFrom B0 (fun s W => PdI w Bo Bv q (f s) W) := fun s X Y row h hg hr => by
  have hr2 : ∀ r, row = some r → ∃ o : Obj, X.heap[r]? = some o ∧ o.isCells = false := fun r e => (hr r e).2
  obtain ⟨v, vs, h1, h2, h3⟩ := h.out
  refine ⟨ownFrom_below (Nat.le_refl _) hB s X Y row h.bel hg hr, h.ho, ⟨v, vs, boxed_own Bo _ (fun _ => v) s X Y row h1 hg hr2, h2.kept hg (own_notcells h2 hr2), h3.len, fun i hi => ?_⟩, boxed_own Bv _ (fun _ => _) s X Y row h.bv hg hr2⟩
  obtain ⟨u, e, hu⟩ := h3.row i hi
  exact ⟨u, e, hu.kept hg (own_notcells hu hr2)⟩
theorem PdI.kp (h : PdI w Bo Bv q Ls W) (hb : Below W.heap.size W W') : KpE w.heap.size Bv W W' := ⟨hb.mono h.bel.size, hb.block Bv h.bv.lt⟩
end
/-- The pieces so far. -/
def pcs {s : Wf.Sp} {I : List Int} (pre : List (PcT s I)) : List (List Int) := pre.map pcL

set_option maxRecDepth 20000 in
set_option maxHeartbeats 16000000 in
theorem epieces_any {B q : Nat} {z : VV} {s : Wf.Sp} {u : Int} {w : World} (hV : Ve B q z s u w) (hR : okB s) (hl : s.specials.length ≤ 1000) {ai : Option Addr} {ni ci : Nat} {I : List Int} (hI : Mk.RdI w ai ni I) (hci : ni ≤ ci) (hn2 : ni ≤ 100000) (hok : ∀ j, j < ni → okE s.specials (Mk.gI I j)) :
    Calls Tryz.prog 13 #[.pointer (some ⟨q, 0, none⟩), .slice ai ni ci] w fun e w' => (∃ v vs, e = .returned v ∧ w'.ownsRow w.heap.size 41 1 v (rns (icE (cuE s)) I).length vs ∧ PwR w.heap.size (rns (icE (cuE s)) I) vs w') ∧ Below w.heap.size w w' := by
  have hni : ni ≤ 1000000000 := by omega
  have hA : ∃ b off, 0 < ni → ai = some ⟨b, off, none⟩ := by
    rcases hI.2 with h0 | ⟨b, off, e, _⟩
    · exact ⟨0, 0, fun h => by omega⟩
    · exact ⟨b, off, fun _ => e⟩
  obtain ⟨b, off, hA⟩ := hA
  have K0 := hide (right_any (ci := ci) hV hl hI hni (fun j hj => by have := hok j hj; unfold okE at this; unfold Mk.wfI; omega))
  have HV := hide hV
  have HR := hide hR
  have HLS := hide hl
  have HI := hide hI
  have HA := hide hA
  have HOK := hide hok
  have HIL := hide hI.1
  have hmo : Tryz.prog.follows .mixedOrders = true := by kernel_rfl
  clear hV hR hl hI hA hok
  refine (callsIn_wide (n := 10)).1 ?_
  refine callsIn_of_wp_marks Tryz.func13 rfl trivial ?_ rfl
  simp only [Tryz.ntmps13, List.size_toArray, List.length_cons, List.length_nil, Nat.reduceAdd, Nat.reduceSub, Array.replicate_succ, Array.replicate_zero, List.push_toArray, List.append_toArray, List.nil_append, List.cons_append]
  gi_wp2_with fail
  refine ⟨trivial, (callsIn_wide.2 (unhide K0)).mono ?_⟩
  rintro e w1 ⟨⟨bb, rfl, hb1⟩, hb⟩
  obtain rfl : bb = true := hb1.2 (fun j hj => HOK.out j (by rw [← HIL.out]; exact hj))
  have HV0 := hide (HV.out.low hb)
  have hl1 := Mk.low1 w1 (.cells #[.slice none 0 0] 43)
  have HX1 := hide (Boxed.new w1 43 (.slice none 0 0))
  have HZ0 := hide hb.size
  have HB1 := hide (hb.trans (hl1.mono hb.size))
  have HZ1 : Hid ((w1.alloc (.cells #[.slice none 0 0] 43)).heap.size = w1.heap.size + 1) := hide (by simp)
  have HV1 := hide (HV0.out.low hl1)
  clear hl1 hb hb1 K0 HV0
  have K3 := hide (pieces_any (.pointer none) ai ni ci q (w1.alloc (.cells #[.slice none 0 0] 43)))
  gi_wp2_with fail
  refine ⟨trivial, (callsIn_wide.2 (unhide K3)).mono ?_⟩
  rintro e w4 ⟨rfl, hw4⟩
  clear K3
  generalize w1.alloc (.cells #[.slice none 0 0] 43) = w3 at *
  have hla := Mk.low1 w3 (.cells #[.pointer (some ⟨q, 0, none⟩)] 30)
  have hlb := Mk.low1 (w3.alloc (.cells #[.pointer (some ⟨q, 0, none⟩)] 30)) (.cells #[.slice ai ni ci] 41)
  have HB4 := hide ((HB1.out.trans (hla.mono HB1.out.size)).trans (hlb.mono (HB1.out.trans (hla.mono HB1.out.size)).size))
  have HX4 := hide (boxed_low (boxed_low HX1.out hla) hlb)
  have HP4 := hide (boxed_low (Boxed.new w3 30 (.pointer (some ⟨q, 0, none⟩))) hlb)
  have HI4 := Boxed.new (w3.alloc (.cells #[.pointer (some ⟨q, 0, none⟩)] 30)) 41 (.slice ai ni ci)
  rw [World.size_alloc] at HI4
  replace HI4 := hide HI4
  have HZ4 : Hid (w.heap.size ≤ ((w3.alloc (.cells #[.pointer (some ⟨q, 0, none⟩)] 30)).alloc (.cells #[.slice ai ni ci] 41)).heap.size ∧ w3.heap.size < ((w3.alloc (.cells #[.pointer (some ⟨q, 0, none⟩)] 30)).alloc (.cells #[.slice ai ni ci] 41)).heap.size) := hide (by simp; have := HB1.out.size; omega)
  rw [← hw4] at HB4 HX4 HP4 HI4 HZ4
  clear hla hlb HB1 HX1 hw4
  have HMI : Hid (PdI w w1.heap.size w3.heap.size q (pcs ([] : List (PcT s I))) w4) := hide ⟨HB4.out, HZ0.out, ⟨_, [], HX4.out, World.ownsRow_nil _ _ _ _, PwR.nil _ _⟩, HP4.out⟩
  gi_wp2
  refine wpIn_rangeFunc_ownG (F := Fence.wide) (n := 10) rfl (by omega) (gf := 73) (lb := #[.pointer (some ⟨w3.heap.size + 1, 0, none⟩), .pointer (some ⟨w3.heap.size, 0, none⟩)]) rfl trivial (enters_of Tryz.func73 (by kernel_rfl) rfl)
    (pieces_stops HV.out HR.out HI.out HA.out hci hni (fun j hj => (HOK.out j hj).1) 9 (w3.heap.size + 1) w3.heap.size (by omega) w4 HB4.out HI4.out HP4.out)
    (fun h k => KpE.trans h k) (fun W l o o' hl h ho hw => ⟨belowK_b (w := w4) HZ4.out.1 W l o o' hl h ho hw, World.putObj_heap_other (by have := HZ4.out.2; omega)⟩) (Below.refl _ _) (fun _ => rfl)
    (fun pre W => PdI w w1.heap.size w3.heap.size q (pcs pre) W) (fun _ _ _ => False) (PdI.own HZ4.out.1 pcs) (fun _ _ _ _ _ hs _ _ => hs) HMI.out
    (fun x => { tmps := #[.pointer (some ⟨q, 0, none⟩), .slice ai ni ci, undef, undef, .slice none 0 0, .pointer (some ⟨w1.heap.size, 0, none⟩), .slice (some ⟨b, off + x.1.1, none⟩) x.1.2 (ci - x.1.1), .pointer (some ⟨q, 0, none⟩), .slice ai ni ci, .bool true, .bool false, .pointer (some ⟨q, 0, none⟩), .slice ai ni ci, pcF (w3.heap.size + 1) w3.heap.size, .slice (some ⟨b, off + x.1.1, none⟩) x.1.2 (ci - x.1.1), undef, undef, undef, undef, undef, undef], defers := [] }) ?assign ?body ?done ?stop
  case assign =>
    intro l x W K hK
    gi_wp2
    exact hK
  case body =>
    rintro l pre x W hM hlen
    have hnI : 0 < ni := by
      have h1 := x.2.1
      have h2 := x.2.2.1
      have h3 := HIL.out
      omega
    obtain rfl := HA.out hnI
    have HLE : Hid ((pcs pre).length ≤ 1000000000) := hide (by unfold pcs; rw [List.length_map]; have := HIL.out; omega)
    have HLN : Hid (pcs (pre ++ [x]) = pcs pre ++ [pcL x]) := hide (by unfold pcs; rw [List.map_append]; rfl)
    have hMD := hM.low below_drw
    have HKP := hide (And.intro (keeps_low (below_drw (W := W)) w4.heap.size) (hM.kp below_drw))
    have HPI := rdI_sub (HI.out.kept (hMD.bel.mono (Nat.le_refl _))) x.2.2.1
    rw [show (I.drop x.1.1).take x.1.2 = pcL x from rfl] at HPI
    have HPLN := hide (pcL_len x)
    have hm0 := x.2.1
    have KC := hide (clonei_any W.drew b (off + x.1.1) x.1.2 (ci - x.1.1) (pcL x) HPI hm0 (by have h2 := x.2.2.1; have h3 := HIL.out; omega))
    obtain ⟨v, vs, hvb, hvr, hpr⟩ := hMD.out
    obtain ⟨ao, cap, rfl⟩ := row_form hvr
    have HVB := hide hvb
    have HVR := hide hvr
    have HPR := hide hpr
    have HMD := hide hMD
    have hd0 := hvb.cell
    (try dsimp only)
    clear hvb hvr hpr hM hMD HMI HI4 HX4 HP4 HB4 HPI
    generalize pcs pre = L at *
    generalize pcL x = P at *
    generalize x.1.1 = k at *
    generalize x.1.2 = m at *
    generalize ci - k = cp at *
    gi_wp2
    refine region_round (F := Fence.wide) hmo (by intro o ho c hc; simp only [List.mem_cons, List.not_mem_nil, or_false] at ho; rcases ho with rfl | rfl | rfl | rfl | rfl | rfl <;> cases hc) ?_
    refine wpAnyIn_take (i := 1) (v := .slice (some ⟨b, off + k, none⟩) m cp) rfl rfl (by kernel_rfl) (by kernel_rfl) (by kernel_rfl) (fun _ _ _ h => h) ⟨Or.inl ⟨by rfl, ?_⟩, fun _ => rfl⟩ ?_
    · intro w
      go_simp
    refine wpAnyIn_ready (rs := [0, 2]) (by kernel_rfl) (by simp) ?_
    refine AllReadyIn.cons rfl (fun K hK => ?_) (AllReadyIn.cons rfl (fun K hK => ?_) AllReadyIn.nil)
    · go_simp
      refine hK _ _ ?_
      clear hK K
      refine wpAnyIn_ready (rs := [2]) (by kernel_rfl) (by simp) ?_
      refine AllReadyIn.cons rfl (fun K hK => ?_) AllReadyIn.nil
      go_simp
      gi_wp2_with fail
      refine ⟨trivial, (callsIn_wide.2 (unhide KC)).mono ?_⟩
      rintro e w7 ⟨⟨v7, rfl, hrow⟩, hb7⟩
      obtain ⟨a7, c7, rfl⟩ := row_form hrow
      obtain ⟨g, cap1, w8, hrun, hc8, hf8, hM8, hk8, hp8⟩ := HMD.out.put HLE.out HVB.out HVR.out HPR.out hb7 (by rw [HPLN.out]; exact hrow) rfl w4.heap.size
      have hd7 := (boxed_low HVB.out hb7).cell
      have hd8 := (boxed_low (boxed_low HVB.out hb7) (Mk.low1 w7 (.cells #[.slice a7 m c7] 41))).cell
      have HN := hide (And.intro (HKP.out.1.trans hk8) (And.intro (HKP.out.2.trans hp8) hM8))
      clear hk8 hp8 hM8 hb7 hrow
      refine hK _ _ ?_
      clear hK K
      refine wpAnyIn_ready (rs := [3]) (by kernel_rfl) (by simp) ?_
      refine AllReadyIn.cons rfl (fun K hK => ?_) AllReadyIn.nil
      go_simp
      refine hK _ _ ?_
      clear hK K
      refine wpAnyIn_ready (rs := [4]) (by kernel_rfl) (by simp) ?_
      refine AllReadyIn.cons rfl (fun K hK => oper_append_run rfl _ _ _ _ rfl _ _ rfl rfl _ _ hrun (hK _ _ ?_)) AllReadyIn.nil
      clear hK K
      refine wpAnyIn_ready (rs := [5]) (by kernel_rfl) (by simp) ?_
      refine AllReadyIn.cons rfl (fun K hK => ?_) AllReadyIn.nil
      clear hrun
      go_simp
      refine hK _ _ ?_
      clear hK K
      refine wpAnyIn_done (by kernel_rfl) ?_ _
      refine ⟨HN.out.1, HN.out.2.1, ?_⟩
      show PdI _ _ _ _ (pcs (pre ++ [x])) _
      rw [HLN.out]
      exact HN.out.2.2
    · go_simp
      gi_wp2_with fail
      refine ⟨trivial, (callsIn_wide.2 (unhide KC)).mono ?_⟩
      rintro e w7 ⟨⟨v7, rfl, hrow⟩, hb7⟩
      obtain ⟨a7, c7, rfl⟩ := row_form hrow
      obtain ⟨g, cap1, w8, hrun, hc8, hf8, hM8, hk8, hp8⟩ := HMD.out.put HLE.out HVB.out HVR.out HPR.out hb7 (by rw [HPLN.out]; exact hrow) rfl w4.heap.size
      have hd7 := (boxed_low HVB.out hb7).cell
      have hd8 := (boxed_low (boxed_low HVB.out hb7) (Mk.low1 w7 (.cells #[.slice a7 m c7] 41))).cell
      have HN := hide (And.intro (HKP.out.1.trans hk8) (And.intro (HKP.out.2.trans hp8) hM8))
      clear hk8 hp8 hM8 hb7 hrow
      refine hK _ _ ?_
      clear hK K
      refine wpAnyIn_ready (rs := [0, 3]) (by kernel_rfl) (by simp) ?_
      refine AllReadyIn.cons rfl (fun K hK => ?_) (AllReadyIn.cons rfl (fun K hK => ?_) AllReadyIn.nil)
      · go_simp
        refine hK _ _ ?_
        clear hK K
        refine wpAnyIn_ready (rs := [3]) (by kernel_rfl) (by simp) ?_
        refine AllReadyIn.cons rfl (fun K hK => ?_) AllReadyIn.nil
        go_simp
        refine hK _ _ ?_
        clear hK K
        refine wpAnyIn_ready (rs := [4]) (by kernel_rfl) (by simp) ?_
        refine AllReadyIn.cons rfl (fun K hK => oper_append_run rfl _ _ _ _ rfl _ _ rfl rfl _ _ hrun (hK _ _ ?_)) AllReadyIn.nil
        clear hK K
        refine wpAnyIn_ready (rs := [5]) (by kernel_rfl) (by simp) ?_
        refine AllReadyIn.cons rfl (fun K hK => ?_) AllReadyIn.nil
        clear hrun
        go_simp
        refine hK _ _ ?_
        clear hK K
        refine wpAnyIn_done (by kernel_rfl) ?_ _
        refine ⟨HN.out.1, HN.out.2.1, ?_⟩
        show PdI _ _ _ _ (pcs (pre ++ [x])) _
        rw [HLN.out]
        exact HN.out.2.2
      · go_simp
        refine hK _ _ ?_
        clear hK K
        refine wpAnyIn_ready (rs := [0]) (by kernel_rfl) (by simp) ?_
        refine AllReadyIn.cons rfl (fun K hK => ?_) AllReadyIn.nil
        go_simp
        refine hK _ _ ?_
        clear hK K
        refine wpAnyIn_ready (rs := [4]) (by kernel_rfl) (by simp) ?_
        refine AllReadyIn.cons rfl (fun K hK => oper_append_run rfl _ _ _ _ rfl _ _ rfl rfl _ _ hrun (hK _ _ ?_)) AllReadyIn.nil
        clear hK K
        refine wpAnyIn_ready (rs := [5]) (by kernel_rfl) (by simp) ?_
        refine AllReadyIn.cons rfl (fun K hK => ?_) AllReadyIn.nil
        clear hrun
        go_simp
        refine hK _ _ ?_
        clear hK K
        refine wpAnyIn_done (by kernel_rfl) ?_ _
        refine ⟨HN.out.1, HN.out.2.1, ?_⟩
        show PdI _ _ _ _ (pcs (pre ++ [x])) _
        rw [HLN.out]
        exact HN.out.2.2
  case done =>
    rintro D ys W hD hS hM hK
    obtain ⟨v, vs, hvb, hvr, hpr⟩ := hM.out
    have e : pcs ys = rns (icE (cuE s)) I := hS
    rw [e] at hvr hpr
    have hc := hvb.cell
    have HVR := hide hvr
    have HPR := hide hpr
    have HM := hide hM
    have HBK := hide (belowK_b (w := w4) HZ4.out.1 W D _ (.deferred none) hD hK rfl rfl)
    have HKK := hide hK
    clear hvr hM hvb hpr
    gi_wp2
    refine ⟨by simp, .inl ⟨_, _, rfl, run_takeDeferred hK, ?_⟩⟩
    exact ⟨_, results_tmp rfl _ _ _, ⟨v, vs, rfl, ownsRow_putObj HVR.out _ hK rfl, HPR.out.len, fun i hi => by
      obtain ⟨u, h1, h2⟩ := HPR.out.row i hi
      exact ⟨u, h1, ownsRow_putObj h2 _ HKK.out rfl⟩⟩, HM.out.bel.trans HBK.out⟩
  case stop =>
    rintro D c pre W _ _ h _
    exact h.elim
end Go.Proofs.YtdpmjaelbjjanaaGreat

namespace Go.Proofs.YtdpmjaelbjjanaaGreat
set_option linter.unusedVariables false
set_option linter.unusedSimpArgs false

section
variable {α : Type} {c : α → α → Bool}
theorem rns_in_at {I P : List α} (hP : P ∈ rns c I) {j : Nat} (h0 : 0 < j) (h : j < P.length) (d : α) : c (P.getD (j - 1) d) (P.getD j d) = false := by
  refine rns_in I P hP (P.take (j - 1)) _ _ (P.drop (j + 1)) ?_
  have e1 : P.getD (j - 1) d = P[j - 1] := by rw [List.getD_eq_getElem?_getD, List.getElem?_eq_getElem (by omega)]; rfl
  have e2 : P.getD j d = P[j] := by rw [List.getD_eq_getElem?_getD, List.getElem?_eq_getElem h]; rfl
  rw [e1, e2]
  have e3 := List.drop_eq_getElem_cons (l := P) (i := j - 1) (by omega)
  rw [show j - 1 + 1 = j by omega, List.drop_eq_getElem_cons (l := P) (i := j) h] at e3
  rw [← e3, List.take_append_drop]
theorem rns_one {I P : List α} (hP : P ∈ rns c I) (d : α) : rns c P = [P] := by
  have hne := rns_ne I P hP
  have hl : 0 < P.length := List.length_pos_iff.2 hne
  have h := rns_first (c := c) d P P.length hl (Nat.le_refl _) (fun j h0 h1 => rns_in_at hP h0 h1 d) (Or.inl rfl)
  rw [List.take_length, List.drop_length] at h
  rw [h]
  rfl
/-- Between two runs there is a cut. -/
theorem rns_edge : ∀ (l : List α) (i : Nat) (d : α), i + 1 < (rns c l).length → c (((rns c l).getD i []).getLastD d) (((rns c l).getD (i + 1) []).getD 0 d) = true
  | [], i, d, h => by simp [rns] at h
  | [a], i, d, h => by simp [rns] at h
  | a :: b :: l, i, d, h => by
    have ih := rns_edge (b :: l)
    have hfl := rns_flat (c := c) (b :: l)
    rw [rns] at h ⊢
    split
    · rename_i hc
      rw [if_pos hc] at h
      cases i with
      | zero =>
        cases hg : rns c (b :: l) with
        | nil => rw [hg] at hfl; simp at hfl
        | cons p1 r =>
          rw [hg] at hfl
          have hp1 : p1 ≠ [] := rns_ne (c := c) (b :: l) p1 (by rw [hg]; simp)
          cases p1 with
          | nil => simp at hp1
          | cons z p2 =>
            have hz : z = b := by simp at hfl; exact hfl.1
            subst hz
            simpa using hc
      | succ i =>
        have := ih i d (by simpa using h)
        simpa using this
    · rename_i hc
      rw [if_neg hc] at h
      cases hg : rns c (b :: l) with
      | nil => rw [hg] at hfl; simp at hfl
      | cons p1 r =>
        rw [hg] at h ih
        have hp1 : p1 ≠ [] := rns_ne (c := c) (b :: l) p1 (by rw [hg]; simp)
        have hi := ih i d (by simpa [hdE] using h)
        cases i with
        | zero =>
          cases p1 with
          | nil => simp at hp1
          | cons z p2 => simpa [hdE] using hi
        | succ i => simpa [hdE] using hi
end
/-- What is made of a piece alone. -/
theorem enS_piece {s : Wf.Sp} {I P : List Int} (hP : P ∈ rns (icE (cuE s)) I) : enS s P = mkE1 s P := by
  unfold enS encG
  rw [rns_one hP 0]
  simp [mkE1]
/-- What is made of all is what is made of the pieces, one behind the other. -/
theorem enS_pieces (s : Wf.Sp) (I : List Int) : (rns (icE (cuE s)) I).flatMap (enS s) = enS s I := by
  have e : (rns (icE (cuE s)) I).flatMap (enS s) = (rns (icE (cuE s)) I).flatMap (mkE1 s) := by
    rw [List.flatMap_def, List.flatMap_def]
    congr 1
    exact List.map_congr_left (fun P hP => enS_piece hP)
  rw [e]
  rfl
/-- What a piece is like: a mark alone, or bytes that are joined. -/
theorem piece_kind {s : Wf.Sp} {I P : List Int} (hI : ∀ x ∈ I, okE s.specials x) (hP : P ∈ rns (icE (cuE s)) I) : (∃ y, P = [y] ∧ y < 0) ∨ ((∀ x ∈ P, 0 ≤ x ∧ x < 256) ∧ ∀ j, 0 < j → j < P.length → cuE s (P.getD (j - 1) 0) (P.getD j 0) = false) := by
  rcases rns_kind I hP with h | ⟨_, h⟩
  · exact Or.inl h
  · refine Or.inr ⟨fun x hx => ⟨h x hx, (hI x (rns_mem hP hx)).1⟩, fun j h0 h1 => ?_⟩
    have := rns_in_at hP h0 h1 0
    unfold icE at this
    rw [Bool.or_eq_false_iff] at this
    exact this.2
/-- At the edge of two pieces of bytes there is a cut. -/
theorem piece_edge {s : Wf.Sp} {I : List Int} {i : Nat} (hi : i + 1 < (rns (icE (cuE s)) I).length) (ha : 0 ≤ ((rns (icE (cuE s)) I).getD i []).getLastD 0) (hb : 0 ≤ ((rns (icE (cuE s)) I).getD (i + 1) []).getD 0 0) : cuE s (((rns (icE (cuE s)) I).getD i []).getLastD 0) (((rns (icE (cuE s)) I).getD (i + 1) []).getD 0 0) = true := by
  have h := rns_edge I i 0 hi
  generalize rns (icE (cuE s)) I = Ls at *
  unfold icE at h
  rw [Bool.or_eq_true, Bool.or_eq_true, decide_eq_true_iff, decide_eq_true_iff] at h
  rcases h with (h | h) | h
  · omega
  · omega
  · exact h
end Go.Proofs.YtdpmjaelbjjanaaGreat

namespace Go.Proofs.YtdpmjaelbjjanaaGreat
open Go.RowKit Go.Maps
set_option linter.unusedVariables false
set_option linter.unusedSimpArgs false

/-- One of the pieces. -/
def gP (Ls : List (List Int)) (i : Nat) : List Int := Ls.getD i []
theorem gP_mem {Ls : List (List Int)} {i : Nat} (hi : i < Ls.length) : gP Ls i ∈ Ls := by
  unfold gP
  rw [List.getD_eq_getElem?_getD, List.getElem?_eq_getElem hi]
  exact List.getElem_mem hi
/-- The pieces' values, read. -/
theorem pieces_at {W : World} {B : Nat} {Ls : List (List Int)} {v : Value} {vs : List Value} (hv : W.ownsRow B 41 1 v Ls.length vs) (hp : PwR B Ls vs W) (hne : ∀ P ∈ Ls, P ≠ []) (h0 : 0 < Ls.length) :
    ∃ g8 c8, v = .slice (some ⟨g8, 0, none⟩) Ls.length c8 ∧ g8 < W.heap.size ∧ ∀ i, i < Ls.length → ∃ gp cp, gp < W.heap.size ∧ W.cell? ⟨g8, i, none⟩ = some (.slice (some ⟨gp, 0, none⟩) (gP Ls i).length cp) ∧ W.ownsRow B 3 1 (.slice (some ⟨gp, 0, none⟩) (gP Ls i).length cp) (gP Ls i).length (Mk.iv (gP Ls i)) := by
  obtain ⟨g8, c8, rfl, _, h8⟩ := hv.form h0
  refine ⟨g8, c8, rfl, h8, fun i hi => ?_⟩
  obtain ⟨x, h1, h2⟩ := hp.row i hi
  have hpos : 0 < (gP Ls i).length := List.length_pos_iff.2 (hne _ (gP_mem hi))
  obtain ⟨gp, cp, rfl, _, hg⟩ := h2.form hpos
  refine ⟨gp, cp, hg, ?_, h2⟩
  have := hv.cells (g := g8) rfl i _ h1
  rw [Addr.add_lit, Nat.zero_add] at this
  exact this
/-- Numbers are put behind others: what of other rows stays. -/
theorem app_numsX (w : World) (B1 B2 : Nat) (a1 a2 : Option Addr) (n1 n2 c1 c2 : Nat) (l1 l2 : List Int) (h1 : w.ownsRow B1 3 1 (.slice a1 n1 c1) n1 (Mk.iv l1)) (h2 : w.ownsRow B2 3 1 (.slice a2 n2 c2) n2 (Mk.iv l2)) (hn1 : n1 ≤ 1000000) (hn2 : n2 ≤ 1000000) (h0 : 0 < n2) (hb : B1 ≤ w.heap.size) :
    ∃ g cap w1, (Builtin.append_ #[41, 41] 41 #[.slice a1 n1 c1, .slice a2 n2 c2]).run Tryz.prog w = .ok (.slice (some ⟨g, 0, none⟩) (n1 + n2) cap) w1 ∧ w1.ownsRow B1 3 1 (.slice (some ⟨g, 0, none⟩) (n1 + n2) cap) (n1 + n2) (Mk.iv (l1 ++ l2)) ∧ Below B1 w w1 ∧ ((Value.slice a1 n1 c1).ownBlock = some g ∨ g = w.heap.size) ∧
      ∀ (B3 k3 n3 : Nat) (E3 : TypeId) (v3 : Value) (X3 : List Value), w.ownsRow B3 E3 k3 v3 n3 X3 → (v3.ownBlock = none ∨ v3.ownBlock ≠ (Value.slice a1 n1 c1).ownBlock) → w1.ownsRow B3 E3 k3 v3 n3 X3 := by
  obtain ⟨i0, hi, hz0, hz1, hz2⟩ := info_parts Mk.info_int
  obtain ⟨g2, c2', hv, _, _⟩ := h2.form (by omega)
  simp only [Value.slice.injEq] at hv
  obtain ⟨rfl, _, rfl⟩ := hv
  obtain ⟨g, cap1, w1, hrun, hown, hgrow, hg, _⟩ := run_append_lies (P := Tryz.prog) w 41 41 B1 3 i0 _ 1 8 Tryz.underlying41 hi hz0 hz1 hz2 rfl (by omega) (.slice a1 n1 c1) n1 (Mk.iv l1) h1 ⟨g2, 0, none⟩ n2 c2 (Mk.iv l2) h2.1 (fun j u hu => h2.cells (g := g2) rfl j u hu) (fun u hu => by simp [Mk.iv] at hu; obtain ⟨x, _, rfl⟩ := hu; rfl) h0 (by unfold maxLen; omega) (by omega) hb w.heap.size rfl
  refine ⟨g, cap1, w1, hrun, by rw [Mk.iv_append]; exact hown, ⟨hgrow.os, hgrow.tape, hgrow.output, hgrow.size, fun k hk => hgrow.block k (by omega) (fun e => by have := (h1.lt k e.symm).1; omega)⟩, hg, fun B3 k3 n3 E3 v3 X3 h3 hne => h3.kept hgrow hne⟩
theorem flat_few {α : Type} : ∀ Ls : List (List α), (∀ P ∈ Ls, P ≠ []) → Ls.length ≤ Ls.flatten.length
  | [], _ => by simp
  | P :: r, h => by
    have ih := flat_few r (fun Q hQ => h Q (List.mem_cons_of_mem _ hQ))
    have h1 := List.length_pos_iff.2 (h P (by simp))
    simp only [List.length_cons, List.flatten_cons, List.length_append]
    omega
theorem flat_part {α : Type} : ∀ (Ls : List (List α)) (i : Nat), (Ls.take i).flatten.length ≤ Ls.flatten.length
  | [], i => by simp
  | P :: r, 0 => by simp
  | P :: r, i + 1 => by
    have ih := flat_part r i
    simp only [List.take_succ_cons, List.flatten_cons, List.length_append]
    omega
theorem take_gP {Ls : List (List Int)} {i : Nat} (hi : i < Ls.length) : Ls.take (i + 1) = Ls.take i ++ [gP Ls i] := by
  rw [List.take_add_one, List.getElem?_eq_getElem hi]
  simp [gP, hi]
theorem enS_few (s : Wf.Sp) : ∀ l : List (List Int), (l.flatMap (enS s)).length ≤ l.flatten.length
  | [] => by simp
  | P :: r => by
    have ih := enS_few s r
    have h1 : (enS s P).length ≤ P.length := encG_len (q := cuE s) (mgT s) (tE s) s.specials P
    simp only [List.flatMap_cons, List.flatten_cons, List.length_append]
    omega
/-- Where the law stands: all that was read so far, and what was made of it. -/
structure PiI (W3 : World) (s : Wf.Sp) (Ls : List (List Int)) (i : Nat) (a1 : Option Addr) (n1 k1 : Nat) (a2 : Option Addr) (n2 k2 : Nat) (W : World) : Prop where
  bel : Below W3.heap.size W3 W
  r1 : W.ownsRow W3.heap.size 3 1 (.slice a1 n1 k1) n1 (Mk.iv (Ls.take i).flatten)
  r2 : W.ownsRow W3.heap.size 3 1 (.slice a2 n2 k2) n2 (Mk.iv ((Ls.take i).flatMap (enS s)))
  e1 : n1 = (Ls.take i).flatten.length
  e2 : n2 = ((Ls.take i).flatMap (enS s)).length
  ap : (Value.slice a2 n2 k2).ownBlock = none ∨ (Value.slice a2 n2 k2).ownBlock ≠ (Value.slice a1 n1 k1).ownBlock
theorem PiI.low {W3 : World} {s : Wf.Sp} {Ls : List (List Int)} {i : Nat} {a1 a2 : Option Addr} {n1 k1 n2 k2 : Nat} {W W' : World} (h : PiI W3 s Ls i a1 n1 k1 a2 n2 k2 W) (hb : Below W.heap.size W W') : PiI W3 s Ls i a1 n1 k1 a2 n2 k2 W' :=
  ⟨h.bel.trans (hb.mono h.bel.size), row_keptB h.r1 hb, row_keptB h.r2 hb, h.e1, h.e2, h.ap⟩
theorem PiI.start (W3 : World) (s : Wf.Sp) (Ls : List (List Int)) : PiI W3 s Ls 0 none 0 0 none 0 0 W3 :=
  ⟨Below.refl _ _, World.ownsRow_nil _ _ _ _, World.ownsRow_nil _ _ _ _, by simp, by simp, Or.inl rfl⟩
/-- A row that was made later than another one there was lies elsewhere. -/
theorem own_later {W : World} {B' k k' n n' D : Nat} {E E' : TypeId} {v v' : Value} {xs xs' : List Value} {W' : World} (h : W'.ownsRow D E k v n xs) (h' : W.ownsRow B' E' k' v' n' xs') (hD : W.heap.size ≤ D) : v.ownBlock = none ∨ v.ownBlock ≠ v'.ownBlock := by
  rcases h.2 with ⟨rfl, _⟩ | ⟨g, cap, cur, rfl, hb, hg, _⟩
  · exact Or.inl rfl
  · rcases h'.2 with ⟨rfl, _⟩ | ⟨g', cap', cur', rfl, _, hg', _⟩
    · exact Or.inr (by simp [Value.ownBlock])
    · refine Or.inr (fun e => ?_)
      simp only [Value.ownBlock, Option.some.injEq] at e
      subst e
      have := (Array.getElem?_eq_some_iff.1 hg').1
      omega
end Go.Proofs.YtdpmjaelbjjanaaGreat

namespace Go.Proofs.YtdpmjaelbjjanaaGreat
open Go.RowKit Go.Maps
set_option linter.unusedVariables false
set_option linter.unusedSimpArgs false

/-- A case as it is handed in. -/
structure CsR where
  au : Option Addr
  nu : Nat
  cu : Nat
  U : List Int
  ac : Option Addr
  nc : Nat
  cc : Nat
  C : List (Int × Int × Int)
  aj : Option Addr
  nj : Nat
  cj : Nat
  J : List (Int × Int)
  ax : Option Addr
  nx : Nat
  cx : Nat
  X : List (Int × ByteArray)
abbrev CsR.cells (c : CsR) : Array Value := #[.slice c.au c.nu c.cu, .slice c.ac c.nc c.cc, .slice c.aj c.nj c.cj, .slice c.ax c.nx c.cx]
structure CsAt (c : CsR) (w : World) : Prop where
  hU : ReadsH w c.au c.nu c.U
  hC : Wf.Bq.RdC w c.ac c.nc c.C
  q2 : c.nc ≤ c.cc
  hJ : Wf.Bq.RdJ w c.aj c.nj c.J
  q3 : c.nj ≤ c.cj
  hX : Mk.RdS w c.ax c.nx c.X
  hn : c.nx ≤ 9223372036854775807
theorem CsAt.kept {c : CsR} {w w' : World} (h : CsAt c w) (hb : Below w.heap.size w w') : CsAt c w' := ⟨h.hU.kept hb, h.hC.kept hb, h.q2, h.hJ.kept hb, h.q3, h.hX.kept hb, h.hn⟩
/-- It is no greater than is asked. -/
structure CsF (c : CsR) : Prop where
  fu : c.nu ≤ 60
  fc : c.nc ≤ 20
  fj : c.nj ≤ 20
  fx : c.nx ≤ 40
def CgP (c : CsR) (e : Ending) : Prop := e = .returned (.int .i64 1) ∨ (e = .returned (.int .i64 0) ∧ CsF c)

set_option maxRecDepth 20000 in
set_option maxHeartbeats 4000000 in
theorem cgreat_any (c : CsR) (w : World) (h : CsAt c w) : Calls Tryz.prog 9 #[.agg c.cells] w fun e w' => CgP c e ∧ Below w.heap.size w w' := by
  have hlo := Wf.low_alloc w (.cells c.cells 27)
  have HB0 := hide hlo
  have hbx := heap_alloc_new w (.cells c.cells 27)
  have HX := hide h.hX.1
  have HG := hide (rgreat10_any c.au c.nu c.cu c.ac c.nc c.cc c.aj c.nj c.cj c.ax c.nx c.cx c.X _ (h.hX.kept hlo) h.hn)
  clear h hlo
  obtain ⟨au, nu, cu, U, ac, nc, cc, C, aj, nj, cj, J, ax, nx, cx, X⟩ := c
  simp only [CsR.cells] at *
  have y0 := Lib.cell_of_heap hbx 0
  have y1 := Lib.cell_of_heap hbx 1
  have y2 := Lib.cell_of_heap hbx 2
  have y3 := Lib.cell_of_heap hbx 3
  clear hbx
  go_enter Tryz.func9, Tryz.ntmps9
  go_wp2_with fail
  refine (unhide HG).mono ?_
  rintro e w1 ⟨⟨b, rfl, hb⟩, hb1⟩
  have HB1 := hide (below_step HB0.out hb1)
  clear hb1 HG y0 y1 y2 y3
  cases b with
  | true =>
    clear hb
    go_wp2
    (try simp only [Exit.inBlock, Exit.then])
    refine bodyPost_ret (v := .int .i64 1) (by simp [results, Tryz.results9, go_sem]) rfl ?_
    exact ⟨Or.inl rfl, HB1.out⟩
  | false =>
    obtain ⟨m1, m2, m3, m4⟩ := hb rfl
    have hf : CsF ⟨au, nu, cu, U, ac, nc, cc, C, aj, nj, cj, J, ax, nx, cx, X⟩ := ⟨m1, m2, m3, by have h4 := m4.1; have h5 := HX.out; dsimp only at h4 h5 ⊢; omega⟩
    have HF := hide hf
    clear hb m1 m2 m3 m4 hf
    go_wp2
    (try simp only [Exit.inBlock, Exit.then])
    refine bodyPost_ret (v := .int .i64 0) (by simp [results, Tryz.results9, go_sem]) rfl ?_
    exact ⟨Or.inr ⟨rfl, HF.out⟩, HB1.out⟩

/-- The document's vocabulary as it is read. -/
structure DvP (s : Wf.Sp) (vb vm : Value) (a4 : Option Addr) (n4 : Nat) (a5 : Option Addr) (n5 : Nat) (a3 : Option Addr) (n3 : Nat) (W : World) : Prop where
  rt : RT vb vm (txT s) (mgT s) W
  rc : Wf.Bq.RdC W a4 n4 s.classes
  rj : Wf.Bq.RdJ W a5 n5 s.joins
  rd : Mk.RdS W a3 n3 s.specials
  l4 : n4 ≤ 1000
  l5 : n5 ≤ 1000
  l3 : n3 ≤ 1000
theorem DvP.kept {s : Wf.Sp} {vb vm : Value} {a4 : Option Addr} {n4 : Nat} {a5 : Option Addr} {n5 : Nat} {a3 : Option Addr} {n3 : Nat} {W W' : World} (h : DvP s vb vm a4 n4 a5 n5 a3 n3 W) (hb : Below W.heap.size W W') : DvP s vb vm a4 n4 a5 n5 a3 n3 W' :=
  ⟨h.rt.kept hb, h.rc.kept hb, h.rj.kept hb, h.rd.kept hb, h.l4, h.l5, h.l3⟩
theorem smg_okb {s : Wf.Sp} {mg : List (Int × Int)} {ci ji si : Nat} (h : SmG mg ci ji si s) : okB s := ⟨h.cs, h.js⟩
theorem isV_rz {r : Nat} {W : World} (h : W.heap[r]? = some (.cells rz5 38 (0, 0))) : IsV r W := by
  refine ⟨_, _, h, ⟨by decide, by decide, by decide, by decide, by decide, by decide⟩, fun j v hj => ?_, by simp⟩
  have hm := Array.mem_of_getElem? hj
  simp only [List.mem_toArray, List.mem_cons, List.not_mem_nil, or_false] at hm
  rcases hm with rfl | rfl | rfl | rfl | rfl <;> exact ⟨fun _ e => (by cases e), fun _ e => (by cases e)⟩
/-- What comes of Of. -/
def OcP (w : World) (e : Ending) (w' : World) : Prop :=
  (∃ (s : Wf.Sp) (q : Nat) (z : VV) (B : Nat) (vb vm : Value) (a4 : Option Addr) (n4 c4 : Nat) (a5 : Option Addr) (n5 c5 : Nat) (a3 : Option Addr) (n3 c3 : Nat), e = .returned (.tuple #[.pointer (some ⟨q, 0, none⟩), .agg #[vb, vm, .slice a4 n4 c4, .slice a5 n5 c5, .slice a3 n3 c3]]) ∧
    VOk s ∧ okB s ∧ s.specials.length ≤ 1000 ∧ w.heap.size ≤ q ∧ Ve B q z s 0 w' ∧ DvP s vb vm a4 n4 a5 n5 a3 n3 w') ∧ Below w.heap.size w w'

set_option maxRecDepth 20000 in
set_option maxHeartbeats 8000000 in
theorem cof_any (c : CsR) (w : World) (h : CsAt c w) (hf : CsF c) : Calls Tryz.prog 11 #[.agg c.cells] w (OcP w) := by
  have hlo := Wf.low_alloc w (.cells c.cells 27)
  have hlo2 := Wf.low_alloc (w.alloc (.cells c.cells 27)) (.cells rz5 38)
  have hB0 := below_step hlo hlo2
  have HB0 := hide hB0
  have hbx := heap_alloc_new w (.cells c.cells 27)
  have hres := heap_alloc_new (w.alloc (.cells c.cells 27)) (.cells rz5 38)
  rw [World.size_alloc] at hres
  have HRS := hide hres
  have h1 := h.kept hB0
  have HSM := hide (rsome_any c.au c.nu c.cu c.U c.ac c.nc c.cc c.C c.aj c.nj c.cj c.J c.ax c.nx c.cx c.X _ h1.hU h1.hC h1.hJ h1.hX (by have := hf.fu; omega) (by have := hf.fc; omega) (by have := hf.fj; omega) (by have := hf.fx; omega) h1.q2 h1.q3)
  clear h hlo hlo2 hf h1 hB0 hres
  obtain ⟨au, nu, cu, U, ac, nc, cc, C, aj, nj, cj, J, ax, nx, cx, X⟩ := c
  simp only [CsR.cells] at *
  have y0 := Lib.cell_of_heap hbx 0
  have y1 := Lib.cell_of_heap hbx 1
  have y2 := Lib.cell_of_heap hbx 2
  have y3 := Lib.cell_of_heap hbx 3
  clear hbx
  go_enter Tryz.func11, Tryz.ntmps11
  go_wp2_with fail
  refine (unhide HSM).mono ?_
  clear HSM y0 y1 y2 y3
  generalize (w.alloc (.cells #[.slice au nu cu, .slice ac nc cc, .slice aj nj cj, .slice ax nx cx] 27)).alloc (.cells rz5 38) = W0 at *
  rintro e w3 ⟨⟨ys, s, tx, mg, rfl, hR, hG, hrw⟩, hb3⟩
  have hB3 := below_step HB0.out hb3
  have HRS3 := hide ((hb3.block _ (Array.getElem?_eq_some_iff.1 HRS.out).1).trans HRS.out)
  have hlo := Wf.low_alloc w3 (.cells ys.cs 81)
  have HB4 := hide (below_step hB3 hlo)
  have HRS4 := hide ((hlo.block _ (Array.getElem?_eq_some_iff.1 HRS3.out).1).trans HRS3.out)
  have HRT := hide (smg_right hG hR)
  have HOK := hide (smg_ok hG hR)
  have HOB := hide (smg_okb hG)
  have HRW : Hid (Wf.SpRw w.heap.size ys s (w3.alloc (.cells ys.cs 81))) := hide ((hrw.low hlo).mono HB0.out.size)
  have HNW := hide (vnew_any ys s _ HRW.out.spec)
  have HNS := hide (at_le HRW.out.spec HRT.out)
  have hbx0 := Wf.BxS.new w3 ys 81
  have HBX := hide hbx0
  obtain ⟨y0, y1, y2, y3, y4, y5⟩ := hbx0
  have hqs : w3.heap.size < (w3.alloc (.cells ys.cs 81)).heap.size := by simp
  have HQS := hide hqs
  have HLS := hide HRW.out.spec.ss.1
  clear hb3 hB3 hlo hR hG hrw hqs HRS HRS3 HB0
  obtain ⟨r, a1, n1, c1, a2, n2, c2, a3, n3, c3, a4, n4, c4, a5, n5, c5⟩ := ys
  simp only at y0 y1 y2 y3 y4 y5 HLS
  go_wp2_with fail
  generalize w3.heap.size = qs at *
  generalize (w3.alloc (.cells (Wf.Sv.mk r a1 n1 c1 a2 n2 c2 a3 n3 c3 a4 n4 c4 a5 n5 c5).cs 81)) = W1 at *
  refine (unhide HNW).mono ?_
  rintro e W2 ⟨hP, hb⟩
  rcases hP with ⟨hr, _⟩ | ⟨_, ⟨q, z, _, rfl, hz⟩ | ⟨p, k, er, hbad, _⟩⟩
  · exact absurd ((Wf.rightB_iff s).2 HRT.out) (by rw [hr]; simp)
  rotate_left
  · exact (hbad.not HOK.out).elim
  have HZ := hide hz
  have HQ : Hid (w.heap.size ≤ q ∧ W1.heap.size ≤ q) := hide ⟨Nat.le_trans HB4.out.size hz.hq, hz.hq⟩
  have HRQ : Hid (w.heap.size + 1 < W1.heap.size) := hide (Array.getElem?_eq_some_iff.1 HRS4.out).1
  have HB5 := hide (below_step HB4.out hb)
  have HRS5 := hide ((hb.block _ (Array.getElem?_eq_some_iff.1 HRS4.out).1).trans HRS4.out)
  have HRW2 := hide (HRW.out.low hb)
  have HBX2 := hide (HBX.out.kept HQS.out hb)
  have HOF := hide (rof_any _ s W2 HRW2.out.spec HRT.out HOK.out)
  clear hz hb HNW y0 y1 y2 y3 y4 y5 HBX HRW HRS4 HQS
  obtain ⟨y0, y1, y2, y3, y4, y5⟩ := HBX2.out
  simp only at y0 y1 y2 y3 y4 y5
  go_wp2_with fail
  refine (unhide HOF).mono ?_
  rintro e W3 ⟨⟨vb, vm, rfl, hT⟩, hb⟩
  obtain ⟨e1, d1, rfl⟩ := row_form hT.rb
  obtain ⟨e2, d2, rfl⟩ := row_form hT.rm
  have HZ3 := hide (HZ.out.low hb)
  have HB6 := hide (below_step HB5.out hb)
  have HRS6 := hide ((hb.block _ (Array.getElem?_eq_some_iff.1 HRS5.out).1).trans HRS5.out)
  have HRW3 := hide (HRW2.out.low hb)
  have HT := hide hT
  clear hT hb HOF HBX2 HZ HB5 HRS5 HRW2 y0 y1 y2 y3 y4 y5
  generalize hN1 : (txT s).length = N1 at *
  generalize hN2 : (mgT s).length = N2 at *
  have HN := hide (And.intro hN1 hN2)
  clear hN1 hN2
  have x0 := Lib.frozen_of_heap HRS6.out 0
  have x1 := Lib.frozen_of_heap HRS6.out 1
  have x2 := Lib.frozen_of_heap HRS6.out 2
  have x3 := Lib.frozen_of_heap HRS6.out 3
  have x4 := Lib.frozen_of_heap HRS6.out 4
  have z0 := Lib.cell_of_heap HRS6.out 0
  have z1 := Lib.cell_of_heap HRS6.out 1
  have z2 := Lib.cell_of_heap HRS6.out 2
  have z3 := Lib.cell_of_heap HRS6.out 3
  have z4 := Lib.cell_of_heap HRS6.out 4
  go_wp2
  have HF : Hid (FrL [w.heap.size + 1] W3 (((((W3.setCell ⟨w.heap.size + 1, 0, none⟩ (.slice e1 N1 d1)).setCell ⟨w.heap.size + 1, 1, none⟩ (.slice e2 N2 d2)).setCell ⟨w.heap.size + 1, 2, none⟩ (.slice a4 n4 c4)).setCell ⟨w.heap.size + 1, 3, none⟩ (.slice a5 n5 c5)).setCell ⟨w.heap.size + 1, 4, none⟩ (.slice a3 n3 c3))) := hide ((((((FrL.refl [w.heap.size + 1] W3).set (b := w.heap.size + 1) (o := 0) (by simp) (.slice e1 N1 d1)).set (b := w.heap.size + 1) (o := 1) (by simp) (.slice e2 N2 d2)).set (b := w.heap.size + 1) (o := 2) (by simp) (.slice a4 n4 c4)).set (b := w.heap.size + 1) (o := 3) (by simp) (.slice a5 n5 c5)).set (b := w.heap.size + 1) (o := 4) (by simp) (.slice a3 n3 c3))
  have HZZ : Hid ((((((W3.setCell ⟨w.heap.size + 1, 0, none⟩ (.slice e1 N1 d1)).setCell ⟨w.heap.size + 1, 1, none⟩ (.slice e2 N2 d2)).setCell ⟨w.heap.size + 1, 2, none⟩ (.slice a4 n4 c4)).setCell ⟨w.heap.size + 1, 3, none⟩ (.slice a5 n5 c5)).setCell ⟨w.heap.size + 1, 4, none⟩ (.slice a3 n3 c3)).heap[w.heap.size + 1]? = some (.cells #[.slice e1 N1 d1, .slice e2 N2 d2, .slice a4 n4 c4, .slice a5 n5 c5, .slice a3 n3 c3] 38 (0, 0))) := hide (by simpa using (Wf.set_block (Wf.set_block (Wf.set_block (Wf.set_block (Wf.set_block HRS6.out 0 (.slice e1 N1 d1)) 1 (.slice e2 N2 d2)) 2 (.slice a4 n4 c4)) 3 (.slice a5 n5 c5)) 4 (.slice a3 n3 c3)))
  generalize (((((W3.setCell ⟨w.heap.size + 1, 0, none⟩ (.slice e1 N1 d1)).setCell ⟨w.heap.size + 1, 1, none⟩ (.slice e2 N2 d2)).setCell ⟨w.heap.size + 1, 2, none⟩ (.slice a4 n4 c4)).setCell ⟨w.heap.size + 1, 3, none⟩ (.slice a5 n5 c5)).setCell ⟨w.heap.size + 1, 4, none⟩ (.slice a3 n3 c3)) = W4 at *
  have g0 := Lib.cell_of_heap HZZ.out 0
  have g1 := Lib.cell_of_heap HZZ.out 1
  have g2 := Lib.cell_of_heap HZZ.out 2
  have g3 := Lib.cell_of_heap HZZ.out 3
  have g4 := Lib.cell_of_heap HZZ.out 4
  have hV : IsV (w.heap.size + 1) W3 := isV_rz HRS6.out
  have hq1 := HQ.out
  have hq2 := HRQ.out
  obtain ⟨z', hz'⟩ := (HZ3.out.base HB4.out).other hV (by omega) (by omega) HF.out
  have hrw := rows_q HRW3.out hV HF.out
  have hns := HNS.out
  (try simp only [Exit.inBlock, Exit.then])
  refine bodyPost_ret (v := .tuple #[.pointer (some ⟨q, 0, none⟩), .agg #[.slice e1 N1 d1, .slice e2 N2 d2, .slice a4 n4 c4, .slice a5 n5 c5, .slice a3 n3 c3]]) (by simp [results, Tryz.results11, go_sem, g0, g1, g2, g3, g4]) rfl ?_
  refine ⟨⟨s, q, z', _, _, _, a4, n4, c4, a5, n5, c5, a3, n3, c3, rfl, HOK.out, HOB.out, by rw [HLS.out]; exact hns.n3, hq1.1, hz'.ve, HT.out.q HRS6.out (by decide) (by decide) HF.out, bd_at hrw.spec.cs, bj_at hrw.spec.js, mk_at hrw.spec.ss, hns.n4, hns.n5, hns.n3⟩, ?_⟩
  exact HB6.out.trans (HF.out.below HB6.out.size (fun k hk => by simp at hk; omega))
end Go.Proofs.YtdpmjaelbjjanaaGreat

namespace Go.Proofs.YtdpmjaelbjjanaaGreat
open Go.RowKit Go.Maps
set_option linter.unusedVariables false
set_option linter.unusedSimpArgs false

def e12 : Wf.Sp := ⟨false, [(97, 98)], [], [(300, ⟨#[60]⟩)], [], []⟩
def t12 : ByteArray := ⟨#[97, 98, 60, 97]⟩
theorem e12_len : (txT e12).length = 257 := by decide +kernel
theorem e12_right : e12.Right := (Wf.rightB_iff e12).1 (by decide)
theorem e12_ok : VOk e12 := by
  refine ⟨fun j hj => ?_, ?_, fun j hj => ?_⟩
  · obtain rfl : j = 0 := by
      have : nT e12 = 1 := rfl
      omega
    decide +kernel
  · refine ⟨fun i hi => ?_, Or.inl ⟨rfl, rfl⟩⟩
    obtain rfl : i = 0 := by
      have : e12.specials.length = 1 := rfl
      omega
    exact ⟨⟨by decide, by decide, by decide, by decide⟩, by decide, fun j hj => by omega⟩
  · obtain rfl : j = 0 := by
      have : e12.specials.length = 1 := rfl
      omega
    rw [e12_len]
    decide
theorem e12_b : okB e12 := ⟨fun c h => (by simp [e12] at h), fun j h => (by simp [e12] at h)⟩
theorem e12_text : enS e12 (Mk.parsM (Mk.tL e12.specials) t12.data.toList) = [256, 300, 97] := by decide +kernel
theorem e12_plain : enS e12 (Mk.bys t12) = [256, 60, 97] := by decide +kernel
theorem rdM_new (w : World) (a b : Int) : Wf.RdM (w.alloc (.cells #[.int .i64 a, .int .i64 b] 77)) (some ⟨w.heap.size, 0, none⟩) 1 [(a, b)] := by
  refine ⟨rfl, Or.inr ⟨_, _, rfl, by simp, fun i hi => ?_⟩⟩
  obtain rfl : i = 0 := by omega
  constructor <;> simp [Wf.gM]
theorem e12_at (w : World) : Wf.SpAt ((w.alloc (.cells #[.int .i64 97, .int .i64 98] 77)).alloc (.cells #[.int .i64 300, .string ⟨#[60]⟩] 79)) ⟨false, some ⟨w.heap.size, 0, none⟩, 1, 1, none, 0, 0, some ⟨w.heap.size + 1, 0, none⟩, 1, 1, none, 0, 0, none, 0, 0⟩ e12 := by
  have h1 := (rdM_new w 97 98).kept (Wf.low_alloc (w.alloc (.cells #[.int .i64 97, .int .i64 98] 77)) (.cells #[.int .i64 300, .string ⟨#[60]⟩] 79))
  have h2 := rdS_at (w.alloc (.cells #[.int .i64 97, .int .i64 98] 77)) 300 ⟨#[60]⟩ (w.heap.size + 1) (by simp)
  exact ⟨rfl, h1, ⟨rfl, Or.inl rfl⟩, h2, ⟨rfl, Or.inl rfl⟩, ⟨rfl, Or.inl rfl⟩⟩
theorem row3 (w : World) (a b c : Int) : (w.alloc (.cells #[.int .i64 a, .int .i64 b, .int .i64 c] 3)).ownsRow w.heap.size 3 1 (.slice (some ⟨w.heap.size, 0, none⟩) 3 3) 3 (Mk.iv [a, b, c]) :=
  ⟨rfl, .inr ⟨w.heap.size, 3, _, rfl, Nat.le_refl _, heap_alloc_new w _, Nat.le_refl _, by unfold maxLen; omega, rfl, rfl⟩⟩
/-- A text that is not too long. -/
theorem etp_short {B : Nat} {s : Wf.Sp} {n : Nat} {I A : List Int} {e : Ending} {w' : World} (h : EtP B s n I e w') (hn : n ≤ 4000) (hA : enS s I = A) : ∃ ao cap, e = .returned (.tuple #[.slice ao A.length cap, .int .i64 0]) ∧ EnR B (.slice ao A.length cap) A w' := by
  rcases h with ⟨h1, _⟩ | ⟨_, ao, cap, h1, h2⟩
  · omega
  · rw [hA] at h1 h2
    exact ⟨ao, cap, h1, h2⟩

set_option maxRecDepth 20000 in
set_option maxHeartbeats 4000000 in
theorem awake12_any (w : World) : Calls Tryz.prog 10 #[] w fun e w' => e = .returned (.bool true) ∧ Below w.heap.size w w' := by
  have hl1 := Wf.low_alloc w (.cells #[.int .i64 97, .int .i64 98] 77)
  have hl2 := Wf.low_alloc (w.alloc (.cells #[.int .i64 97, .int .i64 98] 77)) (.cells #[.int .i64 300, .string ⟨#[60]⟩] 79)
  have HB0 := hide (below_step hl1 hl2)
  have HN := hide (vnew_any _ _ _ (e12_at w))
  clear hl1 hl2
  go_enter Tryz.func10, Tryz.ntmps10
  go_wp2_with fail
  refine (unhide HN).mono ?_
  clear HN
  generalize (w.alloc (.cells #[.int .i64 97, .int .i64 98] 77)).alloc (.cells #[.int .i64 300, .string ⟨#[60]⟩] 79) = w1 at *
  rintro e w2 ⟨hP, hb⟩
  rcases hP with ⟨hr, _⟩ | ⟨_, ⟨q, z, _, rfl, hz⟩ | ⟨p, k, er, hbad, _⟩⟩
  · exact absurd ((Wf.rightB_iff e12).2 e12_right) (by rw [hr]; simp)
  rotate_left
  · exact (hbad.not e12_ok).elim
  have HB2 := hide (below_step HB0.out hb)
  have KT := hide (etext_any hz.ve e12_b e12_ok (by decide) t12 (by decide))
  have KP := hide (fun (W : World) (hb : Below w2.heap.size w2 W) => eplain_any (hz.ve.low hb) e12_b e12_ok (by decide) t12 (by decide))
  clear hb hz HB0
  go_wp2_with fail
  refine (unhide KT).mono ?_
  rintro e w3 ⟨hP, hb⟩
  obtain ⟨a1, c1, rfl, hr1⟩ := etp_short hP (by decide) e12_text
  have HR1 := hide hr1
  have HB3 := hide (below_step HB2.out hb)
  have K2 := hide (KP.out w3 hb)
  clear hP hr1 hb KT KP
  go_wp2_with fail
  refine (unhide K2).mono ?_
  rintro e w4 ⟨hP, hb⟩
  obtain ⟨a2, c2, rfl, hr2⟩ := etp_short hP (by decide) e12_plain
  have HR2 := hide hr2
  have HR1' := hide (row_keptB HR1.out hb)
  have HB4 := hide (below_step HB3.out hb)
  have hl1 := Mk.low1 w4 (.cells #[.int .i64 256, .int .i64 300, .int .i64 97] 3)
  have HB5 := hide (below_step HB4.out hl1)
  have KI := hide (Mk.ints_same _ _ _ _ _ [256, 300, 97] (row_keptB HR1'.out hl1) (row3 w4 256 300 97) (by decide))
  have HR2' := hide (row_keptB HR2.out hl1)
  clear hP hr2 hb K2 HR1 HR1' HR2 hl1
  simp only [List.length_cons, List.length_nil, Nat.zero_add, Nat.reduceAdd] at *
  go_wp2_with fail
  refine (unhide KI).mono ?_
  rintro e w5 ⟨rfl, hb⟩
  generalize w4.alloc (.cells #[.int .i64 256, .int .i64 300, .int .i64 97] 3) = w6 at *
  have hl1 := Mk.low1 w5 (.cells #[.int .i64 256, .int .i64 60, .int .i64 97] 3)
  have HB6 := hide (below_step (below_step HB5.out hb) hl1)
  have KI2 := hide (Mk.ints_same _ _ _ _ _ [256, 60, 97] (row_keptB (row_keptB HR2'.out hb) hl1) (row3 w5 256 60 97) (by decide))
  clear hb KI hl1 HR2' HB5
  simp only [List.length_cons, List.length_nil, Nat.zero_add, Nat.reduceAdd] at *
  go_wp2_with fail
  refine (unhide KI2).mono ?_
  rintro e w7 ⟨rfl, hb⟩
  have HB7 := hide (below_step HB6.out hb)
  clear hb KI2
  go_wp2
  go_ret
  exact ⟨rfl, HB7.out⟩
end Go.Proofs.YtdpmjaelbjjanaaGreat
