/- What is gathered below a node: a map is gone through, in whatever order. -/
import Derived.Test.YtadbffphmmkljaaTrE
import Derived.Lib.OwnKind
import Derived.OneCell
import Derived.Laws.IdiomRangeMap
import Derived.LoopN
import Derived.Deep.RegionLaw
import Derived.Lib.SmallJoins
namespace Go.Proofs.Ytadbffphmmkljaa
open Go.RowKit Go.Maps
set_option linter.unusedVariables false
set_option linter.unusedSimpArgs false

theorem set_blk {W : World} {p : Nat} {cs : Array Value} {T : TypeId} {fr : Nat × Nat} (h : W.heap[p]? = some (.cells cs T fr)) (j : Nat) (v : Value) : (W.setCell ⟨p, j, none⟩ v).heap[p]? = some (.cells (cs.setIfInBounds j v) T fr) := by
  simp [World.setCell, Array.getElem?_modify, h]
theorem step_append_run' {P : Program} {w : World} {ops : Array Oper} {o : Oper} {a : Act} {K : Act → World → Prop} {Q : Exit → Act → World → Prop} {E : Prop} (hgd : o.guard = none) (s x : Operand) (t tn : TypeId)
    (ho : o.op = .call { callee := .builtin .append, args := #[s, x], argTypes := #[t, tn] }) (vs vx : Value) (hs : a.eval s = vs) (hx : a.eval x = vx)
    (v' : Value) (w' : World) (hr : (Builtin.append_ #[t, tn] o.type #[vs, vx]).run P w = .ok v' w') (h : K (a.put o.dst v') w') :
    if Region.wanted o (yielded ops a.tmps) = true then Oper.wp P o a w K Q else E := by
  have hw : Region.wanted o (yielded ops a.tmps) = true := by simp [Region.wanted, hgd]
  rw [if_pos hw]
  exact Lib.wp_append_run w s x t tn ho vs vx hs hx v' w' hr h
/-- The function that gathers. -/
abbrev gaV (qi qg : Nat) : Value := .func (.func 33) #[] #[.pointer (some ⟨qi, 0, none⟩), .pointer (some ⟨qg, 0, none⟩)]
/-- Blocks that are no cells are as they were. -/
structure NC (W W' : World) : Prop where
  size : W.heap.size ≤ W'.heap.size
  nc : ∀ k, k < W.heap.size → (∀ cs T f, W.heap[k]? ≠ some (.cells cs T f)) → W'.heap[k]? = W.heap[k]?
theorem NC.refl (W : World) : NC W W := ⟨Nat.le_refl _, fun _ _ _ => rfl⟩
theorem NC.trans {W W1 W2 : World} (h : NC W W1) (k : NC W1 W2) : NC W W2 :=
  ⟨Nat.le_trans h.size k.size, fun i hi hc => (k.nc i (Nat.lt_of_lt_of_le hi h.size) (fun cs T f e => hc cs T f (by rw [← h.nc i hi hc]; exact e))).trans (h.nc i hi hc)⟩
theorem NC.below {W W' : World} (h : Below W.heap.size W W') : NC W W' := ⟨h.size, fun k hk _ => h.block k hk⟩
/-- What is gathered so far: the numbers L in the variable at qi; the function itself in the one at qg. -/
structure GaM (w : World) (qi qg : Nat) (L : List Nat) (ao : Option Addr) (n cap : Nat) (W : World) : Prop where
  bel : Below w.heap.size w W
  hi : w.heap.size ≤ qi
  hg : w.heap.size ≤ qg
  ci : W.heap[qi]? = some (.cells #[.slice ao n cap] 35 (0, 0))
  cg : W.heap[qg]? = some (.cells #[gaV qi qg] 75 (0, 0))
  row : W.ownsRow w.heap.size 3 1 (.slice ao n cap) n (nv L)
  len : n = L.length
section
variable {w W W' : World} {qi qg : Nat} {L : List Nat} {ao : Option Addr} {n cap : Nat}
theorem GaM.ne (h : GaM w qi qg L ao n cap W) : (Value.slice ao n cap).ownBlock ≠ some qi ∧ (Value.slice ao n cap).ownBlock ≠ some qg ∧ qi ≠ qg := by
  refine ⟨fun e => ?_, fun e => ?_, fun e => ?_⟩
  · obtain ⟨c, f, h1⟩ := Lib.ownsRow_kind h.row qi e
    rw [h.ci] at h1
    simp only [Option.some.injEq, Obj.cells.injEq] at h1
    exact absurd h1.2.1 (by decide)
  · obtain ⟨c, f, h1⟩ := Lib.ownsRow_kind h.row qg e
    rw [h.cg] at h1
    simp only [Option.some.injEq, Obj.cells.injEq] at h1
    exact absurd h1.2.1 (by decide)
  · subst e
    have h1 := h.ci
    rw [h.cg] at h1
    simp only [Option.some.injEq, Obj.cells.injEq] at h1
    exact absurd h1.2.1 (by decide)
theorem GaM.keepC (h : GaM w qi qg L ao n cap W) (hb : Below w.heap.size w W') (hk : ∀ (k : Nat) (cs : Array Value) (T : TypeId) (f : Nat × Nat), W.heap[k]? = some (Obj.cells cs T f) → W'.heap[k]? = W.heap[k]?) : GaM w qi qg L ao n cap W' := by
  refine ⟨hb, h.hi, h.hg, by rw [hk _ _ _ _ h.ci]; exact h.ci, by rw [hk _ _ _ _ h.cg]; exact h.cg, ⟨h.row.1, ?_⟩, h.len⟩
  rcases h.row.2 with hn | ⟨g, c, cur, hv, hbg, hgg, rest⟩
  · exact Or.inl hn
  · exact Or.inr ⟨g, c, cur, hv, hbg, by rw [hk _ _ _ _ hgg]; exact hgg, rest⟩
theorem GaM.next (h : GaM w qi qg L ao n cap W) (hb : Below W.heap.size W W') : GaM w qi qg L ao n cap W' :=
  h.keepC (h.bel.trans (hb.mono h.bel.size)) (fun k cs T f e => hb.block k (Array.getElem?_eq_some_iff.1 e).1)
/-- One number more. -/
theorem GaM.put (h : GaM w qi qg L ao n cap W) (hn : n ≤ 1000000) (id : Nat) : ∃ g cap1 w1, (Builtin.append_ #[35, 35] 35 #[.slice ao n cap, .slice (some ⟨W.heap.size, 0, none⟩) 1 1]).run Try.prog (W.alloc (.cells #[.int .i64 (id : Int)] 3)) = .ok (.slice (some ⟨g, 0, none⟩) (n + 1) cap1) w1 ∧
    w1.cell? ⟨qi, 0, none⟩ = some (.slice ao n cap) ∧ w1.frozen? ⟨qi, 0, none⟩ = false ∧
    GaM w qi qg (L ++ [id]) (some ⟨g, 0, none⟩) (n + 1) cap1 (w1.setCell ⟨qi, 0, none⟩ (.slice (some ⟨g, 0, none⟩) (n + 1) cap1)) ∧ NC W (w1.setCell ⟨qi, 0, none⟩ (.slice (some ⟨g, 0, none⟩) (n + 1) cap1)) ∧ Below w.heap.size w w1 := by
  obtain ⟨i0, hi, hz0, hz1, hz2⟩ := info_parts Mk.info_int
  obtain ⟨g, cap1, w1, hrun, hown, hgrow, _, _⟩ := run_append_lies (P := Try.prog) (W.alloc (.cells #[.int .i64 (id : Int)] 3)) 35 35 w.heap.size 3 i0 _ 1 8 Try.underlying35 hi hz0 hz1 hz2 rfl (by omega) (.slice ao n cap) n (nv L) (h.row.alloc _) ⟨W.heap.size, 0, none⟩ 1 1 [.int .i64 (id : Int)] rfl (World.news_of_block (heap_alloc_new W _)) (by simp [Value.oneCell']) (by omega) (by unfold maxLen; omega) (by omega) (by have := h.bel.size; simp; omega) (W.heap.size + 1) (by simp)
  obtain ⟨n1, n2, n3⟩ := h.ne
  have hil : qi < W.heap.size := (Array.getElem?_eq_some_iff.1 h.ci).1
  have hgl : qg < W.heap.size := (Array.getElem?_eq_some_iff.1 h.cg).1
  have hz : (W.alloc (.cells #[.int .i64 (id : Int)] 3)).heap.size = W.heap.size + 1 := by simp
  have hs1 := hgrow.size
  have hold : ∀ k, k < W.heap.size → (Value.slice ao n cap).ownBlock ≠ some k → w1.heap[k]? = W.heap[k]? := fun k hk hne => (hgrow.block k (by omega) (fun e => hne e.symm)).trans ((Mk.low1 W _).block k hk)
  have ei := hold qi hil n1
  have ci1 : w1.heap[qi]? = some (.cells #[.slice ao n cap] 35 (0, 0)) := by rw [ei]; exact h.ci
  have hgi : g ≠ qi := by
    rintro rfl
    obtain ⟨c, f, h1⟩ := Lib.ownsRow_kind hown g rfl
    rw [ci1] at h1
    simp only [Option.some.injEq, Obj.cells.injEq] at h1
    exact absurd h1.2.1 (by decide)
  have hsi : (w1.setCell ⟨qi, 0, none⟩ (.slice (some ⟨g, 0, none⟩) (n + 1) cap1)).heap[qi]? = some (.cells #[.slice (some ⟨g, 0, none⟩) (n + 1) cap1] 35 (0, 0)) := by
    have := set_blk ci1 0 (.slice (some ⟨g, 0, none⟩) (n + 1) cap1)
    simpa using this
  have hrow := ownsRow_setCell_other (a := ⟨qi, 0, none⟩) hown (fun e => hgi (by simpa [Value.ownBlock] using e)) (.slice (some ⟨g, 0, none⟩) (n + 1) cap1)
  have hbel1 : Below w.heap.size w w1 := h.bel.trans ⟨hgrow.os, hgrow.tape, hgrow.output, by omega, fun k hk => hold k (Nat.lt_of_lt_of_le hk h.bel.size) (fun e => by have := (h.row.lt k e).1; omega)⟩
  have hbel : Below w.heap.size w (w1.setCell ⟨qi, 0, none⟩ (.slice (some ⟨g, 0, none⟩) (n + 1) cap1)) := by
    have hq := h.hi
    refine h.bel.trans ⟨hgrow.os, hgrow.tape, hgrow.output, by simp; omega, fun k hk => ?_⟩
    have hkW : k < W.heap.size := Nat.lt_of_lt_of_le hk h.bel.size
    rw [set_other _ qi 0 _ (by omega)]
    exact hold k hkW (fun e => by have := (h.row.lt k e).1; omega)
  refine ⟨g, cap1, w1, hrun, Lib.cell_of_heap ci1 0, Lib.frozen_of_heap ci1 0, ⟨hbel, h.hi, h.hg, hsi, ?_, ?_, by rw [List.length_append, h.len]; rfl⟩, ⟨by simp; omega, fun k hk hc => ?_⟩, hbel1⟩
  · rw [set_other _ qi 0 _ (fun e => n3 e.symm), hold qg hgl n2]
    exact h.cg
  · have e : nv (L ++ [id]) = nv L ++ [.int .i64 (id : Int)] := by simp [nv, Mk.iv]
    rw [e]
    exact hrow
  · rw [set_other _ qi 0 _ (fun e => hc _ _ _ (by rw [e]; exact h.ci))]
    refine hold k hk (fun e => ?_)
    obtain ⟨c, f, h1⟩ := Lib.ownsRow_kind h.row k e
    exact hc _ _ _ h1
end
theorem ranges_keep {P : Program} {k : TypeId} {R : Value → Option (DataW Unit × List MemPlace)} {w w' : World} {b r n : Nat} {D : DataW Unit} {left : Lit → Bool} {cnt : Nat} (h : w.ranges P k R b r n D left cnt) (hb : w'.heap[b]? = w.heap[b]?) (hr : w'.heap[r]? = w.heap[r]?) : w'.ranges P k R b r n D left cnt := by
  obtain ⟨es, clock, since, seen, c0, h1, F, hs, hD, h2, rest⟩ := h
  exact ⟨es, clock, since, seen, c0, hb.trans h1, F, hs, hD, hr.trans h2, rest⟩
theorem ranges_kinds {P : Program} {k : TypeId} {R : Value → Option (DataW Unit × List MemPlace)} {w : World} {b r n : Nat} {D : DataW Unit} {left : Lit → Bool} {cnt : Nat} (h : w.ranges P k R b r n D left cnt) : (∀ cs T f, w.heap[b]? ≠ some (.cells cs T f)) ∧ ∀ cs T f, w.heap[r]? ≠ some (.cells cs T f) := by
  obtain ⟨es, clock, since, seen, c0, h1, F, hs, hD, h2, rest⟩ := h
  refine ⟨fun cs T f e => ?_, fun cs T f e => ?_⟩
  · rw [h1] at e; cases e
  · rw [h2] at e; cases e
theorem kB_same (c d : UInt8) : (kB c).sameKey (kB d) = decide (c = d) := by
  by_cases e : c = d
  · subst e
    rw [decide_eq_true rfl]
    exact WideAt.sameKey_self (keyB.key (kB_key c))
  · rw [decide_eq_false e]
    cases h : (kB c).sameKey (kB d) with
    | false => rfl
    | true => exact absurd (kB_inj (WideAt.sameKey_eq h)) e
/-- What comes of gathering below t. -/
def GaP (w : World) (S : List (List UInt8)) (qi qg : Nat) (t : List UInt8) (L : List Nat) (W : World) (e : Ending) (w' : World) : Prop :=
  e = .returned (.tuple #[]) ∧ ∃ P ao n cap, Bel S t (fun _ => True) P ∧ GaM w qi qg (L ++ P) ao n cap w' ∧ NC W w'
/-- Where the loop stands: the bytes of C are gone through. -/
structure GaI (w : World) (S : List (List UInt8)) (qi qg : Nat) (t : List UInt8) (L : List Nat) (W0 : World) (mb r0 nn : Nat) (D : DataW Unit) (left : Lit → Bool) (cnt : Nat) (C : UInt8 → Prop) (P : List Nat) (ao : Option Addr) (n cap : Nat) (W : World) : Prop where
  rg : W.ranges Try.prog 5 rP mb r0 nn D left cnt
  lf : ∀ c, left (kB c) = true ↔ (Maps.has D (kB c) = true ∧ ¬ C c)
  bl : Bel S t C P
  ga : GaM w qi qg (L ++ P) ao n cap W
  nc : NC W0 W
  lt : r0 < W.heap.size
section
variable {w : World} {S : List (List UInt8)} {qi qg : Nat} {t : List UInt8} {L : List Nat} {W0 : World} {mb r0 nn : Nat} {D : DataW Unit} {left : Lit → Bool} {cnt cnt1 : Nat} {C : UInt8 → Prop} {P R : List Nat} {ao ao2 : Option Addr} {n cap n2 cap2 : Nat} {wr w1 w2 : World} {cx : UInt8}
/-- The next entry has come. -/
theorem GaI.mid (h : GaI w S qi qg t L W0 mb r0 nn D left cnt C P ao n cap wr) (h0 : w.heap.size ≤ r0) (h00 : W0.heap.size ≤ r0) (hg : wr.grownBy w1 (some r0)) : GaM w qi qg (L ++ P) ao n cap w1 ∧ NC W0 w1 := by
  have hk := ranges_kinds h.rg
  refine ⟨h.ga.keepC (h.ga.bel.trans ⟨hg.os, hg.tape, hg.output, hg.size, fun k hk => hg.block k (Nat.lt_of_lt_of_le hk h.ga.bel.size) (by simp; omega)⟩) (fun k cs T f e => hg.block k (Array.getElem?_eq_some_iff.1 e).1 (fun e2 => ?_)), ⟨Nat.le_trans h.nc.size hg.size, fun k hk2 hc => ?_⟩⟩
  · obtain rfl := Option.some.inj e2
    exact hk.2 _ _ _ e
  · exact (hg.block k (Nat.lt_of_lt_of_le hk2 h.nc.size) (by simp; omega)).trans (h.nc.nc k hk2 hc)
theorem GaI.step (h : GaI w S qi qg t L W0 mb r0 nn D left cnt C P ao n cap wr) (hN : S.Nodup) (h0 : w.heap.size ≤ r0) (h00 : W0.heap.size ≤ r0) (hg : wr.grownBy w1 (some r0)) (hrg : w1.ranges Try.prog 5 rP mb r0 nn D (fun z => left z && !z.sameKey (kB cx)) cnt1)
    (hG2 : GaM w qi qg (L ++ (P ++ (idT S (t ++ [cx])).toList ++ R)) ao2 n2 cap2 w2) (hNC : NC w1 w2) (hR : Bel S (t ++ [cx]) (fun _ => True) R) (hc : ¬ C cx) :
    GaI w S qi qg t L W0 mb r0 nn D (fun z => left z && !z.sameKey (kB cx)) cnt1 (fun d => C d ∨ d = cx) (P ++ (idT S (t ++ [cx])).toList ++ R) ao2 n2 cap2 w2 := by
  have hk := ranges_kinds hrg
  have hmb := hrg.owns.lt
  have hr0 := hrg.lt
  refine ⟨ranges_keep hrg (hNC.nc mb hmb hk.1) (hNC.nc r0 hr0 hk.2), fun d => ?_, bel_next hN h.bl hc hR, hG2, (h.mid h0 h00 hg).2.trans hNC, Nat.lt_of_lt_of_le hr0 hNC.size⟩
  simp only [Bool.and_eq_true, kB_same, Bool.not_eq_true', decide_eq_false_iff_not, h.lf d]
  constructor
  · rintro ⟨⟨h1, h2⟩, h3⟩
    exact ⟨h1, fun e => e.elim h2 h3⟩
  · rintro ⟨h1, h2⟩
    exact ⟨⟨h1, fun e => h2 (Or.inl e)⟩, fun e => h2 (Or.inr e)⟩
end

set_option maxRecDepth 20000 in
set_option maxHeartbeats 8000000 in
theorem gather_any {w : World} {B r Cn : Nat} {S : List (List UInt8)} {bk mp : List UInt8 → Option Nat} {qi qg : Nat} (h0 : TrR B r S Cn bk mp w) (hN : S.Nodup) (h64 : ∀ s ∈ S, s.length ≤ 64) (hS : S.length ≤ 1000) :
    ∀ (m : Nat) (t : List UInt8) (b : Nat), 64 < t.length + m → bk t = some b → ∀ (L : List Nat) (ao : Option Addr) (n cap : Nat) (W : World), L.length + 2000 * m ≤ 900000 → GaM w qi qg L ao n cap W →
      Calls Try.prog 33 #[.pointer (some ⟨b, 0, none⟩), .pointer (some ⟨qi, 0, none⟩), .pointer (some ⟨qg, 0, none⟩)] W (GaP w S qi qg t L W) := by
  intro m
  induction m with
  | zero =>
    intro t b hm hb
    have h1 : ndT S none t := (h0.nd t).1 (by rw [hb]; simp)
    rcases h1 with rfl | ⟨s, hs, hp⟩ | ⟨x, e, _⟩
    · simp at hm
    · have h2 := h64 s hs
      have h3 := hp.length_le
      omega
    · cases e
  | succ m ih =>
    intro t b hm hb L ao n cap W hL hG
    have hT := h0.kept hG.bel
    have hn := hT.node hb
    have c3 := hn.c3
    have HG := hide hG
    have HIH := hide ih
    clear ih hG hn
    cases hmp : mp t with
    | none =>
      rw [hmp] at c3
      have hnoc : ∀ c, bk (t ++ [c]) = none := by
        obtain ⟨⟨N2, h1⟩, _⟩ := h0
        exact h1.noM t hmp
      have HBA : Hid (Bel S t (fun _ => True) []) := hide (bel_all (bel_none S t) (fun c ⟨s, hs, hp⟩ => by
        have h1 : bk (t ++ [c]) ≠ none := (h0.nd _).2 (Or.inr (Or.inl ⟨s, hs, hp⟩))
        exact absurd (hnoc c) h1))
      have hrg := run_range_nilMap (P := Try.prog) W 55 5 63 Try.underlying55
      have hnx : ∀ ty, (Instr.next (.pointer (some ⟨W.heap.size, 0, none⟩)) false ty).run Try.prog (W.alloc (.mapIter none 0 #[] 0)) = _ := fun ty => run_next_nilMap W ty 0 0 #[]
      have HG1 := hide (HG.out.next (Mk.low1 W (.mapIter none 0 #[] 0)))
      have HNC := hide (NC.below (Mk.low1 W (.mapIter none 0 #[] 0)))
      clear hnoc hT
      go_enter Try.func33, Try.ntmps33
      go_wp2
      refine wp_loop_rounds 1 ?_
      rw [rounds_succ]
      go_wp2
      go_end0
      exact ⟨rfl, [], ao, n, cap, HBA.out, by rw [List.append_nil]; exact HG1.out, HNC.out⟩
    | some mb =>
      rw [hmp] at c3
      obtain ⟨N, hts⟩ := hT.ts
      obtain ⟨nn, D, hnn, hown, hhas, hat⟩ := hts.map t mb hmp
      have HHAS := hide hhas
      have HAT := hide hat
      have hmbl : mb < w.heap.size := by
        obtain ⟨⟨N2, h1⟩, _⟩ := h0
        exact (h1.map t mb hmp).lt
      have HML := hide hmbl
      clear hhas hat hts hT hmp hnn hmbl
      go_enter Try.func33, Try.ntmps33
      go_wp2_with (first
        | (at_range; refine wpList_range_own _ rfl _ 55 rfl 5 63 keyB Try.underlying55 rP mb nn _ rfl hown ?_; intro w0 hrg0 hg0 hs0)
        | go_in)
      have HI : Hid (GaI w S qi qg t L W mb W.heap.size nn D (Maps.has D) (Maps.size D) (fun _ => False) [] ao n cap w0) := hide ⟨hrg0, fun c => by simp, bel_none S t, by
        rw [List.append_nil]
        exact HG.out.keepC (HG.out.bel.trans ⟨hg0.os, hg0.tape, hg0.output, hg0.size, fun k hk => hg0.block k (Nat.lt_of_lt_of_le hk HG.out.bel.size) (by simp)⟩) (fun k cs T f e => hg0.block k (Array.getElem?_eq_some_iff.1 e).1 (by simp)), ⟨hg0.size, fun k hk _ => hg0.block k hk (by simp)⟩, by omega⟩
      clear hrg0 hg0 hs0 hown c3
      go_loopw [12] (fun _ wr => ∃ (left : Lit → Bool) (cnt : Nat) (C : UInt8 → Prop) (P : List Nat) (ao : Option Addr) (n cap : Nat), Hid (GaI w S qi qg t L W mb W.heap.size nn D left cnt C P ao n cap wr)) (fun _ wr => wr.rangeLeft mb W.heap.size)
      case atStart => exact ⟨_, _, _, _, _, _, _, HI⟩
      case round =>
        obtain ⟨left, cnt, C, P, ao1, n1, cap1, HE⟩ := hrel
        clear HI
        have hrg := HE.out.rg
        have hcl := hrg.left_eq
        go_wp2_with (first
          | (at_next; refine wpList_next_ranges _ rfl _ rfl 5 keyB rP (fun (x : Int) => Value.int .u8 x) pN (fun key kl hk => by obtain ⟨x, e, _⟩ := Maps.keyOf_int_inv Try.underlying5 hk; exact ⟨x, e⟩) (fun v y hv => rP_inv hv) mb W.heap.size nn D left cnt rfl hrg ?_ ?_)
          | go_in)
        · intro _ hl0
          have HBA : Hid (Bel S t (fun _ => True) P) := hide (bel_all HE.out.bl (fun c ⟨s, hs, hp⟩ => by
            have h1 : bk (t ++ [c]) ≠ none := (h0.nd _).2 (Or.inr (Or.inl ⟨s, hs, hp⟩))
            have h2 := (HHAS.out c).2 h1
            have h3 := HE.out.lf c
            rw [hl0] at h3
            exact Classical.byContradiction (fun h4 => by have := h3.2 ⟨h2, h4⟩; cases this)))
          clear hrg hcl hl0
          go_wp2
          go_end0
          exact ⟨rfl, P, ao1, n1, cap1, HBA.out, HE.out.ga, HE.out.nc⟩
        · intro x c kl yd yp w1 cnt1 hkey hlk hR hat hrg1 hlt hg1 hs1 hen
          obtain ⟨x', ex, rfl, hwx⟩ := Maps.keyOf_int_inv Try.underlying5 hkey
          cases ex
          obtain ⟨cx, rfl, hkl⟩ := kB_of hwx
          rw [hkl] at hlk hat hrg1
          rw [rP_pN] at hR
          obtain ⟨rfl, rfl⟩ := Prod.mk.inj (Option.some.inj hR)
          have hcb : c = bk (t ++ [cx]) := dN_inj ((hat (dN none)).symm.trans (HAT.out cx))
          have hlf := (HE.out.lf cx).1 hlk
          have hbn := (HHAS.out cx).1 hlf.1
          obtain ⟨b', hb'⟩ := Option.ne_none_iff_exists'.1 hbn
          rw [hb'] at hcb
          subst hcb
          have hWw := HG.out.bel.size
          have hmid := HE.out.mid hWw (Nat.le_refl _) hg1
          have HG1 := hide hmid.1
          have hnd := (h0.kept hmid.1.bel).node hb'
          have c1 := hnd.c1
          have c2 := hnd.c2
          have HPL := hide (bel_le HE.out.bl)
          have HMS : Hid (∀ {w2 : World} {ao2 : Option Addr} {n2 cap2 : Nat} {R : List Nat}, GaM w qi qg (L ++ (P ++ (idT S (t ++ [cx])).toList ++ R)) ao2 n2 cap2 w2 → NC w1 w2 → Bel S (t ++ [cx]) (fun _ => True) R → (∃ (left : Lit → Bool) (cnt : Nat) (C : UInt8 → Prop) (P : List Nat) (ao : Option Addr) (n cap : Nat), Hid (GaI w S qi qg t L W mb W.heap.size nn D left cnt C P ao n cap w2)) ∧ w2.rangeLeft mb W.heap.size < wr.rangeLeft mb W.heap.size) := hide (fun hG2 hNC hRb => by
            have hst := HE.out.step hN hWw (Nat.le_refl _) hg1 hrg1 hG2 hNC hRb hlf.2
            exact ⟨⟨_, _, _, _, _, _, _, hide hst⟩, by rw [hst.rg.left_eq, hcl]; exact hlt⟩)
          have cgv : w1.cell? ⟨qg, 0, none⟩ = some (gaV qi qg) := Lib.cell_of_heap hmid.1.cg 0
          have civ : w1.cell? ⟨qi, 0, none⟩ = some (.slice ao1 n1 cap1) := Lib.cell_of_heap hmid.1.ci 0
          have HNL : Hid (n1 = L.length + P.length) := hide (by have := hmid.1.len; rwa [List.length_append] at this)
          simp only [pN, Option.map_some] at hen
          clear hrg hcl hlk hat hrg1 hlt hg1 hs1 hkl hwx hkey hlf hbn hmid hnd hR
          cases hid : idT S (t ++ [cx]) with
          | none =>
            rw [hid] at c1 c2
            simp only [Option.isSome_none] at c2
            have HCA := hide (HIH.out (t ++ [cx]) b' (by rw [List.length_append, List.length_singleton]; omega) hb' (L ++ P) _ _ _ w1 (by have := HPL.out; rw [List.length_append]; omega) HG1.out)
            simp only [pN, Option.map_some]
            go_wp2_with fail
            refine (unhide HCA).mono ?_
            rintro e w2 ⟨rfl, R, ao2, n2, cap2, hBel, hG2, hNC⟩
            have HN := hide (HMS.out (by rw [hid]; simpa using hG2) hNC hBel)
            clear hBel hG2 hNC HCA c1 c2 cgv civ
            go_wp2
            exact HN.out
          | some id =>
            rw [hid] at c1 c2
            simp only [Option.isSome_some] at c2
            simp only [Option.getD_some] at c1
            have HGD := hide (HG1.out.next below_dr)
            obtain ⟨g, cap3, w3, hrun, ci3, fi3, hG3, hN3, hB3⟩ := HGD.out.put (by have := HPL.out; have := HNL.out; omega) id
            have HRUN := hide hrun
            have HG3 := hide hG3
            have HN3 := hide (NC.trans (NC.below below_dr) hN3)
            have hql : qi < w1.heap.size := World.block_lt_of_cell? w1 _ civ
            have hbl : b' < w1.heap.size := World.block_lt_of_cell? w1 _ c1
            have c1d : w1.drew.cell? ⟨b', 1, none⟩ = some (.int .i64 (id : Int)) := c1
            have c1a : (w1.drew.alloc (.cells #[.int .i64 (id : Int)] 3)).cell? ⟨b', 1, none⟩ = some (.int .i64 (id : Int)) := by
              rw [World.cell?_alloc_past (w := w1.drew) _ _ _ hbl]; exact c1d
            have cia : (w1.drew.alloc (.cells #[.int .i64 (id : Int)] 3)).cell? ⟨qi, 0, none⟩ = some (.slice ao1 n1 cap1) := by
              rw [World.cell?_alloc_past (w := w1.drew) _ _ _ hql]; exact civ
            have c13 : w3.cell? ⟨b', 1, none⟩ = some (.int .i64 (id : Int)) := by
              have h := ((h0.kept hB3).node hb').c1
              rw [hid] at h
              exact h
            have c14 : (w3.setCell ⟨qi, 0, none⟩ (.slice (some ⟨g, 0, none⟩) (n1 + 1) cap3)).cell? ⟨b', 1, none⟩ = some (.int .i64 (id : Int)) := by
              have h := ((h0.kept hG3.bel).node hb').c1
              rw [hid] at h
              exact h
            have cgw : (w3.setCell ⟨qi, 0, none⟩ (.slice (some ⟨g, 0, none⟩) (n1 + 1) cap3)).cell? ⟨qg, 0, none⟩ = some (gaV qi qg) := Lib.cell_of_heap hG3.cg 0
            have HCA := hide (HIH.out (t ++ [cx]) b' (by rw [List.length_append, List.length_singleton]; omega) hb' (L ++ P ++ [id]) _ _ _ _ (by have := HPL.out; rw [List.length_append, List.length_append, List.length_singleton]; omega) HG3.out)
            simp only [pN, Option.map_some]
            clear hrun hG3 hN3 hB3 HGD cgv
            go_wp2
            go_region_law ((refine step_append_run' (by rfl) _ _ _ _ (by rfl) _ _ (by rfl) (by rfl) _ _ HRUN.out ?_))
            all_goals
              clear c1 c2 c1d c1a cia c13 c14 ci3 fi3 civ HRUN
              go_wp2_with fail
              refine (unhide HCA).mono ?_
              rintro e w5 ⟨rfl, R, ao2, n2, cap2, hBel, hG2, hNC⟩
              have HN := hide (HMS.out (by rw [hid]; simpa [List.append_assoc] using hG2) (HN3.out.trans hNC) hBel)
              clear hBel hG2 hNC HCA cgw
              go_wp2
              exact HN.out
end Go.Proofs.Ytadbffphmmkljaa
