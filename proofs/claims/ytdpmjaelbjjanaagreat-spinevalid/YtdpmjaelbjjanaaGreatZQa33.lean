/- A vocabulary: what can't be of it, as plain data; how it lies in memory. Contracts of package vocab: a vocabulary, part by part; its table. Contracts of package vocab: a vocabulary, part by part: marks, Ids, bounds. Contracts of package vocab: build, a flaw's line. Contracts of package vocab: a region in a class of worlds; Size, Has; New. The document's vocabulary: New. The document's vocabulary (layer 10): its marks, which tokens there are, and the first one that isn't there. The document's vocabulary (layer 10): Of. A vocabulary's uses: the atomic number. The items of one token. A vocabulary that is used; the items of tokens. The document's items of tokens. Rows of numbers that are the same (slices.Equal). Contracts of package vocab: Load; Size, Has. Contracts of package vocab: Size, Has; of no vocabulary; the law's example. Contract: Spec of a vocabulary. -/
import Derived.Test.YtdpmjaelbjjanaaGreatZQa9
import Derived.Test.YtdpmjaelbjjanaaGreatZQa7
import Derived.Test.YtdpmjaelbjjanaaGreatZQa11
import Derived.Test.YtdpmjaelbjjanaaGreatZQa28
import Derived.Test.YtdpmjaelbjjanaaGreatZQa32
import Derived.Test.YtdpmjaelbjjanaaGreatZQa29
import Derived.Deep.RegionHeld3
import Derived.Deep.RegionWith
import Derived.Test.YtdpmjaelbjjanaaGreatZQa31
import Derived.Test.YtdpmjaelbjjanaaGreatZQa21
import Derived.Laws.LoneSync
import Derived.BigQuiet
import Derived.Test.YtdpmjaelbjjanaaGreatZQa5
namespace Go.Proofs.YtdpmjaelbjjanaaGreat
open Go.RowKit Go.Maps
set_option linter.unusedVariables false
set_option linter.unusedSimpArgs false

/- A spec, in the words of the tables' texts. -/
def gsp (s : Wf.Sp) : Sp := ⟨s.ranked, s.merges, s.tokens, s.specials⟩
def gx (x : Wf.Sv) : Sv := ⟨x.r, x.a1, x.n1, x.c1, x.a2, x.n2, x.c2, x.a3, x.n3, x.c3, x.a4, x.n4, x.c4, x.a5, x.n5, x.c5⟩
theorem gsp_at {w : World} {x : Wf.Sv} {s : Wf.Sp} (h : Wf.SpAt w x s) (h1 : x.n1 ≤ 1000000) (h2 : x.n2 ≤ 1000000) : SpAt w (gx x) (gsp s) :=
  ⟨h.r, ⟨h.ms.1, h.ms.2.imp id (fun ⟨b, off, ha, _, hc⟩ => ⟨b, off, ha, hc⟩)⟩, h.ts, h.ss, Nat.le_trans h1 (by omega), Nat.le_trans h2 (by omega)⟩
theorem mk_at {w : World} {a : Option Addr} {n : Nat} {l : List (Int × ByteArray)} (h : Wf.RdS w a n l) : Mk.RdS w a n l := h
theorem bd_at {w : World} {a : Option Addr} {n : Nat} {l : List (Int × Int × Int)} (h : Wf.RdC w a n l) : Wf.Bq.RdC w a n l := h
theorem bj_at {w : World} {a : Option Addr} {n : Nat} {l : List (Int × Int)} (h : Wf.RdM w a n l) : Wf.Bq.RdJ w a n l := h

/- What can't be. -/
def nT (s : Wf.Sp) : Nat := ldN (gsp s)
def txT (s : Wf.Sp) : List ByteArray := (ldS (gsp s) (nT s)).1
def mgT (s : Wf.Sp) : List (Int × Int) := (ldS (gsp s) (nT s)).2
theorem tokT (s : Wf.Sp) : Tok (txT s) (mgT s) := ldS_tok _ _
def okT (s : Wf.Sp) : Prop := ∀ j, j < nT s → ldC (gsp s) j = 0
def okM (s : Wf.Sp) : Prop := Mk.ChkR s.specials s.specials.length 0
def okI (s : Wf.Sp) (k : Nat) : Prop := ∀ j, j < k → ((txT s).length : Int) ≤ (Mk.gS s.specials j).1
def okB (s : Wf.Sp) : Prop := (∀ c ∈ s.classes, Wf.Bq.kC c) ∧ ∀ j ∈ s.joins, Wf.Bq.kJ j
/-- What of the first three parts can't be first: the table (0), the marks (1), their Ids (2); where, and why. -/
def VBad (s : Wf.Sp) (part k : Nat) (e : Int) : Prop :=
  (part = 0 ∧ k < nT s ∧ (∀ j, j < k → ldC (gsp s) j = 0) ∧ ldC (gsp s) k ≠ 0 ∧ e = ldC (gsp s) k) ∨
  (part = 1 ∧ okT s ∧ Mk.ChkR s.specials k e ∧ e ≠ 0) ∨
  (part = 2 ∧ okT s ∧ okM s ∧ k < s.specials.length ∧ okI s k ∧ (Mk.gS s.specials k).1 < ((txT s).length : Int) ∧ e = 4)
def VOk (s : Wf.Sp) : Prop := okT s ∧ okM s ∧ okI s s.specials.length
theorem VBad.ne {s : Wf.Sp} {p k : Nat} {e : Int} (h : VBad s p k e) : e ≠ 0 := by
  rcases h with ⟨_, _, _, h, rfl⟩ | ⟨_, _, _, h⟩ | ⟨_, _, _, _, _, _, rfl⟩
  · exact h
  · exact h
  · omega
theorem VBad.not {s : Wf.Sp} {p k : Nat} {e : Int} (h : VBad s p k e) (g : VOk s) : False := by
  rcases h with ⟨_, hk, _, h, _⟩ | ⟨_, _, hc, h⟩ | ⟨_, _, _, hk, _, h, _⟩
  · exact h (g.1 k hk)
  · exact h (Mk.chk_uniq hc g.2.1).2
  · have := g.2.2 k hk; omega
theorem VBad.uniq {s : Wf.Sp} {p k p' k' : Nat} {e e' : Int} (h : VBad s p k e) (h' : VBad s p' k' e') : p = p' ∧ k = k' ∧ e = e' := by
  have hu : ∀ {a b : Nat}, (∀ j, j < a → ldC (gsp s) j = 0) → ldC (gsp s) a ≠ 0 → (∀ j, j < b → ldC (gsp s) j = 0) → ldC (gsp s) b ≠ 0 → a = b := by
    intro a b h1 h2 h3 h4
    rcases Nat.lt_trichotomy a b with h | h | h
    · exact absurd (h3 a h) h2
    · exact h
    · exact absurd (h1 b h) h4
  rcases h with ⟨rfl, hk, h1, h2, rfl⟩ | ⟨rfl, ht, hc, h2⟩ | ⟨rfl, ht, hm, hk, h1, h2, rfl⟩
  · rcases h' with ⟨rfl, hk', h1', h2', rfl⟩ | ⟨rfl, ht', hc', h2'⟩ | ⟨rfl, ht', hm', hk', h1', h2', rfl⟩
    · obtain rfl := hu h1 h2 h1' h2'
      exact ⟨rfl, rfl, rfl⟩
    · exact absurd (ht' k hk) h2
    · exact absurd (ht' k hk) h2
  · rcases h' with ⟨rfl, hk', h1', h2', rfl⟩ | ⟨rfl, ht', hc', h2'⟩ | ⟨rfl, ht', hm', hk', h1', h2', rfl⟩
    · exact absurd (ht k' hk') h2'
    · have := Mk.chk_uniq hc hc'
      exact ⟨rfl, this.1, this.2⟩
    · exact absurd (Mk.chk_uniq hc hm').2 h2
  · rcases h' with ⟨rfl, hk', h1', h2', rfl⟩ | ⟨rfl, ht', hc', h2'⟩ | ⟨rfl, ht', hm', hk', h1', h2', rfl⟩
    · exact absurd (ht k' hk') h2'
    · exact absurd (Mk.chk_uniq hc' hm).2 h2'
    · refine ⟨rfl, ?_, rfl⟩
      rcases Nat.lt_trichotomy k k' with h | h | h
      · have := h1' k h; omega
      · exact h
      · have := h1 k' h; omega

/- In memory. -/
/-- The cells of a vocabulary. -/
abbrev voc (y : Wf.Sv) (tp : Option Addr) (sz : Int) (mp bp : Option Addr) (d m1 m2 : Int) (ax : Option Addr) (an ac : Nat) (u : Int) : Array Value :=
  #[.bool y.r, .slice y.a1 y.n1 y.c1, .slice y.a2 y.n2 y.c2, .slice y.a3 y.n3 y.c3, .slice y.a4 y.n4 y.c4, .slice y.a5 y.n5 y.c5, .pointer tp, .int .i64 sz, .pointer mp, .pointer bp, .int .u32 d, .int .i32 m1, .int .u32 m2, .slice ax an ac, .int .i64 u]
/-- Neither a text nor a map; nor, in the first cell, a number. -/
def NoSM (v : Value) : Prop := (∀ t, v ≠ .string t) ∧ ∀ m, v ≠ .map m
section
variable {y : Wf.Sv} {tp : Option Addr} {sz : Int} {mp bp : Option Addr} {d m1 m2 : Int} {ax : Option Addr} {an ac : Nat} {u : Int}
theorem voc_no {j : Nat} {v : Value} (h : (voc y tp sz mp bp d m1 m2 ax an ac u)[j]? = some v) : NoSM v := by
  have hm : v ∈ voc y tp sz mp bp d m1 m2 ax an ac u := Array.mem_of_getElem? h
  simp only [voc, List.mem_toArray, List.mem_cons, List.not_mem_nil, or_false] at hm
  rcases hm with rfl | rfl | rfl | rfl | rfl | rfl | rfl | rfl | rfl | rfl | rfl | rfl | rfl | rfl | rfl <;> exact ⟨fun _ e => (by cases e), fun _ e => (by cases e)⟩
/-- A box that is none of the parts': neither by its type nor by what is in it. -/
def IsV (q : Nat) (W : World) : Prop := ∃ (T : TypeId) (cs : Array Value), W.heap[q]? = some (.cells cs T (0, 0)) ∧ (T ≠ 77 ∧ T ≠ 9 ∧ T ≠ 79 ∧ T ≠ 130 ∧ T ≠ 95 ∧ T ≠ 145) ∧ (∀ (j : Nat) (v : Value), cs[j]? = some v → NoSM v) ∧ cs.size ≤ 100
theorem IsV.of {q : Nat} {W : World} (h : W.heap[q]? = some (.cells (voc y tp sz mp bp d m1 m2 ax an ac u) 171 (0, 0))) : IsV q W := ⟨_, _, h, ⟨by decide, by decide, by decide, by decide, by decide, by decide⟩, fun j v hj => voc_no hj, by simp⟩
end
section
variable {q : Nat} {W W' : World}
theorem IsV.ne_cell (h : IsV q W) {b o : Nat} {v : Value} (hc : W.cell? ⟨b, o, none⟩ = some v) (hv : ¬ NoSM v) : b ≠ q := by
  rintro rfl
  obtain ⟨T, cs, hb, _, hn, _⟩ := h
  rw [Lib.cell_of_heap hb] at hc
  exact hv (hn _ _ hc)
theorem IsV.ne_str (h : IsV q W) {b o : Nat} {t : ByteArray} (hc : W.cell? ⟨b, o, none⟩ = some (.string t)) : b ≠ q := h.ne_cell hc (fun e => e.1 t rfl)
theorem IsV.ne_mapc (h : IsV q W) {b o : Nat} {m : Option Nat} (hc : W.cell? ⟨b, o, none⟩ = some (.map m)) : b ≠ q := h.ne_cell hc (fun e => e.2 m rfl)
theorem IsV.ne_map (h : IsV q W) {b : Nat} (hm : ∃ es c, W.heap[b]? = some (.map es c)) : b ≠ q := by
  rintro rfl
  obtain ⟨T, cs, hb, _⟩ := h
  obtain ⟨es, c, hm⟩ := hm
  rw [hb] at hm
  cases hm
theorem frq (hF : FrL [q] W W') {b o : Nat} {v : Value} (hc : W.cell? ⟨b, o, none⟩ = some v) (hb : b ≠ q) : W'.cell? ⟨b, o, none⟩ = some v := by
  have hl := World.block_lt_of_cell? W _ hc
  have := hF.block b hl (by simpa using hb)
  rw [← hc]
  simp only [World.cell?, this]
theorem row_q {α : Type} {B E k : Nat} {e : α → List Value} {ao : Option Addr} {n cap : Nat} {l : List α} (h : Wf.Row B E k e ao n cap l W) {T : TypeId} {cs : Array Value} (hb : W.heap[q]? = some (.cells cs T (0, 0))) (hE : T ≠ E) (hF : FrL [q] W W') : Wf.Row B E k e ao n cap l W' := by
  refine ⟨h.len, row_frl h.own hF (fun k hk hm => ?_)⟩
  obtain rfl : k = q := by simpa using hm
  exact h.ne hb hE hk
theorem rows_q {B : Nat} {y : Wf.Sv} {s : Wf.Sp} (h : Wf.SpRw B y s W) (hV : IsV q W) (hF : FrL [q] W W') : Wf.SpRw B y s W' := by
  obtain ⟨T, cs, hb, ⟨t1, t2, t3, t4, t5, _⟩, _⟩ := hV
  exact ⟨h.r, row_q h.m1 hb t1 hF, row_q h.m2 hb t2 hF, row_q h.m3 hb t3 hF, row_q h.m4 hb t4 hF, row_q h.m5 hb t5 hF⟩
theorem set_q {v : Value} {ao : Option Addr} {cap : Nat} {L : List (Int × ByteArray)} (h : Mk.StV W v ao cap L) (hV : IsV q W) (hF : FrL [q] W W') : Mk.StV W' v ao cap L := by
  refine ⟨⟨h.rd.1, ?_⟩, ?_⟩
  · rcases h.rd.2 with h0 | ⟨b, off, ha, hlt, hc⟩
    · exact Or.inl h0
    · rcases Nat.eq_zero_or_pos L.length with h0 | h0
      · exact Or.inl h0
      · have hb := hV.ne_str (hc 0 h0).2
        exact Or.inr ⟨b, off, ha, Nat.lt_of_lt_of_le hlt hF.size, fun i hi => ⟨frq hF (hc i hi).1 hb, frq hF (hc i hi).2 hb⟩⟩
  · rcases h.is with h0 | ⟨b, mb, h1, h2, h3, h4⟩
    · exact Or.inl h0
    · have hb := hV.ne_mapc h3
      exact Or.inr ⟨b, mb, h1, frq hF h2 hb, frq hF h3 hb, h4.keep (hF.block mb h4.lt (by simpa using hV.ne_map h4.isMap))⟩
theorem bat_q {p : Nat} {cl : Nat → Int} {jn : Nat → Nat → Bool} (h : Wf.Bq.BAt p cl jn W) (hV : IsV q W) (hF : FrL [q] W W') : Wf.Bq.BAt p cl jn W' := by
  have hp : p ≠ q := by
    rintro rfl
    obtain ⟨T, cs, hb, _, _, hs⟩ := hV
    have := h.c 200 (by omega)
    rw [Lib.cell_of_heap hb, Array.getElem?_eq_none (by omega)] at this
    cases this
  have hfr : ∀ k, W'.frozen? ⟨p, k, none⟩ = W.frozen? ⟨p, k, none⟩ := fun k => by
    have := hF.block p h.lt (by simpa using hp)
    simp only [World.frozen?, this]
  exact ⟨Nat.lt_of_lt_of_le h.lt hF.size, fun b hb => frq hF (h.c b hb) hp, fun a b h1 h2 => frq hF (h.j a b h1 h2) hp, fun k hk => (hfr k).trans (h.f k hk)⟩
theorem tab_off {F : List Nat} {p : Nat} {v0 v1 : Value} {b2 b3 : Nat} {tx : List ByteArray} {mg : List (Int × Int)} {lg : Int} (h : TAt F p v0 v1 b2 b3 tx mg lg W) (hV : IsV q W) : ∃ F', TAt F' p v0 v1 b2 b3 tx mg lg W ∧ q ∉ F' := by
  have n2 := hV.ne_map h.m2.isMap
  have n3 := hV.ne_map h.m3.isMap
  obtain ⟨T, cs, hb, ⟨t1, t2, t3, t4, t5, t6⟩, _⟩ := hV
  have hp : p ≠ q := by
    rintro rfl
    have := h.st
    rw [hb] at this
    simp only [Option.some.injEq, Obj.cells.injEq] at this
    exact t6 this.2.1
  have e0 : ∀ k, v0.ownBlock = some k → k ≠ q := fun k hk e => by
    subst e
    obtain ⟨c, f, h1⟩ := Lib.ownsRow_kind h.r0 k hk
    rw [hb] at h1
    simp only [Option.some.injEq, Obj.cells.injEq] at h1
    exact t2 h1.2.1
  have e1 : ∀ k, v1.ownBlock = some k → k ≠ q := fun k hk e => by
    subst e
    obtain ⟨c, f, h1⟩ := Lib.ownsRow_kind h.r1 k hk
    rw [hb] at h1
    simp only [Option.some.injEq, Obj.cells.injEq] at h1
    exact t1 h1.2.1
  refine ⟨[p, b2, b3] ++ (v0.ownBlock.toList ++ v1.ownBlock.toList), ⟨h.st, h.r0, h.r1, h.m2, h.m3, h.ne, by simp, by simp, by simp, fun k hk => by simp [hk], fun k hk => by simp [hk], fun k hk => ?_⟩, fun hq => ?_⟩
  · simp only [List.cons_append, List.nil_append, List.mem_cons, List.mem_append, Option.mem_toList] at hk
    rcases hk with rfl | rfl | rfl | hk | hk
    · exact h.flt _ h.fp
    · exact h.flt _ h.f2
    · exact h.flt _ h.f3
    · exact h.flt _ (h.f0 _ hk)
    · exact h.flt _ (h.f1 _ hk)
  · simp only [List.cons_append, List.nil_append, List.mem_cons, List.mem_append, Option.mem_toList] at hq
    rcases hq with rfl | rfl | rfl | hk | hk
    · exact hp rfl
    · exact n2 rfl
    · exact n3 rfl
    · exact e0 _ hk rfl
    · exact e1 _ hk rfl
theorem tab_q {F : List Nat} {p : Nat} {v0 v1 : Value} {b2 b3 : Nat} {tx : List ByteArray} {mg : List (Int × Int)} {lg : Int} (h : TAt F p v0 v1 b2 b3 tx mg lg W) (hq : q ∉ F) (hF : FrL [q] W W') : TAt F p v0 v1 b2 b3 tx mg lg W' :=
  h.kept hF (fun k hk e => by obtain rfl : k = q := by simpa using e
                              exact hq hk)
theorem frq_set (W : World) (q j : Nat) (v : Value) : FrL [q] W (W.setCell ⟨q, j, none⟩ v) := (FrL.refl _ _).set (by simp) _
theorem frq_low (hb : Below W.heap.size W W') : FrL [q] W W' := FrL.ofBelow hb
end

end Go.Proofs.YtdpmjaelbjjanaaGreat

namespace Go.Proofs.YtdpmjaelbjjanaaGreat
open Go.RowKit Go.Maps
set_option linter.unusedVariables false
set_option linter.unusedSimpArgs false

theorem frq_below {B q : Nat} {W W' : World} (hF : FrL [q] W W') (hB : B ≤ W.heap.size) (hq : B ≤ q) : Below B W W' := hF.below hB (fun k hk => by
  obtain rfl : k = q := by simpa using hk
  exact hq)
/-- What a vocabulary's parts are, and where. -/
structure VV where
  y : Wf.Sv
  F : List Nat
  p : Nat
  v0 : Value
  v1 : Value
  b2 : Nat
  b3 : Nat
  pm : Nat
  ao : Option Addr
  cap : Nat
  pb : Nat
def pA (c : Bool) (p : Nat) : Option Addr := if c then some ⟨p, 0, none⟩ else none
/-- The first k parts are made. -/
structure StB (w : World) (q k : Nat) (z : VV) (s : Wf.Sp) (W : World) : Prop where
  box : W.heap[q]? = some (.cells (voc z.y (pA (decide (1 ≤ k)) z.p) (if 1 ≤ k then ((txT s).length : Int) else 0) (pA (decide (2 ≤ k)) z.pm) (pA (decide (4 ≤ k)) z.pb) 0 0 0 none 0 0 0) 171 (0, 0))
  rows : Wf.SpRw w.heap.size z.y s W
  nle : Wf.NLe z.y 1000
  hq : w.heap.size ≤ q
  bel : Below w.heap.size w W
  tb : 1 ≤ k → TAt z.F z.p z.v0 z.v1 z.b2 z.b3 (txT s) (mgT s) (lgs (txT s)) W ∧ q ∉ z.F ∧ okT s
  mr : 2 ≤ k → Mk.StV W (.pointer (some ⟨z.pm, 0, none⟩)) z.ao z.cap s.specials ∧ okM s
  id : 3 ≤ k → okI s s.specials.length
  bd : 4 ≤ k → Wf.Bq.BAt z.pb (fun b => Wf.Bq.cls s.classes b) (fun a b => decide (((a : Int), (b : Int)) ∈ s.joins)) W
section
variable {w : World} {q k : Nat} {z : VV} {s : Wf.Sp} {W W' : World}
theorem StB.isV (h : StB w q k z s W) : IsV q W := IsV.of h.box
theorem StB.lt (h : StB w q k z s W) : q < W.heap.size := (Array.getElem?_eq_some_iff.1 h.box).1
theorem StB.low (h : StB w q k z s W) (hb : Below W.heap.size W W') : StB w q k z s W' :=
  ⟨by rw [hb.block q h.lt]; exact h.box, h.rows.low hb, h.nle, h.hq, h.bel.trans (hb.mono h.bel.size), fun e => ⟨(h.tb e).1.keptB hb, (h.tb e).2⟩, fun e => ⟨(h.mr e).1.kept hb, (h.mr e).2⟩, h.id, fun e => (h.bd e).kept hb⟩
theorem StB.free (h : StB w q k z s W) (j : Nat) : W.frozen? ⟨q, j, none⟩ = false := Lib.frozen_of_heap h.box j
theorem StB.cells (h : StB w q k z s W) : W.cell? ⟨q, 0, none⟩ = some (.bool z.y.r) ∧ W.cell? ⟨q, 1, none⟩ = some (.slice z.y.a1 z.y.n1 z.y.c1) ∧ W.cell? ⟨q, 2, none⟩ = some (.slice z.y.a2 z.y.n2 z.y.c2) ∧ W.cell? ⟨q, 3, none⟩ = some (.slice z.y.a3 z.y.n3 z.y.c3) ∧ W.cell? ⟨q, 4, none⟩ = some (.slice z.y.a4 z.y.n4 z.y.c4) ∧ W.cell? ⟨q, 5, none⟩ = some (.slice z.y.a5 z.y.n5 z.y.c5) :=
  ⟨Lib.cell_of_heap h.box 0, Lib.cell_of_heap h.box 1, Lib.cell_of_heap h.box 2, Lib.cell_of_heap h.box 3, Lib.cell_of_heap h.box 4, Lib.cell_of_heap h.box 5⟩
/-- The next part is stored. -/
theorem StB.next (h : StB w q k z s W) {z' : VV} (hy : z'.y = z.y) (hF : FrL [q] W W') (hbox : W'.heap[q]? = some (.cells (voc z.y (pA (decide (1 ≤ k + 1)) z'.p) (if 1 ≤ k + 1 then ((txT s).length : Int) else 0) (pA (decide (2 ≤ k + 1)) z'.pm) (pA (decide (4 ≤ k + 1)) z'.pb) 0 0 0 none 0 0 0) 171 (0, 0)))
    (tb : TAt z'.F z'.p z'.v0 z'.v1 z'.b2 z'.b3 (txT s) (mgT s) (lgs (txT s)) W' ∧ q ∉ z'.F ∧ okT s) (mr : 2 ≤ k + 1 → Mk.StV W' (.pointer (some ⟨z'.pm, 0, none⟩)) z'.ao z'.cap s.specials ∧ okM s)
    (id : 3 ≤ k + 1 → okI s s.specials.length) (bd : 4 ≤ k + 1 → Wf.Bq.BAt z'.pb (fun b => Wf.Bq.cls s.classes b) (fun a b => decide (((a : Int), (b : Int)) ∈ s.joins)) W') : StB w q (k + 1) z' s W' :=
  ⟨by rw [hy]; exact hbox, by rw [hy]; exact rows_q h.rows h.isV hF, by rw [hy]; exact h.nle, h.hq, h.bel.trans (frq_below hF h.bel.size h.hq), fun _ => tb, mr, id, bd⟩
/-- What comes of the next part. -/
def AdP (w : World) (q k : Nat) (s : Wf.Sp) (W : World) (e : Ending) (w' : World) : Prop :=
  ((∃ (n : Nat) (z' : VV), e = .returned (.tuple #[.int .i64 n, .int .i64 0]) ∧ StB w q (k + 1) z' s w') ∨ ∃ (k' : Nat) (er : Int), VBad s k k' er ∧ e = .returned (.tuple #[.int .i64 k', .int .i64 er])) ∧ FrL [q] W w'
end
theorem right_toks {s : Wf.Sp} (h : s.Right) : ∀ t ∈ (gsp s).tokens, t.size ≤ 100000 := fun t ht => by
  have := h.atk t ht
  simp only [Wf.okT, decide_eq_true_eq] at this
  omega

set_option maxRecDepth 20000 in
set_option maxHeartbeats 4000000 in
theorem add0_any (w : World) (q : Nat) (z : VV) (s : Wf.Sp) (W : World) (h : StB w q 0 z s W) (hR : s.Right) :
    Calls Tryz.prog 109 #[.pointer (some ⟨q, 0, none⟩), .int .i64 0] W (AdP w q 0 s W) := by
  have hbox : W.heap[q]? = some (.cells (voc z.y none 0 none none 0 0 0 none 0 0 0) 171 (0, 0)) := h.box
  have HC := hide (load_any (gx z.y) (gsp s) W (gsp_at h.rows.spec (Nat.le_trans h.nle.n1 (by omega)) (Nat.le_trans h.nle.n2 (by omega))) (Nat.le_trans h.nle.n1 (by omega)) (Nat.le_trans h.nle.n2 (by omega)) (right_toks hR))
  have HH := hide h
  have HBX := hide hbox
  obtain ⟨c0, c1, c2, c3, c4, c5⟩ := h.cells
  clear h hbox hR
  obtain ⟨⟨r, a1, n1, c1', a2, n2, c2', a3, n3, c3', a4, n4, c4', a5, n5, c5'⟩, F0, p0, v00, v10, b20, b30, pm0, ao0, cap0, pb0⟩ := z
  simp only at c0 c1 c2 c3 c4 c5
  have HC2 : Hid (Calls Tryz.prog 135 #[.agg #[.bool r, .slice a1 n1 c1', .slice a2 n2 c2', .slice a3 n3 c3', .slice a4 n4 c4', .slice a5 n5 c5']] W fun e w' => LdP (gsp s) (ldN (gsp s)) W e w' ∧ Below W.heap.size W w') := HC
  clear HC
  go_enter Tryz.func109, Tryz.ntmps109
  go_wp2_with fail
  refine (unhide HC2).mono ?_
  rintro e w2 ⟨hP, hb2⟩
  have HH2 := hide (HH.out.low hb2)
  have HFR := hide (frq_low (q := q) hb2)
  have HB2 : Hid (w2.heap[q]? = some (.cells (voc ⟨r, a1, n1, c1', a2, n2, c2', a3, n3, c3', a4, n4, c4', a5, n5, c5'⟩ none 0 none none 0 0 0 none 0 0 0) 171 (0, 0))) := hide (by rw [hb2.block q HH.out.lt]; exact HBX.out)
  clear HC2 HH HBX hb2 c0 c1 c2 c3 c4 c5
  have f6 : w2.frozen? ⟨q, 6, none⟩ = false := Lib.frozen_of_heap HB2.out 6
  have f7 : w2.frozen? ⟨q, 7, none⟩ = false := Lib.frozen_of_heap HB2.out 7
  have d6 : w2.cell? ⟨q, 6, none⟩ = some (.pointer none) := Lib.cell_of_heap HB2.out 6
  have d7 : w2.cell? ⟨q, 7, none⟩ = some (.int .i64 0) := Lib.cell_of_heap HB2.out 7
  rcases hP with ⟨k, hk, hok, hne, rfl⟩ | ⟨hok, p, F, v0, v1, b2, b3, rfl, hT⟩
  · have HBad : Hid (VBad s 0 k (ldC (gsp s) k)) := hide (Or.inl ⟨rfl, hk, hok, hne, rfl⟩)
    generalize ldC (gsp s) k = er at *
    have HBW : Hid (FrL [q] W ((w2.setCell ⟨q, 6, none⟩ (.pointer none)).setCell ⟨q, 7, none⟩ (.int .i64 0))) := hide ((HFR.out.trans' (frq_set _ _ _ _)).trans' (frq_set _ _ _ _))
    have HLN := hide (tlen_nil (w2.setCell ⟨q, 6, none⟩ (.pointer none)))
    clear hk hok hne HH2 HB2
    go_wp2_with fail
    refine (unhide HLN).mono ?_
    rintro e w3 ⟨rfl, rfl⟩
    go_wp2
    (try simp only [Exit.inBlock, Exit.then])
    refine bodyPost_ret (v := .tuple #[.int .i64 k, .int .i64 er]) (by simp [results, Tryz.results109, go_sem]) rfl ?_
    exact ⟨Or.inr ⟨k, er, HBad.out, rfl⟩, HBW.out⟩
  · obtain ⟨F', hT', hqF⟩ := tab_off hT (IsV.of HB2.out)
    have hF6 := frq_set w2 q 6 (.pointer (some ⟨p, 0, none⟩))
    have hT3 := tab_q hT' hqF hF6
    have HLN : Hid (Calls Tryz.prog 85 #[.pointer (some ⟨p, 0, none⟩)] (w2.setCell ⟨q, 6, none⟩ (.pointer (some ⟨p, 0, none⟩))) fun e w' => e = .returned (.int .i64 ((txT s).length : Nat)) ∧ w' = w2.setCell ⟨q, 6, none⟩ (.pointer (some ⟨p, 0, none⟩))) := hide (tlen_any hT3)
    have hF67 : FrL [q] w2 ((w2.setCell ⟨q, 6, none⟩ (.pointer (some ⟨p, 0, none⟩))).setCell ⟨q, 7, none⟩ (.int .i64 (txT s).length)) := hF6.trans' (frq_set _ q 7 _)
    have b6 := Wf.set_block HB2.out 6 (.pointer (some ⟨p, 0, none⟩))
    have b7 := Wf.set_block b6 7 (.int .i64 (txT s).length)
    have HOUT : Hid (StB w q 1 ⟨⟨r, a1, n1, c1', a2, n2, c2', a3, n3, c3', a4, n4, c4', a5, n5, c5'⟩, F', p, v0, v1, b2, b3, pm0, ao0, cap0, pb0⟩ s ((w2.setCell ⟨q, 6, none⟩ (.pointer (some ⟨p, 0, none⟩))).setCell ⟨q, 7, none⟩ (.int .i64 (txT s).length))) :=
      hide (HH2.out.next (z' := ⟨⟨r, a1, n1, c1', a2, n2, c2', a3, n3, c3', a4, n4, c4', a5, n5, c5'⟩, F', p, v0, v1, b2, b3, pm0, ao0, cap0, pb0⟩) rfl hF67 (by simpa [pA] using b7) ⟨tab_q hT' hqF hF67, hqF, hok⟩ (by omega) (by omega) (by omega))
    have HFO := hide (HFR.out.trans' hF67)
    clear hok hT hT' hqF hF6 hT3 hF67 b6 b7 HH2 HB2
    have e6 : (w2.setCell ⟨q, 6, none⟩ (.pointer (some ⟨p, 0, none⟩))).cell? ⟨q, 6, none⟩ = some (.pointer (some ⟨p, 0, none⟩)) := World.cell?_setCell_same _ _ _ d6
    generalize ldN (gsp s) = nn at *
    generalize (txT s).length = sz at *
    go_wp2_with fail
    refine (unhide HLN).mono ?_
    rintro e w3 ⟨rfl, rfl⟩
    go_wp2
    (try simp only [Exit.inBlock, Exit.then])
    refine bodyPost_ret (v := .tuple #[.int .i64 nn, .int .i64 0]) (by simp [results, Tryz.results109, go_sem]) rfl ?_
    exact ⟨Or.inl ⟨nn, _, rfl, HOUT.out⟩, HFO.out⟩
end Go.Proofs.YtdpmjaelbjjanaaGreat

namespace Go.Proofs.YtdpmjaelbjjanaaGreat
open Go.RowKit Go.Maps
set_option linter.unusedVariables false
set_option linter.unusedSimpArgs false

set_option maxRecDepth 20000 in
set_option maxHeartbeats 4000000 in
theorem add1_any (w : World) (q : Nat) (z : VV) (s : Wf.Sp) (W : World) (h : StB w q 1 z s W) :
    Calls Tryz.prog 109 #[.pointer (some ⟨q, 0, none⟩), .int .i64 1] W (AdP w q 1 s W) := by
  have hss := h.rows.spec.ss
  have HC := hide (Mk.new_any W z.y.a3 z.y.n3 z.y.c3 s.specials (mk_at hss) h.nle.n3)
  have HLN := hide hss.1
  have HH := hide h
  have c3 := h.cells.2.2.2.1
  clear h hss
  obtain ⟨⟨r, a1, n1, c1', a2, n2, c2', a3, n3, c3', a4, n4, c4', a5, n5, c5'⟩, F0, p0, v00, v10, b20, b30, pm0, ao0, cap0, pb0⟩ := z
  simp only at c3 HC HLN
  go_enter Tryz.func109, Tryz.ntmps109
  go_wp2_with fail
  refine (unhide HC).mono ?_
  rintro e w2 ⟨hP, hb2⟩
  have HH2 := hide (HH.out.low hb2)
  have HFR := hide (frq_low (q := q) hb2)
  have HB2 : Hid (w2.heap[q]? = some (.cells (voc ⟨r, a1, n1, c1', a2, n2, c2', a3, n3, c3', a4, n4, c4', a5, n5, c5'⟩ (some ⟨p0, 0, none⟩) (txT s).length none none 0 0 0 none 0 0 0) 171 (0, 0))) := hide HH2.out.box
  clear HC HH hb2 c3
  have f8 : w2.frozen? ⟨q, 8, none⟩ = false := Lib.frozen_of_heap HB2.out 8
  have d8 : w2.cell? ⟨q, 8, none⟩ = some (.pointer none) := Lib.cell_of_heap HB2.out 8
  rcases hP with ⟨k, er, hk, hne, rfl⟩ | ⟨hok, p, ao, cap, rfl, hS⟩
  · have HBad : Hid (VBad s 1 k er) := hide (Or.inr (Or.inl ⟨rfl, (HH2.out.tb (by omega)).2.2, hk, hne⟩))
    have HBW : Hid (FrL [q] W (w2.setCell ⟨q, 8, none⟩ (.pointer none))) := hide (HFR.out.trans' (frq_set _ _ _ _))
    clear hk hne HH2 HB2 HLN
    go_wp2
    (try simp only [Exit.inBlock, Exit.then])
    refine bodyPost_ret (v := .tuple #[.int .i64 k, .int .i64 er]) (by simp [results, Tryz.results109, go_sem]) rfl ?_
    exact ⟨Or.inr ⟨k, er, HBad.out, rfl⟩, HBW.out⟩
  · have hF := frq_set w2 q 8 (.pointer (some ⟨p, 0, none⟩))
    have b8 := Wf.set_block HB2.out 8 (.pointer (some ⟨p, 0, none⟩))
    obtain ⟨hT, hqF, hokT⟩ := HH2.out.tb (by omega)
    have HOUT : Hid (StB w q 2 ⟨⟨r, a1, n1, c1', a2, n2, c2', a3, n3, c3', a4, n4, c4', a5, n5, c5'⟩, F0, p0, v00, v10, b20, b30, p, ao, cap, pb0⟩ s (w2.setCell ⟨q, 8, none⟩ (.pointer (some ⟨p, 0, none⟩)))) :=
      hide (HH2.out.next (z' := ⟨⟨r, a1, n1, c1', a2, n2, c2', a3, n3, c3', a4, n4, c4', a5, n5, c5'⟩, F0, p0, v00, v10, b20, b30, p, ao, cap, pb0⟩) rfl hF (by simpa [pA] using b8) ⟨tab_q hT hqF hF, hqF, hokT⟩ (fun _ => ⟨set_q hS (IsV.of HB2.out) hF, by rw [← HLN.out] at hok; exact hok⟩) (by omega) (by omega))
    have HFO := hide (HFR.out.trans' hF)
    clear hok hS hF b8 hT hqF hokT HH2 HB2 HLN
    go_wp2
    (try simp only [Exit.inBlock, Exit.then])
    refine bodyPost_ret (v := .tuple #[.int .i64 n3, .int .i64 0]) (by simp [results, Tryz.results109, go_sem]) rfl ?_
    exact ⟨Or.inl ⟨n3, _, rfl, HOUT.out⟩, HFO.out⟩

theorem ordinary_any (q : Nat) (sz id : Int) (W : World) (c : W.cell? ⟨q, 7, none⟩ = some (.int .i64 sz)) :
    Calls Tryz.prog 92 #[.pointer (some ⟨q, 0, none⟩), .int .i64 id] W fun e w' => e = .returned (.bool (decide (0 ≤ id ∧ id < sz))) ∧ w' = W := by
  go_enter Tryz.func92, Tryz.ntmps92
  by_cases h0 : 0 ≤ id
  · by_cases h1 : id < sz
    · go_wp2
      go_ret
      exact ⟨by simp [h0, h1], rfl⟩
    · go_wp2
      go_ret
      exact ⟨by simp [h0, h1], rfl⟩
  · go_wp2
    go_ret
    exact ⟨by simp; omega, rfl⟩

set_option maxRecDepth 20000 in
set_option maxHeartbeats 4000000 in
theorem ownIds_any (w : World) (q : Nat) (z : VV) (s : Wf.Sp) (W : World) (h : StB w q 2 z s W) :
    Calls Tryz.prog 137 #[.pointer (some ⟨q, 0, none⟩)] W fun e w' => ((okI s s.specials.length ∧ e = .returned (.tuple #[.int .i64 0, .int .i64 0])) ∨ ∃ k : Nat, k < s.specials.length ∧ okI s k ∧ (Mk.gS s.specials k).1 < ((txT s).length : Int) ∧ e = .returned (.tuple #[.int .i64 k, .int .i64 4])) ∧ StB w q 2 z s w' ∧ FrL [q] W w' := by
  have HLN := hide h.rows.spec.ss.1
  have HIP : Hid (∀ k, k < s.specials.length → 0 ≤ (Mk.gS s.specials k).1) := hide (fun k hk => ((h.mr (by omega)).2.1 k hk).1.1)
  have hN3 := h.nle.n3
  have HH := hide h
  have c3 := h.cells.2.2.2.1
  clear h
  obtain ⟨⟨r, a1, n1, c1', a2, n2, c2', a3, n3, c3', a4, n4, c4', a5, n5, c5'⟩, F0, p0, v00, v10, b20, b30, pm0, ao0, cap0, pb0⟩ := z
  simp only at c3 HLN hN3
  go_enter Tryz.func137, Tryz.ntmps137
  go_wp2
  clear c3
  go_loopw [12] (fun i wr => ∃ k : Nat, i = .int .i64 k ∧ k ≤ n3 ∧ Hid (okI s k) ∧ Hid (StB w q 2 ⟨⟨r, a1, n1, c1', a2, n2, c2', a3, n3, c3', a4, n4, c4', a5, n5, c5'⟩, F0, p0, v00, v10, b20, b30, pm0, ao0, cap0, pb0⟩ s wr) ∧ Hid (FrL [q] W wr)) (fun i _ => n3 - (intOf i).toNat)
  case atStart => exact ⟨0, rfl, Nat.zero_le _, hide (fun j hj => by omega), HH, hide (FrL.refl _ _)⟩
  case round =>
    obtain ⟨k, rfl, hk, HI, HS, HFR⟩ := hrel
    clear HH
    by_cases hlt : k < n3
    · have hk0 : (0 : Int) ≤ (k : Int) := by omega
      have hk1 : (k : Int) < (n3 : Int) := by omega
      have hid0 := HIP.out k (by rw [HLN.out]; exact hlt)
      rcases HS.out.rows.spec.ss.2 with h0 | ⟨b, off, ha, hbl, hc⟩
      · simp only at h0; omega
      simp only at ha hc
      subst ha
      have k0 := (hc k hlt).1
      have k1 := (hc k hlt).2
      have hgS : Wf.gS s.specials k = Mk.gS s.specials k := rfl
      rw [hgS] at k0 k1
      clear hc hgS
      generalize hid : (Mk.gS s.specials k).1 = id at *
      generalize (Mk.gS s.specials k).2 = tx at *
      have HID := hide hid
      have hla := Wf.low_alloc wr (.cells #[.int .i64 id, .string tx] 79)
      have HS2 := hide (HS.out.low hla)
      have HFR2 := hide (HFR.out.trans' (frq_low hla))
      have hc7 : (wr.alloc (.cells #[.int .i64 id, .string tx] 79)).cell? ⟨q, 7, none⟩ = some (.int .i64 (txT s).length) := Lib.cell_of_heap HS2.out.box 7
      have HO := hide (ordinary_any q _ id _ hc7)
      clear hla hid hc7
      by_cases hlow : id < ((txT s).length : Int)
      · have HR : Hid (∃ k : Nat, k < s.specials.length ∧ okI s k ∧ (Mk.gS s.specials k).1 < ((txT s).length : Int) ∧ Ending.returned (.tuple #[.int .i64 k, .int .i64 4]) = .returned (.tuple #[.int .i64 k, .int .i64 4])) := hide ⟨k, by rw [HLN.out]; exact hlt, HI.out, by rw [HID.out]; exact hlow, rfl⟩
        have HV : Hid (VBad s 2 k 4) := hide (Or.inr (Or.inr ⟨rfl, (HS.out.tb (by omega)).2.2, (HS.out.mr (by omega)).2, by rw [HLN.out]; exact hlt, HI.out, by rw [HID.out]; exact hlow, rfl⟩))
        have hd : decide (0 ≤ id ∧ id < ((txT s).length : Int)) = true := by simp [hid0, hlow]
        rw [hd] at HO
        clear hd hlow hid0 HID
        go_wp2_with fail
        refine (unhide HO).mono ?_
        rintro e w3 ⟨rfl, rfl⟩
        go_wp2
        (try simp only [Exit.inBlock, Exit.then])
        refine bodyPost_ret (v := .tuple #[.int .i64 k, .int .i64 4]) (by simp [results, Tryz.results137, go_sem]) rfl ?_
        exact ⟨Or.inr ⟨k, HV.out.elim (fun h => by omega) (fun h => h.elim (fun h => by omega) (fun h => h.2.2.2.1)), HI.out, HV.out.elim (fun h => by omega) (fun h => h.elim (fun h => by omega) (fun h => h.2.2.2.2.2.1)), rfl⟩, HS2.out, HFR2.out⟩
      · have HI2 : Hid (okI s (k + 1)) := hide (fun j hj => by
          rcases (show j < k ∨ j = k by omega) with h | rfl
          · exact HI.out j h
          · rw [HID.out]; omega)
        have hd : decide (0 ≤ id ∧ id < ((txT s).length : Int)) = false := by simp; intro _; omega
        rw [hd] at HO
        clear hd hlow hid0 HID
        go_wp2_with fail
        refine (unhide HO).mono ?_
        rintro e w3 ⟨rfl, rfl⟩
        go_wp2
        first
          | exact ⟨⟨k + 1, by go_num, by omega, HI2, HS2, HFR2⟩, by simp [intOf]; omega⟩
          | (go_roundw
             case rel => exact ⟨k + 1, by go_num, by omega, HI2, HS2, HFR2⟩
             case measure => simp [intOf]; omega)
    · obtain rfl : k = n3 := by omega
      have HI2 : Hid (okI s s.specials.length) := hide (by rw [HLN.out]; exact HI.out)
      go_wp2
      (try simp only [Exit.inBlock, Exit.then])
      refine bodyPost_ret (v := .tuple #[.int .i64 0, .int .i64 0]) (by simp [results, Tryz.results137, go_sem]) rfl ?_
      exact ⟨Or.inl ⟨HI2.out, rfl⟩, HS.out, HFR.out⟩

set_option maxRecDepth 20000 in
set_option maxHeartbeats 4000000 in
theorem add2_any (w : World) (q : Nat) (z : VV) (s : Wf.Sp) (W : World) (h : StB w q 2 z s W) :
    Calls Tryz.prog 109 #[.pointer (some ⟨q, 0, none⟩), .int .i64 2] W (AdP w q 2 s W) := by
  have HC := hide (ownIds_any w q z s W h)
  clear h
  go_enter Tryz.func109, Tryz.ntmps109
  go_wp2_with fail
  refine (unhide HC).mono ?_
  rintro e w2 ⟨hP, h2, hfr⟩
  have HFR := hide hfr
  clear hfr
  rcases hP with ⟨hok, rfl⟩ | ⟨k, hk, hI, hlow, rfl⟩
  · have HOUT : Hid (StB w q 3 z s w2) := hide (h2.next (z' := z) rfl (FrL.refl _ _) (by simpa [pA] using h2.box) (h2.tb (by omega)) (fun _ => h2.mr (by omega)) (fun _ => hok) (by omega))
    clear HC h2 hok
    go_wp2
    (try simp only [Exit.inBlock, Exit.then])
    refine bodyPost_ret (v := .tuple #[.int .i64 0, .int .i64 0]) (by simp [results, Tryz.results109, go_sem]) rfl ?_
    exact ⟨Or.inl ⟨0, z, rfl, HOUT.out⟩, HFR.out⟩
  · have HBad : Hid (VBad s 2 k 4) := hide (Or.inr (Or.inr ⟨rfl, (h2.tb (by omega)).2.2, (h2.mr (by omega)).2, hk, hI, hlow, rfl⟩))
    clear HC h2 hk hI hlow
    go_wp2
    (try simp only [Exit.inBlock, Exit.then])
    refine bodyPost_ret (v := .tuple #[.int .i64 k, .int .i64 4]) (by simp [results, Tryz.results109, go_sem]) rfl ?_
    exact ⟨Or.inr ⟨k, 4, HBad.out, rfl⟩, HFR.out⟩

theorem right_bounds {s : Wf.Sp} (h : s.Right) : okB s := by
  refine ⟨fun c hc => ?_, fun j hj => ?_⟩
  · have := h.ac c hc
    simpa [Wf.okC, Wf.Bq.kC] using this
  · have := h.aj j hj
    simpa [Wf.okJ, Wf.Bq.kJ] using this
theorem StB.drew {w : World} {q k : Nat} {z : VV} {s : Wf.Sp} {W : World} (h : StB w q k z s W) : StB w q k z s W.drew := h.low ⟨rfl, rfl, rfl, Nat.le_refl _, fun _ _ => rfl⟩

set_option maxRecDepth 20000 in
set_option maxHeartbeats 8000000 in
theorem add3_any (w : World) (q : Nat) (z : VV) (s : Wf.Sp) (W : World) (h : StB w q 3 z s W) (hR : s.Right) :
    Calls Tryz.prog 109 #[.pointer (some ⟨q, 0, none⟩), .int .i64 3] W (AdP w q 3 s W) := by
  have HH := hide h.drew
  have HOB := hide (right_bounds hR)
  have c4 : W.drew.cell? ⟨q, 4, none⟩ = some (.slice z.y.a4 z.y.n4 z.y.c4) := HH.out.cells.2.2.2.2.1
  have c5 : W.drew.cell? ⟨q, 5, none⟩ = some (.slice z.y.a5 z.y.n5 z.y.c5) := HH.out.cells.2.2.2.2.2
  have c4' : W.cell? ⟨q, 4, none⟩ = some (.slice z.y.a4 z.y.n4 z.y.c4) := h.cells.2.2.2.2.1
  have c5' : W.cell? ⟨q, 5, none⟩ = some (.slice z.y.a5 z.y.n5 z.y.c5) := h.cells.2.2.2.2.2
  have HC := hide (Wf.Bq.bnew_any z.y.a4 z.y.n4 z.y.c4 s.classes z.y.a5 z.y.n5 z.y.c5 s.joins W.drew (bd_at HH.out.rows.spec.cs) (bj_at HH.out.rows.spec.js) (Nat.le_trans h.nle.n4 (by omega)) (Nat.le_trans h.nle.n5 (by omega)))
  clear h hR
  obtain ⟨⟨r, a1, n1, e1', a2, n2, e2', a3, n3, e3', a4, n4, e4', a5, n5, e5'⟩, F0, p0, v00, v10, b20, b30, pm0, ao0, cap0, pb0⟩ := z
  simp only at c4 c5 c4' c5' HC
  go_enter Tryz.func109, Tryz.ntmps109
  go_wp2
  go_region_held3 (fun W => W.cell? ⟨q, 4, none⟩ = some (.slice a4 n4 e4') ∧ W.cell? ⟨q, 5, none⟩ = some (.slice a5 n5 e5')) (first | exact ⟨s4, s5⟩ | exact ⟨c4, c5⟩ | go_keep) (first
    | (go_at_call 138; refine (unhide HC).mono ?_; rintro e w2 ⟨hP, hb2⟩; replace HH := hide (HH.out.low hb2); have HFR := hide (frq_low (q := q) hb2); have c4 := HH.out.cells.2.2.2.2.1; have c5 := HH.out.cells.2.2.2.2.2; rcases hP with ⟨hno, -⟩ | ⟨-, p, rfl, hB⟩; exact absurd HOB.out hno; have HBT := hide hB; have f9 := HH.out.free 9; have d9 : w2.cell? ⟨q, 9, none⟩ = some (.pointer none) := Lib.cell_of_heap HH.out.box 9; have s4 := (World.cell?_setCell_other w2 ⟨q, 9, none⟩ ⟨q, 4, none⟩ (.pointer (some ⟨p, 0, none⟩)) (by simp)).trans c4; have s5 := (World.cell?_setCell_other w2 ⟨q, 9, none⟩ ⟨q, 5, none⟩ (.pointer (some ⟨p, 0, none⟩)) (by simp)).trans c5; clear hB hb2))
  all_goals
    have hF := frq_set w2 q 9 (.pointer (some ⟨p, 0, none⟩))
    have b9 := Wf.set_block HH.out.box 9 (.pointer (some ⟨p, 0, none⟩))
    obtain ⟨hT, hqF, hokT⟩ := HH.out.tb (by omega)
    have HOUT : Hid (StB w q 4 ⟨⟨r, a1, n1, e1', a2, n2, e2', a3, n3, e3', a4, n4, e4', a5, n5, e5'⟩, F0, p0, v00, v10, b20, b30, pm0, ao0, cap0, p⟩ s (w2.setCell ⟨q, 9, none⟩ (.pointer (some ⟨p, 0, none⟩)))) :=
      hide (HH.out.next (z' := ⟨⟨r, a1, n1, e1', a2, n2, e2', a3, n3, e3', a4, n4, e4', a5, n5, e5'⟩, F0, p0, v00, v10, b20, b30, pm0, ao0, cap0, p⟩) rfl hF (by simpa [pA] using b9) ⟨tab_q hT hqF hF, hqF, hokT⟩ (fun _ => ⟨set_q (HH.out.mr (by omega)).1 HH.out.isV hF, (HH.out.mr (by omega)).2⟩) (fun _ => HH.out.id (by omega)) (fun _ => bat_q HBT.out HH.out.isV hF))
    have HFO : Hid (FrL [q] W (w2.setCell ⟨q, 9, none⟩ (.pointer (some ⟨p, 0, none⟩)))) := hide (((FrL.refl _ W).drew.trans' HFR.out).trans' hF)
    clear hF b9 hT hqF hokT HC HH HBT s4 s5 c4 c5 d9 f9
    go_wp2
    (try simp only [Exit.inBlock, Exit.then])
    refine bodyPost_ret (v := .tuple #[.int .i64 0, .int .i64 0]) (by simp [results, Tryz.results109, go_sem]) rfl ?_
    exact ⟨Or.inl ⟨0, _, rfl, HOUT.out⟩, HFO.out⟩
end Go.Proofs.YtdpmjaelbjjanaaGreat

namespace Go.Proofs.YtdpmjaelbjjanaaGreat
open Go.RowKit Go.Maps
set_option linter.unusedVariables false
set_option linter.unusedSimpArgs false

/-- What comes of build. -/
def BuP (s : Wf.Sp) (w : World) (e : Ending) (w' : World) : Prop :=
  ((∃ q z, VOk s ∧ e = .returned (.tuple #[.pointer (some ⟨q, 0, none⟩), .agg #[.int .i64 0, .int .i64 0, .int .i64 0]]) ∧ StB w q 4 z s w') ∨ ∃ (p k : Nat) (er : Int), VBad s p k er ∧ e = .returned (.tuple #[.pointer none, .agg #[.int .i64 p, .int .i64 k, .int .i64 er]])) ∧ Below w.heap.size w w'
theorem StB.vok {w : World} {q : Nat} {z : VV} {s : Wf.Sp} {W : World} (h : StB w q 4 z s W) : VOk s := ⟨(h.tb (by omega)).2.2, (h.mr (by omega)).2, h.id (by omega)⟩
/-- What is written into another box leaves it as it is. -/
theorem StB.other {w : World} {q k r : Nat} {z : VV} {s : Wf.Sp} {W W' : World} (h : StB w q k z s W) (hV : IsV r W) (hne : r ≠ q) (hr : w.heap.size ≤ r) (hF : FrL [r] W W') : ∃ z', StB w q k z' s W' := by
  have hT : ∃ F', (1 ≤ k → TAt F' z.p z.v0 z.v1 z.b2 z.b3 (txT s) (mgT s) (lgs (txT s)) W' ∧ q ∉ F' ∧ okT s) := by
    by_cases h1 : 1 ≤ k
    · obtain ⟨hT, hq, ho⟩ := h.tb h1
      obtain ⟨F1, hT1, hr1⟩ := tab_off hT hV
      obtain ⟨F2, hT2, hq2⟩ := tab_off (tab_q hT1 hr1 hF) (IsV.of (by rw [hF.block q h.lt (by simp; omega)]; exact h.box))
      exact ⟨F2, fun _ => ⟨hT2, hq2, ho⟩⟩
    · exact ⟨[], fun h => absurd h h1⟩
  obtain ⟨F', hT⟩ := hT
  exact ⟨{ z with F := F' }, by rw [hF.block q h.lt (by simp; omega)]; exact h.box, rows_q h.rows hV hF, h.nle, h.hq, h.bel.trans (frq_below hF h.bel.size hr), hT, fun e => ⟨set_q (h.mr e).1 hV hF, (h.mr e).2⟩, h.id, fun e => bat_q (h.bd e) hV hF⟩
theorem IsV.flaw {r : Nat} {a b c : Int} {W : World} (h : W.heap[r]? = some (.cells #[.int .i64 a, .int .i64 b, .int .i64 c] 121 (0, 0))) : IsV r W := by
  refine ⟨_, _, h, ⟨by decide, by decide, by decide, by decide, by decide, by decide⟩, fun j v hj => ?_, by simp⟩
  have hm := Array.mem_of_getElem? hj
  simp only [List.mem_toArray, List.mem_cons, List.not_mem_nil, or_false] at hm
  rcases hm with rfl | rfl | rfl <;> exact ⟨fun _ e => (by cases e), fun _ e => (by cases e)⟩
theorem StB.base {w w1 : World} {q k : Nat} {z : VV} {s : Wf.Sp} {W : World} (h : StB w1 q k z s W) (hb : Below w.heap.size w w1) : StB w q k z s W :=
  ⟨h.box, h.rows.mono hb.size, h.nle, Nat.le_trans hb.size h.hq, hb.trans (h.bel.mono hb.size), h.tb, h.mr, h.id, h.bd⟩
theorem addp_any (w : World) (q k : Nat) (z : VV) (s : Wf.Sp) (W : World) (h : StB w q k z s W) (hk : k < 4) (hR : s.Right) :
    Calls Tryz.prog 109 #[.pointer (some ⟨q, 0, none⟩), .int .i64 k] W (AdP w q k s W) := by
  match k, hk with
  | 0, _ => exact add0_any w q z s W h hR
  | 1, _ => exact add1_any w q z s W h
  | 2, _ => exact add2_any w q z s W h
  | 3, _ => exact add3_any w q z s W h hR

set_option maxRecDepth 20000 in
set_option maxHeartbeats 8000000 in
theorem build_any (x : Wf.Sv) (s : Wf.Sp) (w : World) (h : Wf.SpAt w x s) (hR : s.Right) (hn : Wf.NLe x 1000) :
    Calls Tryz.prog 64 #[.agg x.cs] w (BuP s w) := by
  have hl1 := Wf.low_alloc w (.cells x.cs 81)
  have hl2 := Wf.low_alloc (w.alloc (.cells x.cs 81)) (.cells #[.int .i64 0, .int .i64 0, .int .i64 0] 121)
  have hr := heap_alloc_new (w.alloc (.cells x.cs 81)) (.cells #[.int .i64 0, .int .i64 0, .int .i64 0] 121)
  have hr2 : ((w.alloc (.cells x.cs 81)).alloc (.cells #[.int .i64 0, .int .i64 0, .int .i64 0] 121)).heap[w.heap.size + 1]? = some (.cells #[.int .i64 0, .int .i64 0, .int .i64 0] 121 (0, 0)) := by simpa using hr
  have hb0 : Below w.heap.size w ((w.alloc (.cells x.cs 81)).alloc (.cells #[.int .i64 0, .int .i64 0, .int .i64 0] 121)) := hl1.trans (hl2.mono hl1.size)
  have HC := hide (Wf.copied_any x s _ (h.kept hb0) hn)
  have HR2 := hide hr2
  have HB0 := hide hb0
  obtain ⟨g0, g1, g2, g3, g4, g5⟩ := (((Wf.SpI.new h 81).next hl2).box)
  have HRT := hide hR
  have hlt0 : w.heap.size + 1 < ((w.alloc (.cells x.cs 81)).alloc (.cells #[.int .i64 0, .int .i64 0, .int .i64 0] 121)).heap.size := by simp
  clear hl1 hl2 hr hr2 hb0 h hR
  obtain ⟨r, a1, n1, c1, a2, n2, c2, a3, n3, c3, a4, n4, c4, a5, n5, c5⟩ := x
  simp only at g0 g1 g2 g3 g4 g5
  go_enter Tryz.func64, Tryz.ntmps64
  go_wp2_with fail
  refine (unhide HC).mono ?_
  rintro e w2 ⟨⟨y, rfl, hrw, hnl⟩, hb2⟩
  have hl3 := Wf.low_alloc w2 (.cells (voc y none 0 none none 0 0 0 none 0 0 0) 171)
  have hB2 := HB0.out.trans (hb2.mono HB0.out.size)
  have HS : Hid (StB w w2.heap.size 0 ⟨y, [], 0, .int .i64 0, .int .i64 0, 0, 0, 0, none, 0, 0⟩ s (w2.alloc (.cells (voc y none 0 none none 0 0 0 none 0 0 0) 171))) :=
    hide ⟨heap_alloc_new w2 _, (hrw.low hl3).mono HB0.out.size, hnl, hB2.size, hB2.trans (hl3.mono hB2.size), fun h => by omega, fun h => by omega, fun h => by omega, fun h => by omega⟩
  have HFL : Hid ((w2.alloc (.cells (voc y none 0 none none 0 0 0 none 0 0 0) 171)).heap[w.heap.size + 1]? = some (.cells #[.int .i64 0, .int .i64 0, .int .i64 0] 121 (0, 0))) := hide (by rw [hl3.block _ (Nat.lt_of_lt_of_le hlt0 hb2.size), hb2.block _ hlt0]; exact HR2.out)
  have hqne : w.heap.size + 1 < w2.heap.size := Nat.lt_of_lt_of_le hlt0 hb2.size
  clear HC hrw hnl hb2 hl3 hB2 HR2 HB0 g0 g1 g2 g3 g4 g5 hlt0
  obtain ⟨r', a1', n1', c1', a2', n2', c2', a3', n3', c3', a4', n4', c4', a5', n5', c5'⟩ := y
  go_wp2
  generalize w2.heap.size = q at *
  go_loopw [13] (fun i wr => ∃ k : Nat, i = .int .i64 k ∧ k ≤ 4 ∧ (∃ z, Hid (StB w q k z s wr)) ∧ Hid (wr.heap[w.heap.size + 1]? = some (.cells #[.int .i64 0, .int .i64 0, .int .i64 0] 121 (0, 0)))) (fun i _ => 4 - (intOf i).toNat)
  case atStart => exact ⟨0, rfl, by omega, ⟨_, HS⟩, HFL⟩
  case round =>
    obtain ⟨k, rfl, hk, ⟨z, HZ⟩, HF⟩ := hrel
    clear HS HFL
    have hk0 : (0 : Int) ≤ (k : Int) := by omega
    by_cases hlt : k < 4
    · have hk1 : (k : Int) < 4 := by omega
      have HA := hide (addp_any w q k z s wr HZ.out hlt HRT.out)
      have HLT := hide (Array.getElem?_eq_some_iff.1 HF.out).1
      go_wp2_with fail
      refine (unhide HA).mono ?_
      rintro e w3 ⟨hP, hfr⟩
      have HF3 : Hid (w3.heap[w.heap.size + 1]? = some (.cells #[.int .i64 0, .int .i64 0, .int .i64 0] 121 (0, 0))) := hide (by rw [hfr.block _ HLT.out (by simp; omega)]; exact HF.out)
      have HBL := hide (HZ.out.bel.trans (frq_below hfr HZ.out.bel.size HZ.out.hq))
      clear HA hfr HLT HF
      rcases hP with ⟨n, z', rfl, hz'⟩ | ⟨k', er, hbad, rfl⟩
      · have HZ2 := hide hz'
        clear hz' HZ
        go_wp2
        first
          | exact ⟨⟨k + 1, by go_num, by omega, ⟨_, HZ2⟩, HF3⟩, by simp [intOf]; omega⟩
          | (go_roundw
             case rel => exact ⟨k + 1, by go_num, by omega, ⟨_, HZ2⟩, HF3⟩
             case measure => simp [intOf]; omega)
      · have hne := hbad.ne
        have hneb : (er != 0) = true := by simpa using hne
        have HBD := hide hbad
        have f0 := Lib.frozen_of_heap HF3.out 0
        have f1 := Lib.frozen_of_heap HF3.out 1
        have f2 := Lib.frozen_of_heap HF3.out 2
        have d0 : w3.cell? ⟨w.heap.size + 1, 0, none⟩ = some (.int .i64 0) := Lib.cell_of_heap HF3.out 0
        have d1 : w3.cell? ⟨w.heap.size + 1, 1, none⟩ = some (.int .i64 0) := Lib.cell_of_heap HF3.out 1
        have d2 : w3.cell? ⟨w.heap.size + 1, 2, none⟩ = some (.int .i64 0) := Lib.cell_of_heap HF3.out 2
        have z3 := Wf.set_block (Wf.set_block (Wf.set_block HF3.out 0 (.int .i64 k)) 1 (.int .i64 k')) 2 (.int .i64 er)
        have HZ3 := hide z3
        have HB3 : Hid (Below w.heap.size w (((w3.setCell ⟨w.heap.size + 1, 0, none⟩ (.int .i64 k)).setCell ⟨w.heap.size + 1, 1, none⟩ (.int .i64 k')).setCell ⟨w.heap.size + 1, 2, none⟩ (.int .i64 er))) :=
          hide (((HBL.out.setCell (p := ⟨w.heap.size + 1, 0, none⟩) (Nat.le_succ _) _).setCell (p := ⟨w.heap.size + 1, 1, none⟩) (Nat.le_succ _) _).setCell (p := ⟨w.heap.size + 1, 2, none⟩) (Nat.le_succ _) _)
        clear hbad hne z3 HF3 HBL HZ
        go_wp2
        have g0 := Lib.cell_of_heap HZ3.out 0
        have g1 := Lib.cell_of_heap HZ3.out 1
        have g2 := Lib.cell_of_heap HZ3.out 2
        generalize (((w3.setCell ⟨w.heap.size + 1, 0, none⟩ (.int .i64 k)).setCell ⟨w.heap.size + 1, 1, none⟩ (.int .i64 k')).setCell ⟨w.heap.size + 1, 2, none⟩ (.int .i64 er)) = w4 at *
        (try simp only [Exit.inBlock, Exit.then])
        refine bodyPost_ret (v := .tuple #[.pointer none, .agg #[.int .i64 k, .int .i64 k', .int .i64 er]]) (by simp [results, Tryz.results64, go_sem, g0, g1, g2]) rfl ?_
        exact ⟨Or.inr ⟨k, k', er, HBD.out, rfl⟩, HB3.out⟩
    · obtain rfl : k = 4 := by omega
      have f0 := Lib.frozen_of_heap HF.out 0
      have f1 := Lib.frozen_of_heap HF.out 1
      have f2 := Lib.frozen_of_heap HF.out 2
      have d0 : wr.cell? ⟨w.heap.size + 1, 0, none⟩ = some (.int .i64 0) := Lib.cell_of_heap HF.out 0
      have d1 : wr.cell? ⟨w.heap.size + 1, 1, none⟩ = some (.int .i64 0) := Lib.cell_of_heap HF.out 1
      have d2 : wr.cell? ⟨w.heap.size + 1, 2, none⟩ = some (.int .i64 0) := Lib.cell_of_heap HF.out 2
      have HZ3 := hide (Wf.set_block (Wf.set_block (Wf.set_block HF.out 0 (.int .i64 0)) 1 (.int .i64 0)) 2 (.int .i64 0))
      have HV := hide HZ.out.vok
      have hne : w.heap.size + 1 ≠ q := by
        intro e
        have h1 := HZ.out.box
        rw [← e, HF.out] at h1
        simp at h1
      obtain ⟨z3, hs3⟩ := HZ.out.other (IsV.flaw HF.out) hne (Nat.le_succ _) (((frq_set wr (w.heap.size + 1) 0 (.int .i64 0)).trans' (frq_set _ _ 1 (.int .i64 0))).trans' (frq_set _ _ 2 (.int .i64 0)))
      have HS3 := hide hs3
      clear hne hs3
      clear HF HZ
      go_wp2
      have g0 := Lib.cell_of_heap HZ3.out 0
      have g1 := Lib.cell_of_heap HZ3.out 1
      have g2 := Lib.cell_of_heap HZ3.out 2
      generalize (((wr.setCell ⟨w.heap.size + 1, 0, none⟩ (.int .i64 0)).setCell ⟨w.heap.size + 1, 1, none⟩ (.int .i64 0)).setCell ⟨w.heap.size + 1, 2, none⟩ (.int .i64 0)) = w4 at *
      (try simp only [Exit.inBlock, Exit.then])
      refine bodyPost_ret (v := .tuple #[.pointer (some ⟨q, 0, none⟩), .agg #[.int .i64 0, .int .i64 0, .int .i64 0]]) (by simp [results, Tryz.results64, go_sem, g0, g1, g2]) rfl ?_
      exact ⟨Or.inl ⟨q, z3, HV.out, rfl, HS3.out⟩, HS3.out.bel⟩
end Go.Proofs.YtdpmjaelbjjanaaGreat

namespace Go.Proofs.YtdpmjaelbjjanaaGreat
open Go.RowKit Go.Maps
set_option linter.unusedVariables false
set_option linter.unusedSimpArgs false

theorem at_le {x : Wf.Sv} {s : Wf.Sp} {w : World} (h : Wf.SpAt w x s) (hR : s.Right) : Wf.NLe x 1000 := by
  have hm : s.merges.length ≤ 744 := Nat.le_trans hR.nm (by unfold Wf.roomM; split <;> omega)
  have ht : s.tokens.length ≤ 744 := Nat.le_trans hR.nt (by unfold Wf.roomT; split <;> omega)
  have h3 := hR.ns
  have h4 := hR.nc
  have h5 := hR.nj
  have e1 := h.ms.1
  have e2 := h.ts.1
  have e3 := h.ss.1
  have e4 := h.cs.1
  have e5 := h.js.1
  exact ⟨by omega, by omega, by omega, by omega, by omega⟩
/-- A region that draws its order, in whatever class of worlds. -/
theorem region_v {P : Program} {α : Type} (f : α → World) {id : Nat} {Q : Exit → Act → World → Prop} {a : Act} {w : World} {l : List Oper} (hm : P.follows .mixedOrders = true) (hB : Region.lexB .any l.toArray = true) (p0 : α) (h0 : w.drew = f p0)
    (h : wpQuiet P l.toArray (fun w' => ∃ p : α, w' = f p) (fun a' => ∀ w', (∃ p : α, w' = f p) → Q .normal a' w') l a) : (Code.region id l.toArray true).wp P Q a w :=
  wp_region_quiet (C := fun w' => ∃ p : α, w' = f p) hm hB ⟨p0, h0⟩ (by simpa using h)
/-- A world, and what holds of it. -/
structure Wc (M : World → Prop) where
  W : World
  h : M W
theorem Calls.toV {P : Program} {f : FuncId} {args : Array Value} {M : World → Prop} (K : ∀ W W', M W → Below W.heap.size W W' → M W') (p : Wc M) {v : Value} (h : Calls P f args p.W fun e w' => e = .returned v ∧ Below p.W.heap.size p.W w') : Calls P f args p.W fun e w' => e = .returned v ∧ ∃ p' : Wc M, w' = p'.W :=
  h.mono fun _ _ ⟨he, hb⟩ => ⟨he, ⟨_, K _ _ p.h hb⟩, rfl⟩

section
variable {w W : World} {q : Nat} {z : VV} {s : Wf.Sp} {n : Int}
theorem vsize_c (c7 : W.cell? ⟨q, 7, none⟩ = some (.int .i64 n)) : Calls Tryz.prog 126 #[.pointer (some ⟨q, 0, none⟩)] W fun e w' => e = .returned (.int .i64 n) ∧ w' = W := by
  go_enter Tryz.func126, Tryz.ntmps126
  go_wp2
  go_ret
  exact ⟨rfl, rfl⟩

/-- Is there a token? -/
def spcV (s : Wf.Sp) (id : Int) : Bool := s.specials.any (fun x => decide (x.1 = id))
theorem spc_iff {s : Wf.Sp} {id : Int} : spcV s id = true ↔ Mk.ik id ∈ Mk.ids s.specials := by
  unfold spcV Mk.ids
  rw [List.any_eq_true, List.mem_map]
  constructor
  · rintro ⟨x, hx, h⟩
    exact ⟨x, hx, by rw [of_decide_eq_true h]⟩
  · rintro ⟨x, hx, h⟩
    exact ⟨x, hx, decide_eq_true (Mk.ik_inj h)⟩
def hasV (s : Wf.Sp) (id : Int) : Bool := spcV s id || decide (0 ≤ id ∧ id < ((txT s).length : Int))

end

theorem below_drwV {W : World} : Below W.heap.size W W.drew := ⟨rfl, rfl, rfl, Nat.le_refl _, fun _ _ => rfl⟩
/-- What comes of New. -/
def NwV (s : Wf.Sp) (w : World) (e : Ending) (w' : World) : Prop :=
  ((Wf.rightB s = false ∧ e = .returned (.tuple #[.pointer none, .int .i64 0, .int .i64 1])) ∨
   (s.Right ∧ ((∃ q z, VOk s ∧ e = .returned (.tuple #[.pointer (some ⟨q, 0, none⟩), .int .i64 0, .int .i64 0]) ∧ StB w q 4 z s w') ∨ ∃ (p k : Nat) (er : Int), VBad s p k er ∧ e = .returned (.tuple #[.pointer none, .int .i64 k, .int .i64 er])))) ∧ Below w.heap.size w w'

set_option maxRecDepth 20000 in
set_option maxHeartbeats 8000000 in
theorem vnew_any (x : Wf.Sv) (s : Wf.Sp) (w : World) (h : Wf.SpAt w x s) :
    Calls Tryz.prog 33 #[.agg x.cs] w (NwV s w) := by
  have hlo := Wf.low_alloc w (.cells x.cs 81)
  have HI := hide (Wf.SpI.new h 81)
  have HC := hide (Wf.right_any x s _ HI.out.sp)
  have HB := hide hlo
  clear h hlo
  obtain ⟨y0, y1, y2, y3, y4, y5⟩ := HI.out.box
  obtain ⟨r, a1, n1, c1, a2, n2, c2, a3, n3, c3, a4, n4, c4, a5, n5, c5⟩ := x
  simp only at y0 y1 y2 y3 y4 y5
  cases hr : Wf.rightB s with
  | false =>
    have HR := hide hr
    rw [hr] at HC
    clear hr
    go_enter Tryz.func33, Tryz.ntmps33
    go_wp2_with fail
    refine (unhide HC).mono ?_
    rintro e w2 ⟨rfl, hb2⟩
    have HB2 := hide (HI.out.next hb2).bel
    clear hb2 HI HC HB y0 y1 y2 y3 y4 y5
    go_wp2
    (try simp only [Exit.inBlock, Exit.then])
    refine bodyPost_ret (v := .tuple #[.pointer none, .int .i64 0, .int .i64 1]) (by simp [results, Tryz.results33, go_sem]) rfl ?_
    exact ⟨Or.inl ⟨HR.out, rfl⟩, HB2.out⟩
  | true =>
    have HRT := hide ((Wf.rightB_iff s).1 hr)
    rw [hr] at HC
    clear hr
    go_enter Tryz.func33, Tryz.ntmps33
    go_wp2_with fail
    refine (unhide HC).mono ?_
    rintro e w2 ⟨rfl, hb2⟩
    replace HI := hide (HI.out.next hb2)
    clear hb2 HC HB y0 y1 y2 y3 y4 y5
    obtain ⟨y0, y1, y2, y3, y4, y5⟩ := HI.out.box
    simp only at y0 y1 y2 y3 y4 y5
    have HBU := hide (build_any _ s _ HI.out.sp HRT.out (at_le HI.out.sp HRT.out))
    go_wp2_with fail
    refine (unhide HBU).mono ?_
    rintro e w3 ⟨hP, hb3⟩
    rcases hP with ⟨q, z, hv, rfl, hz⟩ | ⟨p, k, er, hbad, rfl⟩
    · have hla := Wf.low_alloc w3 (.cells #[.int .i64 0, .int .i64 0, .int .i64 0] 121)
      have HZ := hide (((hz.base HI.out.bel).low hla).low below_drwV)
      have hfl := heap_alloc_new w3 (.cells #[.int .i64 0, .int .i64 0, .int .i64 0] 121)
      have x1 : (w3.alloc (.cells #[.int .i64 0, .int .i64 0, .int .i64 0] 121)).cell? ⟨w3.heap.size, 1, none⟩ = some (.int .i64 0) := Lib.cell_of_heap hfl 1
      have x2 : (w3.alloc (.cells #[.int .i64 0, .int .i64 0, .int .i64 0] 121)).cell? ⟨w3.heap.size, 2, none⟩ = some (.int .i64 0) := Lib.cell_of_heap hfl 2
      have HV := hide hv
      clear hv hz hla hfl hb3 HBU HI y0 y1 y2 y3 y4 y5
      go_wp2
      generalize w3.heap.size = bf at *
      generalize w3.alloc (.cells #[.int .i64 0, .int .i64 0, .int .i64 0] 121) = w4 at *
      go_region
      all_goals
        go_wp2
        (try simp only [Exit.inBlock, Exit.then])
        refine bodyPost_ret (v := .tuple #[.pointer (some ⟨q, 0, none⟩), .int .i64 0, .int .i64 0]) (by simp [results, Tryz.results33, go_sem]) rfl ?_
        exact ⟨Or.inr ⟨HRT.out, Or.inl ⟨q, z, HV.out, rfl, HZ.out⟩⟩, HZ.out.bel⟩
    · have hla := Wf.low_alloc w3 (.cells #[.int .i64 p, .int .i64 k, .int .i64 er] 121)
      have HB5 := hide ((HI.out.next hb3).next hla).bel
      have HB6 : Hid (Below w.heap.size w (w3.alloc (.cells #[.int .i64 p, .int .i64 k, .int .i64 er] 121)).drew) := hide (HB5.out.trans ⟨rfl, rfl, rfl, Nat.le_refl _, fun _ _ => rfl⟩)
      have hfl := heap_alloc_new w3 (.cells #[.int .i64 p, .int .i64 k, .int .i64 er] 121)
      have x1 : (w3.alloc (.cells #[.int .i64 p, .int .i64 k, .int .i64 er] 121)).cell? ⟨w3.heap.size, 1, none⟩ = some (.int .i64 k) := Lib.cell_of_heap hfl 1
      have x2 : (w3.alloc (.cells #[.int .i64 p, .int .i64 k, .int .i64 er] 121)).cell? ⟨w3.heap.size, 2, none⟩ = some (.int .i64 er) := Lib.cell_of_heap hfl 2
      have HBD := hide hbad
      clear hbad hla hfl hb3 HBU HI HB5 y0 y1 y2 y3 y4 y5
      go_wp2
      generalize w3.heap.size = bf at *
      generalize w3.alloc (.cells #[.int .i64 p, .int .i64 k, .int .i64 er] 121) = w4 at *
      go_region
      all_goals
        go_wp2
        (try simp only [Exit.inBlock, Exit.then])
        refine bodyPost_ret (v := .tuple #[.pointer none, .int .i64 k, .int .i64 er]) (by simp [results, Tryz.results33, go_sem]) rfl ?_
        exact ⟨Or.inr ⟨HRT.out, Or.inr ⟨p, k, er, HBD.out, rfl⟩⟩, HB6.out⟩

end Go.Proofs.YtdpmjaelbjjanaaGreat

namespace Go.Proofs.YtdpmjaelbjjanaaGreat
open Go.RowKit Go.Maps
set_option linter.unusedVariables false
set_option linter.unusedSimpArgs false
attribute [local go_sem ↓] Go.wp_at_zero Go.wp_at_succ

theorem RT.q {vb vm : Value} {tx : List ByteArray} {mg : List (Int × Int)} {W W' : World} {q : Nat} (h : RT vb vm tx mg W) {T : TypeId} {cs : Array Value} (hb : W.heap[q]? = some (.cells cs T (0, 0))) (h1 : T ≠ 9) (h2 : T ≠ 77) (hF : FrL [q] W W') : RT vb vm tx mg W' := by
  refine h.keptF hF (fun k hk hm => ?_) (fun k hk hm => ?_)
  · obtain rfl : k = q := by simpa using hm
    obtain ⟨c, f, e⟩ := Lib.ownsRow_kind h.rb k hk
    rw [hb] at e
    simp only [Option.some.injEq, Obj.cells.injEq] at e
    exact h1 e.2.1
  · obtain rfl : k = q := by simpa using hm
    obtain ⟨c, f, e⟩ := Lib.ownsRow_kind h.rm k hk
    rw [hb] at e
    simp only [Option.some.injEq, Obj.cells.injEq] at e
    exact h2 e.2.1

abbrev rz5 : Array Value := #[.slice none 0 0, .slice none 0 0, .slice none 0 0, .slice none 0 0, .slice none 0 0]
/-- What comes of the document's New. -/
def RnP (s : Wf.Sp) (x : Wf.Sv) (w : World) (e : Ending) (w' : World) : Prop :=
  ((∃ vb vm, VOk s ∧ e = .returned (.tuple #[.agg #[vb, vm, .slice x.a4 x.n4 x.c4, .slice x.a5 x.n5 x.c5, .slice x.a3 x.n3 x.c3], .int .i64 0, .int .i64 0, .int .i64 0]) ∧ RT vb vm (txT s) (mgT s) w') ∨
   ∃ (p k : Nat) (er : Int), VBad s p k er ∧ e = .returned (.tuple #[.agg rz5, .int .i64 (if p = 0 then 1 else 2), .int .i64 k, .int .i64 er])) ∧ Below w.heap.size w w'
/-- Where it stands. -/
structure RnM (w : World) (q r : Nat) (x : Wf.Sv) (s : Wf.Sp) (W : World) : Prop where
  bel : Below w.heap.size w W
  sp : Wf.SpAt W x s
  box : Wf.BxS q x W
  qlt : q < W.heap.size
  res : W.heap[r]? = some (.cells #[.slice none 0 0, .slice none 0 0, .slice none 0 0, .slice none 0 0, .slice none 0 0] 38 (0, 0))
  rge : w.heap.size ≤ r
theorem RnM.next {w : World} {q r : Nat} {x : Wf.Sv} {s : Wf.Sp} {W W' : World} (h : RnM w q r x s W) (hb : Below W.heap.size W W') : RnM w q r x s W' :=
  ⟨h.bel.trans (hb.mono h.bel.size), h.sp.kept hb, h.box.kept h.qlt hb, Nat.lt_of_lt_of_le h.qlt hb.size, by rw [hb.block _ (Array.getElem?_eq_some_iff.1 h.res).1]; exact h.res, h.rge⟩
theorem below_drw {W : World} : Below W.heap.size W W.drew := ⟨rfl, rfl, rfl, Nat.le_refl _, fun _ _ => rfl⟩
/-- Nothing is put into the result's box. -/
theorem RnM.empt {w : World} {q r : Nat} {x : Wf.Sv} {s : Wf.Sp} {W : World} (h : RnM w q r x s W) : Below w.heap.size w (((((W.setCell ⟨r, 0, none⟩ (.slice none 0 0)).setCell ⟨r, 1, none⟩ (.slice none 0 0)).setCell ⟨r, 2, none⟩ (.slice none 0 0)).setCell ⟨r, 3, none⟩ (.slice none 0 0)).setCell ⟨r, 4, none⟩ (.slice none 0 0)) ∧
    (((((W.setCell ⟨r, 0, none⟩ (.slice none 0 0)).setCell ⟨r, 1, none⟩ (.slice none 0 0)).setCell ⟨r, 2, none⟩ (.slice none 0 0)).setCell ⟨r, 3, none⟩ (.slice none 0 0)).setCell ⟨r, 4, none⟩ (.slice none 0 0)).heap[r]? = some (.cells rz5 38 (0, 0)) := by
  have z := Wf.set_block (Wf.set_block (Wf.set_block (Wf.set_block (Wf.set_block h.res 0 (.slice none 0 0)) 1 (.slice none 0 0)) 2 (.slice none 0 0)) 3 (.slice none 0 0)) 4 (.slice none 0 0)
  refine ⟨?_, by simpa using z⟩
  exact ((((h.bel.setCell (p := ⟨r, 0, none⟩) h.rge _).setCell (p := ⟨r, 1, none⟩) h.rge _).setCell (p := ⟨r, 2, none⟩) h.rge _).setCell (p := ⟨r, 3, none⟩) h.rge _).setCell (p := ⟨r, 4, none⟩) h.rge _

set_option maxRecDepth 20000 in
set_option maxHeartbeats 8000000 in
theorem rnew10_any (x : Wf.Sv) (s : Wf.Sp) (w : World) (h : Wf.SpAt w x s) (hR : s.Right) :
    Calls Tryz.prog 71 #[.agg x.cs] w (RnP s x w) := by
  have hn := at_le h hR
  have HIP : Hid (Mk.ChkR s.specials s.specials.length 0 → ∀ k, k < s.specials.length → 0 ≤ (Mk.gS s.specials k).1) := hide (fun hc k hk => ((hc.1) k hk).1.1)
  have hl1 := Wf.low_alloc w (.cells x.cs 81)
  have hl2 := Wf.low_alloc (w.alloc (.cells x.cs 81)) (.cells #[.slice none 0 0, .slice none 0 0, .slice none 0 0, .slice none 0 0, .slice none 0 0] 38)
  have hi := (Wf.SpI.new h 81).next hl2
  have hres := heap_alloc_new (w.alloc (.cells x.cs 81)) (.cells #[.slice none 0 0, .slice none 0 0, .slice none 0 0, .slice none 0 0, .slice none 0 0] 38)
  have HM : Hid (RnM w w.heap.size (w.heap.size + 1) x s ((w.alloc (.cells x.cs 81)).alloc (.cells #[.slice none 0 0, .slice none 0 0, .slice none 0 0, .slice none 0 0, .slice none 0 0] 38))) := hide ⟨hi.bel, hi.sp, hi.box, hi.lt, by simpa using hres, by omega⟩
  have HNL := hide hn
  have HTK := hide (right_toks hR)
  have HLN := hide h.ss.1
  have hn3 := hn.n3
  clear h hR hn hl1 hl2 hi hres
  obtain ⟨y0, y1, y2, y3, y4, y5⟩ := HM.out.box
  have HC := hide (rload_any (gx x) (gsp s) _ (gsp_at HM.out.sp (Nat.le_trans HNL.out.n1 (by omega)) (Nat.le_trans HNL.out.n2 (by omega))) (Nat.le_trans HNL.out.n1 (by omega)) (Nat.le_trans HNL.out.n2 (by omega)) HTK.out)
  obtain ⟨r, a1, n1, c1, a2, n2, c2, a3, n3, c3, a4, n4, c4, a5, n5, c5⟩ := x
  simp only at y0 y1 y2 y3 y4 y5 HLN hn3
  go_enter Tryz.func71, Tryz.ntmps71
  go_wp2_with fail
  refine (unhide HC).mono ?_
  rintro e w2 ⟨⟨k, c, vb, vm, rfl, hok, hcase, hRT⟩, hb2⟩
  obtain ⟨e1, d1, hv1⟩ := row_form hRT.rb
  obtain ⟨e2, d2, hv2⟩ := row_form hRT.rm
  subst hv1 hv2
  replace HM := hide (HM.out.next hb2)
  clear hb2 HC y0 y1 y2 y3 y4 y5
  have hla := Wf.low_alloc w2 (.cells #[.slice e1 (ldS (gsp s) k).1.length d1, .slice e2 (ldS (gsp s) k).2.length d2] 34)
  have hRT2 := hRT.kept hla
  have htab := heap_alloc_new w2 (.cells #[.slice e1 (ldS (gsp s) k).1.length d1, .slice e2 (ldS (gsp s) k).2.length d2] 34)
  replace HM := hide (HM.out.next hla)
  clear hla hRT
  by_cases hc0 : c = 0
  rotate_left
  · have hbad : VBad s 0 k c := by
      rcases hcase with ⟨h1, h2, h3⟩ | ⟨_, h2⟩
      · exact Or.inl ⟨rfl, h1, hok, by rw [← h2]; exact h3, h2⟩
      · exact absurd h2 hc0
    have HBD := hide hbad
    have hcb : (c != 0) = true := by simpa using hc0
    clear hbad hc0 hcase hok hRT2 htab
    generalize (ldS (gsp s) k).1.length = N1 at *
    generalize (ldS (gsp s) k).2.length = N2 at *
    obtain ⟨hB5, hZ5⟩ := HM.out.empt
    have HB5 := hide hB5
    have HZ5 := hide hZ5
    have x0 := Lib.frozen_of_heap HM.out.res 0
    have x1 := Lib.frozen_of_heap HM.out.res 1
    have x2 := Lib.frozen_of_heap HM.out.res 2
    have x3 := Lib.frozen_of_heap HM.out.res 3
    have x4 := Lib.frozen_of_heap HM.out.res 4
    have z0 := Lib.cell_of_heap HM.out.res 0
    have z1 := Lib.cell_of_heap HM.out.res 1
    have z2 := Lib.cell_of_heap HM.out.res 2
    have z3 := Lib.cell_of_heap HM.out.res 3
    have z4 := Lib.cell_of_heap HM.out.res 4
    clear hB5 hZ5 HM
    go_wp2
    generalize w2.alloc (.cells #[.slice e1 N1 d1, .slice e2 N2 d2] 34) = w3 at *
    have g0 := Lib.cell_of_heap HZ5.out 0
    have g1 := Lib.cell_of_heap HZ5.out 1
    have g2 := Lib.cell_of_heap HZ5.out 2
    have g3 := Lib.cell_of_heap HZ5.out 3
    have g4 := Lib.cell_of_heap HZ5.out 4
    generalize (((((w3.setCell ⟨w.heap.size + 1, 0, none⟩ (.slice none 0 0)).setCell ⟨w.heap.size + 1, 1, none⟩ (.slice none 0 0)).setCell ⟨w.heap.size + 1, 2, none⟩ (.slice none 0 0)).setCell ⟨w.heap.size + 1, 3, none⟩ (.slice none 0 0)).setCell ⟨w.heap.size + 1, 4, none⟩ (.slice none 0 0)) = w4 at *
    (try simp only [Exit.inBlock, Exit.then])
    refine bodyPost_ret (v := .tuple #[.agg rz5, .int .i64 1, .int .i64 k, .int .i64 c]) (by simp [results, Tryz.results71, go_sem, g0, g1, g2, g3, g4]) rfl ?_
    exact ⟨Or.inr ⟨0, k, c, HBD.out, rfl⟩, HB5.out⟩
  subst hc0
  obtain rfl : k = nT s := by
    rcases hcase with ⟨_, h2, h3⟩ | ⟨h1, _⟩
    · exact absurd rfl h3
    · exact h1
  have HOKT : Hid (okT s) := hide hok
  have HRT : Hid (RT (.slice e1 (txT s).length d1) (.slice e2 (mgT s).length d2) (txT s) (mgT s) (w2.alloc (.cells #[.slice e1 (txT s).length d1, .slice e2 (mgT s).length d2] 34))) := hide hRT2
  have HTB : Hid ((w2.alloc (.cells #[.slice e1 (txT s).length d1, .slice e2 (mgT s).length d2] 34)).heap[w2.heap.size]? = some (.cells #[.slice e1 (txT s).length d1, .slice e2 (mgT s).length d2] 34 (0, 0))) := hide htab
  have HM2 : Hid (RnM w w.heap.size (w.heap.size + 1) ⟨r, a1, n1, c1, a2, n2, c2, a3, n3, c3, a4, n4, c4, a5, n5, c5⟩ s (w2.alloc (.cells #[.slice e1 (txT s).length d1, .slice e2 (mgT s).length d2] 34))) := HM
  clear hcase hok hRT2 htab HM
  have hfold1 : (ldS (gsp s) (nT s)).1 = txT s := rfl
  have hfold2 : (ldS (gsp s) (nT s)).2 = mgT s := rfl
  rw [hfold1, hfold2]
  clear hfold1 hfold2
  obtain ⟨y0, y1, y2, y3, y4, y5⟩ := HM2.out.box
  simp only at y0 y1 y2 y3 y4 y5
  have hRC : Mk.RdS (w2.alloc (.cells #[.slice e1 (txT s).length d1, .slice e2 (mgT s).length d2] 34)) a3 s.specials.length s.specials := by
    have := mk_at HM2.out.sp.ss
    rw [← HLN.out] at this
    exact this
  have HCK := hide (Mk.rchk_any (cap := c3) hRC (by rw [HLN.out]; exact hn3))
  rw [HLN.out] at HCK
  clear hRC
  generalize hT1 : (txT s).length = N1 at *
  generalize hT2 : (mgT s).length = N2 at *
  have HT1 := hide hT1
  clear hT1 hT2
  go_wp2_with fail
  generalize w2.heap.size = bt at *
  generalize w2.alloc (.cells #[.slice e1 N1 d1, .slice e2 N2 d2] 34) = w3 at *
  refine (unhide HCK).mono ?_
  rintro e w4 ⟨⟨k, er, rfl, hck⟩, hb4⟩
  have hltb := (Array.getElem?_eq_some_iff.1 HTB.out).1
  replace HM2 := hide (HM2.out.next hb4)
  replace HRT := hide (HRT.out.kept hb4)
  replace HTB : Hid (w4.heap[bt]? = some (.cells #[.slice e1 N1 d1, .slice e2 N2 d2] 34 (0, 0))) := hide (by rw [hb4.block _ hltb]; exact HTB.out)
  clear hltb hb4 HCK y0 y1 y2 y3 y4 y5
  by_cases her : er = 0
  rotate_left
  · have HBD : Hid (VBad s 1 k er) := hide (Or.inr (Or.inl ⟨rfl, HOKT.out, hck, her⟩))
    have hcb : (er != 0) = true := by simpa using her
    clear her hck
    obtain ⟨hB5, hZ5⟩ := HM2.out.empt
    have HB5 := hide hB5
    have HZ5 := hide hZ5
    have x0 := Lib.frozen_of_heap HM2.out.res 0
    have x1 := Lib.frozen_of_heap HM2.out.res 1
    have x2 := Lib.frozen_of_heap HM2.out.res 2
    have x3 := Lib.frozen_of_heap HM2.out.res 3
    have x4 := Lib.frozen_of_heap HM2.out.res 4
    have z0 := Lib.cell_of_heap HM2.out.res 0
    have z1 := Lib.cell_of_heap HM2.out.res 1
    have z2 := Lib.cell_of_heap HM2.out.res 2
    have z3 := Lib.cell_of_heap HM2.out.res 3
    have z4 := Lib.cell_of_heap HM2.out.res 4
    clear hB5 hZ5 HM2 HRT HTB
    go_wp2
    have g0 := Lib.cell_of_heap HZ5.out 0
    have g1 := Lib.cell_of_heap HZ5.out 1
    have g2 := Lib.cell_of_heap HZ5.out 2
    have g3 := Lib.cell_of_heap HZ5.out 3
    have g4 := Lib.cell_of_heap HZ5.out 4
    generalize (((((w4.setCell ⟨w.heap.size + 1, 0, none⟩ (.slice none 0 0)).setCell ⟨w.heap.size + 1, 1, none⟩ (.slice none 0 0)).setCell ⟨w.heap.size + 1, 2, none⟩ (.slice none 0 0)).setCell ⟨w.heap.size + 1, 3, none⟩ (.slice none 0 0)).setCell ⟨w.heap.size + 1, 4, none⟩ (.slice none 0 0)) = w5 at *
    (try simp only [Exit.inBlock, Exit.then])
    refine bodyPost_ret (v := .tuple #[.agg rz5, .int .i64 2, .int .i64 k, .int .i64 er]) (by simp [results, Tryz.results71, go_sem, g0, g1, g2, g3, g4]) rfl ?_
    exact ⟨Or.inr ⟨1, k, er, HBD.out, rfl⟩, HB5.out⟩
  subst her
  have HOKM : Hid (okM s) := hide (by
    rcases hck.2 with h1 | ⟨_, h1⟩
    · obtain rfl := h1.1
      exact hck
    · exact absurd rfl (Mk.err_ne h1))
  have HI0 : Hid (∀ k, k < s.specials.length → 0 ≤ (Mk.gS s.specials k).1) := hide (HIP.out HOKM.out)
  clear hck
  go_wp2
  go_loopw [9] (fun i wr => ∃ k : Nat, i = .int .i64 k ∧ k ≤ n3 ∧ Hid (okI s k) ∧ Hid (RnM w w.heap.size (w.heap.size + 1) ⟨r, a1, n1, c1, a2, n2, c2, a3, n3, c3, a4, n4, c4, a5, n5, c5⟩ s wr) ∧ Hid (RT (.slice e1 N1 d1) (.slice e2 N2 d2) (txT s) (mgT s) wr) ∧ Hid (wr.heap[bt]? = some (.cells #[.slice e1 N1 d1, .slice e2 N2 d2] 34 (0, 0)))) (fun i _ => n3 - (intOf i).toNat)
  case atStart => exact ⟨0, rfl, Nat.zero_le _, hide (fun j hj => by omega), HM2, HRT, HTB⟩
  case round =>
    obtain ⟨k, rfl, hk, HI, HM3, HRT3, HTB3⟩ := hrel
    clear HM2 HRT HTB
    obtain ⟨y0, y1, y2, y3, y4, y5⟩ := HM3.out.box
    simp only at y0 y1 y2 y3 y4 y5
    have t0 : wr.cell? ⟨bt, 0, none⟩ = some (.slice e1 N1 d1) := Lib.cell_of_heap HTB3.out 0
    have t1 : wr.cell? ⟨bt, 1, none⟩ = some (.slice e2 N2 d2) := Lib.cell_of_heap HTB3.out 1
    by_cases hlt : k < n3
    · have hk0 : (0 : Int) ≤ (k : Int) := by omega
      have hk1 : (k : Int) < (n3 : Int) := by omega
      rcases HM3.out.sp.ss.2 with h0 | ⟨b, off, ha, hbl, hc⟩
      · simp only at h0; omega
      simp only at ha hc
      subst ha
      have k0 := (hc k hlt).1
      have hgS : Wf.gS s.specials k = Mk.gS s.specials k := rfl
      rw [hgS] at k0
      clear hc hgS hbl
      generalize hid : (Mk.gS s.specials k).1 = id at *
      have HID := hide hid
      have HLT := hide hlt
      clear hid
      by_cases hlow : id < (N1 : Int)
      · have HBD : Hid (VBad s 2 k 4) := hide (Or.inr (Or.inr ⟨rfl, HOKT.out, HOKM.out, by rw [HLN.out]; exact HLT.out, HI.out, by rw [HID.out, HT1.out]; exact hlow, rfl⟩))
        have hd : decide (id < (N1 : Int)) = true := by simp [hlow]
        replace HM3 := hide (HM3.out.next below_drw)
        obtain ⟨hB5, hZ5⟩ := HM3.out.empt
        have HB5 := hide hB5
        have HZ5 := hide hZ5
        have x0 := Lib.frozen_of_heap HM3.out.res 0
        have x1 := Lib.frozen_of_heap HM3.out.res 1
        have x2 := Lib.frozen_of_heap HM3.out.res 2
        have x3 := Lib.frozen_of_heap HM3.out.res 3
        have x4 := Lib.frozen_of_heap HM3.out.res 4
        have z0 := Lib.cell_of_heap HM3.out.res 0
        have z1 := Lib.cell_of_heap HM3.out.res 1
        have z2 := Lib.cell_of_heap HM3.out.res 2
        have z3 := Lib.cell_of_heap HM3.out.res 3
        have z4 := Lib.cell_of_heap HM3.out.res 4
        clear hB5 hZ5 HM3 HRT3 HTB3
        go_wp2
        go_region
        all_goals
          generalize wr.drew = wd at *
          go_wp2
          have g0 := Lib.cell_of_heap HZ5.out 0
          have g1 := Lib.cell_of_heap HZ5.out 1
          have g2 := Lib.cell_of_heap HZ5.out 2
          have g3 := Lib.cell_of_heap HZ5.out 3
          have g4 := Lib.cell_of_heap HZ5.out 4
          generalize (((((wd.setCell ⟨w.heap.size + 1, 0, none⟩ (.slice none 0 0)).setCell ⟨w.heap.size + 1, 1, none⟩ (.slice none 0 0)).setCell ⟨w.heap.size + 1, 2, none⟩ (.slice none 0 0)).setCell ⟨w.heap.size + 1, 3, none⟩ (.slice none 0 0)).setCell ⟨w.heap.size + 1, 4, none⟩ (.slice none 0 0)) = w5 at *
          (try simp only [Exit.inBlock, Exit.then])
          refine bodyPost_ret (v := .tuple #[.agg rz5, .int .i64 2, .int .i64 k, .int .i64 4]) (by simp [results, Tryz.results71, go_sem, g0, g1, g2, g3, g4]) rfl ?_
          exact ⟨Or.inr ⟨2, k, 4, HBD.out, rfl⟩, HB5.out⟩
      · have hd : decide (id < (N1 : Int)) = false := by simp; omega
        have HI2 : Hid (okI s (k + 1)) := hide (fun j hj => by
          rcases (show j < k ∨ j = k by omega) with h | rfl
          · exact HI.out j h
          · rw [HID.out, HT1.out]; omega)
        replace HM3 := hide (HM3.out.next below_drw)
        replace HRT3 := hide (HRT3.out.kept below_drw)
        replace HTB3 : Hid (wr.drew.heap[bt]? = some (.cells #[.slice e1 N1 d1, .slice e2 N2 d2] 34 (0, 0))) := HTB3
        clear hlow
        go_wp2
        go_region
        all_goals
          go_wp2
          first
            | exact ⟨⟨k + 1, by go_num, by omega, HI2, HM3, HRT3, HTB3⟩, by simp [intOf]; omega⟩
            | (go_roundw
               case rel => exact ⟨k + 1, by go_num, by omega, HI2, HM3, HRT3, HTB3⟩
               case measure => simp [intOf]; omega)
    · obtain rfl : k = n3 := by omega
      have HV : Hid (VOk s) := hide ⟨HOKT.out, HOKM.out, by rw [HLN.out]; exact HI.out⟩
      have f0 := Lib.frozen_of_heap HM3.out.res 0
      have f1 := Lib.frozen_of_heap HM3.out.res 1
      have f2 := Lib.frozen_of_heap HM3.out.res 2
      have f3 := Lib.frozen_of_heap HM3.out.res 3
      have f4 := Lib.frozen_of_heap HM3.out.res 4
      have z0 : wr.cell? ⟨w.heap.size + 1, 0, none⟩ = some (.slice none 0 0) := Lib.cell_of_heap HM3.out.res 0
      have z1 : wr.cell? ⟨w.heap.size + 1, 1, none⟩ = some (.slice none 0 0) := Lib.cell_of_heap HM3.out.res 1
      have z2 : wr.cell? ⟨w.heap.size + 1, 2, none⟩ = some (.slice none 0 0) := Lib.cell_of_heap HM3.out.res 2
      have z3 : wr.cell? ⟨w.heap.size + 1, 3, none⟩ = some (.slice none 0 0) := Lib.cell_of_heap HM3.out.res 3
      have z4 : wr.cell? ⟨w.heap.size + 1, 4, none⟩ = some (.slice none 0 0) := Lib.cell_of_heap HM3.out.res 4
      have hz5 := Wf.set_block (Wf.set_block (Wf.set_block (Wf.set_block (Wf.set_block HM3.out.res 0 (.slice e1 N1 d1)) 1 (.slice e2 N2 d2)) 2 (.slice a4 n4 c4)) 3 (.slice a5 n5 c5)) 4 (.slice a3 k c3)
      have HZ5 := hide hz5
      have hF : FrL [w.heap.size + 1] wr (((((wr.setCell ⟨w.heap.size + 1, 0, none⟩ (.slice e1 N1 d1)).setCell ⟨w.heap.size + 1, 1, none⟩ (.slice e2 N2 d2)).setCell ⟨w.heap.size + 1, 2, none⟩ (.slice a4 n4 c4)).setCell ⟨w.heap.size + 1, 3, none⟩ (.slice a5 n5 c5)).setCell ⟨w.heap.size + 1, 4, none⟩ (.slice a3 k c3)) :=
        ((((frq_set _ _ _ _).trans' (frq_set _ _ _ _)).trans' (frq_set _ _ _ _)).trans' (frq_set _ _ _ _)).trans' (frq_set _ _ _ _)
      have HRF := hide (HRT3.out.q HM3.out.res (by decide) (by decide) hF)
      have HBF := hide (HM3.out.bel.trans (frq_below hF HM3.out.bel.size (Nat.le_succ _)))
      clear hz5 hF HM3 HRT3 HTB3
      go_wp2
      have g0 := Lib.cell_of_heap HZ5.out 0
      have g1 := Lib.cell_of_heap HZ5.out 1
      have g2 := Lib.cell_of_heap HZ5.out 2
      have g3 := Lib.cell_of_heap HZ5.out 3
      have g4 := Lib.cell_of_heap HZ5.out 4
      generalize (((((wr.setCell ⟨w.heap.size + 1, 0, none⟩ (.slice e1 N1 d1)).setCell ⟨w.heap.size + 1, 1, none⟩ (.slice e2 N2 d2)).setCell ⟨w.heap.size + 1, 2, none⟩ (.slice a4 n4 c4)).setCell ⟨w.heap.size + 1, 3, none⟩ (.slice a5 n5 c5)).setCell ⟨w.heap.size + 1, 4, none⟩ (.slice a3 k c3)) = w5 at *
      (try simp only [Exit.inBlock, Exit.then])
      refine bodyPost_ret (v := .tuple #[.agg #[.slice e1 N1 d1, .slice e2 N2 d2, .slice a4 n4 c4, .slice a5 n5 c5, .slice a3 k c3], .int .i64 0, .int .i64 0, .int .i64 0]) (by simp [results, Tryz.results71, go_sem, g0, g1, g2, g3, g4]) rfl ?_
      exact ⟨Or.inl ⟨_, _, HV.out, rfl, HRF.out⟩, HBF.out⟩
end Go.Proofs.YtdpmjaelbjjanaaGreat

namespace Go.Proofs.YtdpmjaelbjjanaaGreat
open Go.RowKit Go.Maps
set_option linter.unusedVariables false
set_option linter.unusedSimpArgs false

/-- The mark of a number, or 0. -/
def mkF (L : List (Int × ByteArray)) (id : Int) : Int := match L.findIdx? (fun x => decide (x.1 = id)) with | some i => -1 - (i : Int) | none => 0
theorem mkF_at {L : List (Int × ByteArray)} {id : Int} {k : Nat} (hk : k < L.length) (h : ∀ j, j < k → (Mk.gS L j).1 ≠ id) (h1 : (Mk.gS L k).1 = id) : mkF L id = -1 - (k : Int) := by
  have hg : ∀ j (hj : j < L.length), Mk.gS L j = L[j] := fun j hj => by simp [Mk.gS, hj]
  have : L.findIdx? (fun x => decide (x.1 = id)) = some k := by
    rw [List.findIdx?_eq_some_iff_getElem]
    refine ⟨hk, by rw [hg k hk] at h1; simpa using h1, fun j hj => ?_⟩
    have := h j hj
    rw [hg j (by omega)] at this
    simpa using this
  simp [mkF, this]
theorem mkF_no {L : List (Int × ByteArray)} {id : Int} (h : ∀ j, j < L.length → (Mk.gS L j).1 ≠ id) : mkF L id = 0 := by
  have : L.findIdx? (fun x => decide (x.1 = id)) = none := by
    rw [List.findIdx?_eq_none_iff]
    intro x hx
    obtain ⟨j, hj, rfl⟩ := List.mem_iff_getElem.1 hx
    have := h j hj
    simpa [Mk.gS, hj] using this
  simp [mkF, this]
theorem mkF_cases (L : List (Int × ByteArray)) (id : Int) : (∃ k, k < L.length ∧ (∀ j, j < k → (Mk.gS L j).1 ≠ id) ∧ (Mk.gS L k).1 = id ∧ mkF L id = -1 - (k : Int)) ∨ ((∀ j, j < L.length → (Mk.gS L j).1 ≠ id) ∧ mkF L id = 0) := by
  by_cases h : ∃ k, k < L.length ∧ (Mk.gS L k).1 = id
  · have h2 : ∃ k, (k < L.length ∧ (Mk.gS L k).1 = id) ∧ ∀ j, j < k → ¬ (j < L.length ∧ (Mk.gS L j).1 = id) := by
      obtain ⟨k, hk⟩ := h
      induction k using Nat.strongRecOn with
      | ind k ih =>
        by_cases hc : ∃ j, j < k ∧ (j < L.length ∧ (Mk.gS L j).1 = id)
        · obtain ⟨j, hj, hp⟩ := hc
          exact ih j hj hp
        · exact ⟨k, hk, fun j hj hp => hc ⟨j, hj, hp⟩⟩
    obtain ⟨k, ⟨hk, h1⟩, h3⟩ := h2
    have h4 : ∀ j, j < k → (Mk.gS L j).1 ≠ id := fun j hj e => h3 j hj ⟨by omega, e⟩
    exact Or.inl ⟨k, hk, h4, h1, mkF_at hk h4 h1⟩
  · have h4 : ∀ j, j < L.length → (Mk.gS L j).1 ≠ id := fun j hj e => h ⟨j, hj, e⟩
    exact Or.inr ⟨h4, mkF_no h4⟩
/-- The document's vocabulary. -/
abbrev dvo (vb vm : Value) (x : Wf.Sv) : Value := .agg #[vb, vm, .slice x.a4 x.n4 x.c4, .slice x.a5 x.n5 x.c5, .slice x.a3 x.n3 x.c3]

set_option maxRecDepth 20000 in
set_option maxHeartbeats 4000000 in
theorem rmark10_any (vb vm v4 v5 : Value) {ao : Option Addr} {n cap : Nat} {L : List (Int × ByteArray)} {w : World} (h : Mk.RdS w ao n L) (hn : n ≤ 1000000) (id : Int) :
    Calls Tryz.prog 56 #[.agg #[vb, vm, v4, v5, .slice ao n cap], .int .i64 id] w fun e w' => e = .returned (.int .i64 (mkF L id)) ∧ Below w.heap.size w w' := by
  have HR := hide h
  have HLn := hide h.1
  have hl1 := Wf.low_alloc w (.cells #[vb, vm, v4, v5, .slice ao n cap] 38)
  have hbx : (w.alloc (.cells #[vb, vm, v4, v5, .slice ao n cap] 38)).cell? ⟨w.heap.size, 4, none⟩ = some (.slice ao n cap) := Lib.cell_of_heap (heap_alloc_new w _) 4
  have HL1 := hide hl1
  have HBX := hide hbx
  clear h hl1 hbx
  go_enter Tryz.func56, Tryz.ntmps56
  go_wp2
  go_loopw [5] (fun i wr => ∃ (k : Nat), i = .int .i64 k ∧ k ≤ n ∧ Hid (∀ j, j < k → (Mk.gS L j).1 ≠ id) ∧ Hid (wr.cell? ⟨w.heap.size, 4, none⟩ = some (.slice ao n cap)) ∧ Hid (Below w.heap.size w wr)) (fun i _ => n - (intOf i).toNat)
  case atStart => exact ⟨0, rfl, Nat.zero_le _, hide (fun j hj => by omega), HBX, HL1⟩
  case round =>
    obtain ⟨k, rfl, hkn, HA, HC, HB⟩ := hrel
    clear HL1 HBX
    have c0 := HC.out
    by_cases hlt : k < n
    · have hk0 : (0 : Int) ≤ (k : Int) := by omega
      have hk1 : (k : Int) < (n : Int) := by omega
      rcases HR.out.2 with h0 | ⟨b, off, rfl, hbl0, hc⟩
      · omega
      have c1 := (HB.out.cell (p := ⟨b, _, none⟩) hbl0).trans (hc k hlt).1
      clear hc
      generalize hgx : (Mk.gS L k).1 = x at *
      have HX2 := hide hgx
      clear hgx
      by_cases hz : x = id
      · subst hz
        go_wp2
        go_ret
        exact ⟨(by rw [mkF_at (k := k) (by rw [HLn.out]; exact hlt) HA.out HX2.out]; rfl), HB.out⟩
      · have hz2 : decide (x = id) = false := decide_eq_false hz
        go_wp2
        refine ⟨⟨k + 1, by go_num, by omega, hide (fun j hj => ?_), HC, HB⟩, by simp [intOf]; omega⟩
        by_cases e : j = k
        · subst e; rw [HX2.out]; exact hz
        · exact HA.out j (by omega)
    · obtain rfl : n = k := by omega
      go_wp2
      go_ret
      exact ⟨(by rw [mkF_no (by rw [HLn.out]; exact HA.out)]; rfl), HB.out⟩

/-- Is there a token? (By the mark.) -/
def hasD (L : List (Int × ByteArray)) (T : Nat) (id : Int) : Bool := decide (0 ≤ id ∧ id < (T : Int)) || decide (mkF L id < 0)
theorem mkF_lo (L : List (Int × ByteArray)) (id : Int) (hl : L.length ≤ 1000000) : -1000001 ≤ mkF L id ∧ mkF L id ≤ 0 := by
  rcases mkF_cases L id with ⟨k, hk, _, _, e⟩ | ⟨_, e⟩ <;> rw [e] <;> omega

set_option maxRecDepth 20000 in
set_option maxHeartbeats 4000000 in
theorem rhas10_any {vb vm : Value} (v4 v5 : Value) {tx : List ByteArray} {mg : List (Int × Int)} {ao : Option Addr} {n cap : Nat} {L : List (Int × ByteArray)} {w : World} (hT : RT vb vm tx mg w) (h : Mk.RdS w ao n L) (hn : n ≤ 1000000) (id : Int) :
    Calls Tryz.prog 27 #[.agg #[vb, vm, v4, v5, .slice ao n cap], .int .i64 id] w fun e w' => e = .returned (.bool (hasD L tx.length id)) ∧ Below w.heap.size w w' := by
  have hl1 := Wf.low_alloc w (.cells #[vb, vm, v4, v5, .slice ao n cap] 38)
  have hbx := heap_alloc_new w (.cells #[vb, vm, v4, v5, .slice ao n cap] 38)
  have HK1 := hide (rhas_any (hT.kept hl1) id)
  have HS := hide h
  have HL1 := hide hl1
  have HBX := hide hbx
  have HLO := hide (mkF_lo L id (by rw [h.1]; exact hn))
  have HU : Hid (hasD L tx.length id = (decide (0 ≤ id ∧ id < (tx.length : Int)) || decide (mkF L id < 0))) := hide rfl
  obtain ⟨aB, cB, rfl⟩ := row_form hT.rb
  obtain ⟨aM, cM, rfl⟩ := row_form hT.rm
  clear hT h hl1 hbx
  generalize hasD L tx.length id = r at *
  generalize decide (0 ≤ id ∧ id < (tx.length : Int)) = b at *
  go_enter Tryz.func27, Tryz.ntmps27
  cases b with
  | true =>
    go_wp2_with fail
    refine (unhide HK1).mono ?_
    rintro e w2 ⟨rfl, hb⟩
    have HB := hide (HL1.out.trans (hb.mono HL1.out.size))
    clear hb
    go_wp2
    go_ret
    exact ⟨(by rw [HU.out]; rfl), HB.out⟩
  | false =>
    go_wp2_with fail
    refine (unhide HK1).mono ?_
    rintro e w2 ⟨rfl, hb⟩
    have hB := HL1.out.trans (hb.mono HL1.out.size)
    have HB := hide hB
    have c0 : w2.heap[w.heap.size]? = some (.cells #[.slice aB tx.length cB, .slice aM mg.length cM, v4, v5, .slice ao n cap] 38 (0, 0)) := by rw [hb.block _ (by simp)]; exact HBX.out
    have HK2 := hide (rmark10_any (.slice aB tx.length cB) (.slice aM mg.length cM) v4 v5 (HS.out.kept hB) hn id (cap := cap))
    have d0 : w2.cell? ⟨w.heap.size, 0, none⟩ = some (.slice aB tx.length cB) := Lib.cell_of_heap c0 0
    have d1 : w2.cell? ⟨w.heap.size, 1, none⟩ = some (.slice aM mg.length cM) := Lib.cell_of_heap c0 1
    have d2 : w2.cell? ⟨w.heap.size, 2, none⟩ = some v4 := Lib.cell_of_heap c0 2
    have d3 : w2.cell? ⟨w.heap.size, 3, none⟩ = some v5 := Lib.cell_of_heap c0 3
    have d4 : w2.cell? ⟨w.heap.size, 4, none⟩ = some (.slice ao n cap) := Lib.cell_of_heap c0 4
    clear hb hB HK1 HBX c0
    generalize mkF L id = m at *
    go_wp2_with fail
    refine (unhide HK2).mono ?_
    rintro e w3 ⟨rfl, hb⟩
    have HB3 := hide (HB.out.trans (hb.mono HB.out.size))
    have hm := HLO.out
    clear hb HK2 d0 d1 d2 d3 d4 HB
    by_cases hm0 : m < 0
    · have hd : decide (m < 0) = true := decide_eq_true hm0
      go_wp2
      go_ret
      exact ⟨(by rw [HU.out, hd]; rfl), HB3.out⟩
    · have hd : decide (m < 0) = false := decide_eq_false hm0
      go_wp2
      go_ret
      exact ⟨(by rw [HU.out, hd]; rfl), HB3.out⟩

/-- The document's vocabulary, in a box. -/
structure DvM (w : World) (q : Nat) (vb vm v4 v5 : Value) (tx : List ByteArray) (mg : List (Int × Int)) (ao : Option Addr) (n cap : Nat) (L : List (Int × ByteArray)) (ai : Option Addr) (ni : Nat) (I : List Int) (W : World) : Prop where
  bel : Below w.heap.size w W
  rt : RT vb vm tx mg W
  rd : Mk.RdS W ao n L
  ri : Mk.RdI W ai ni I
  box : W.heap[q]? = some (.cells #[vb, vm, v4, v5, .slice ao n cap] 38 (0, 0))
section
variable {w W W' : World} {q : Nat} {vb vm v4 v5 : Value} {tx : List ByteArray} {mg : List (Int × Int)} {ao : Option Addr} {n cap : Nat} {L : List (Int × ByteArray)} {ai : Option Addr} {ni : Nat} {I : List Int}
theorem DvM.next (h : DvM w q vb vm v4 v5 tx mg ao n cap L ai ni I W) (hb : Below W.heap.size W W') : DvM w q vb vm v4 v5 tx mg ao n cap L ai ni I W' :=
  ⟨h.bel.trans (hb.mono h.bel.size), h.rt.kept hb, h.rd.kept hb, h.ri.kept hb, by rw [hb.block _ (Array.getElem?_eq_some_iff.1 h.box).1]; exact h.box⟩
theorem DvM.drew (h : DvM w q vb vm v4 v5 tx mg ao n cap L ai ni I W) : DvM w q vb vm v4 v5 tx mg ao n cap L ai ni I W.drew := h.next below_drw
theorem DvM.new (hT : RT vb vm tx mg w) (h : Mk.RdS w ao n L) (hI : Mk.RdI w ai ni I) : DvM w w.heap.size vb vm v4 v5 tx mg ao n cap L ai ni I (w.alloc (.cells #[vb, vm, v4, v5, .slice ao n cap] 38)) := by
  have hl := Wf.low_alloc w (.cells #[vb, vm, v4, v5, .slice ao n cap] 38)
  exact ⟨hl, hT.kept hl, h.kept hl, hI.kept hl, heap_alloc_new w _⟩
end

end Go.Proofs.YtdpmjaelbjjanaaGreat

namespace Go.Proofs.YtdpmjaelbjjanaaGreat
open Go.RowKit Go.Maps
set_option linter.unusedVariables false
set_option linter.unusedSimpArgs false
attribute [local go_sem ↓] Go.wp_at_zero Go.wp_at_succ

/-- What comes of it. -/
def OfP (s : Wf.Sp) (x : Wf.Sv) (w : World) (e : Ending) (w' : World) : Prop :=
  (∃ vb vm, e = .returned (dvo vb vm x) ∧ RT vb vm (txT s) (mgT s) w') ∧ Below w.heap.size w w'

set_option maxRecDepth 20000 in
set_option maxHeartbeats 8000000 in
theorem rof_any (x : Wf.Sv) (s : Wf.Sp) (w : World) (h : Wf.SpAt w x s) (hR : s.Right) (hOk : VOk s) :
    Calls Tryz.prog 37 #[.agg x.cs] w (OfP s x w) := by
  have hl1 := Wf.low_alloc w (.cells x.cs 81)
  have hl2 := Wf.low_alloc (w.alloc (.cells x.cs 81)) (.cells rz5 38)
  have hi := (Wf.SpI.new h 81).next hl2
  have hres := heap_alloc_new (w.alloc (.cells x.cs 81)) (.cells rz5 38)
  have HM : Hid (RnM w w.heap.size (w.heap.size + 1) x s ((w.alloc (.cells x.cs 81)).alloc (.cells rz5 38))) := hide ⟨hi.bel, hi.sp, hi.box, hi.lt, by simpa using hres, by omega⟩
  have HK := hide (rnew10_any x s _ HM.out.sp hR)
  have HOK := hide hOk
  clear h hR hOk hl1 hl2 hi hres
  obtain ⟨y0, y1, y2, y3, y4, y5⟩ := HM.out.box
  obtain ⟨r, a1, n1, c1, a2, n2, c2, a3, n3, c3, a4, n4, c4, a5, n5, c5⟩ := x
  simp only at y0 y1 y2 y3 y4 y5
  go_enter Tryz.func37, Tryz.ntmps37
  go_wp2_with fail
  refine (unhide HK).mono ?_
  rintro e w2 ⟨hP, hb⟩
  rcases hP with ⟨vb, vm, _, rfl, hT⟩ | ⟨p, k, er, hbad, _⟩
  rotate_left
  · exact (hbad.not HOK.out).elim
  obtain ⟨e1, d1, rfl⟩ := row_form hT.rb
  obtain ⟨e2, d2, rfl⟩ := row_form hT.rm
  replace HM := hide (HM.out.next hb)
  have HT := hide hT
  clear hb hT HK HOK y0 y1 y2 y3 y4 y5
  generalize hN1 : (txT s).length = N1 at *
  generalize hN2 : (mgT s).length = N2 at *
  clear hN1 hN2
  have hla := Wf.low_alloc w2 (.cells #[.slice e1 N1 d1, .slice e2 N2 d2, .slice a4 n4 c4, .slice a5 n5 c5, .slice a3 n3 c3] 38)
  have HM2 := hide (HM.out.next hla)
  have HT2 := hide (HT.out.kept hla)
  clear hla HM HT
  have x0 := Lib.frozen_of_heap HM2.out.res 0
  have x1 := Lib.frozen_of_heap HM2.out.res 1
  have x2 := Lib.frozen_of_heap HM2.out.res 2
  have x3 := Lib.frozen_of_heap HM2.out.res 3
  have x4 := Lib.frozen_of_heap HM2.out.res 4
  have z0 := Lib.cell_of_heap HM2.out.res 0
  have z1 := Lib.cell_of_heap HM2.out.res 1
  have z2 := Lib.cell_of_heap HM2.out.res 2
  have z3 := Lib.cell_of_heap HM2.out.res 3
  have z4 := Lib.cell_of_heap HM2.out.res 4
  go_wp2
  generalize (w2.alloc (.cells #[.slice e1 N1 d1, .slice e2 N2 d2, .slice a4 n4 c4, .slice a5 n5 c5, .slice a3 n3 c3] 38)) = w3 at *
  have HF : Hid (FrL [w.heap.size + 1] w3 (((((w3.setCell ⟨w.heap.size + 1, 0, none⟩ (.slice e1 N1 d1)).setCell ⟨w.heap.size + 1, 1, none⟩ (.slice e2 N2 d2)).setCell ⟨w.heap.size + 1, 2, none⟩ (.slice a4 n4 c4)).setCell ⟨w.heap.size + 1, 3, none⟩ (.slice a5 n5 c5)).setCell ⟨w.heap.size + 1, 4, none⟩ (.slice a3 n3 c3))) := hide ((((((FrL.refl [w.heap.size + 1] w3).set (b := w.heap.size + 1) (o := 0) (by simp) (.slice e1 N1 d1)).set (b := w.heap.size + 1) (o := 1) (by simp) (.slice e2 N2 d2)).set (b := w.heap.size + 1) (o := 2) (by simp) (.slice a4 n4 c4)).set (b := w.heap.size + 1) (o := 3) (by simp) (.slice a5 n5 c5)).set (b := w.heap.size + 1) (o := 4) (by simp) (.slice a3 n3 c3))
  have HB : Hid (Below w.heap.size w (((((w3.setCell ⟨w.heap.size + 1, 0, none⟩ (.slice e1 N1 d1)).setCell ⟨w.heap.size + 1, 1, none⟩ (.slice e2 N2 d2)).setCell ⟨w.heap.size + 1, 2, none⟩ (.slice a4 n4 c4)).setCell ⟨w.heap.size + 1, 3, none⟩ (.slice a5 n5 c5)).setCell ⟨w.heap.size + 1, 4, none⟩ (.slice a3 n3 c3))) := hide (((((HM2.out.bel.setCell (p := ⟨w.heap.size + 1, 0, none⟩) HM2.out.rge (.slice e1 N1 d1)).setCell (p := ⟨w.heap.size + 1, 1, none⟩) HM2.out.rge (.slice e2 N2 d2)).setCell (p := ⟨w.heap.size + 1, 2, none⟩) HM2.out.rge (.slice a4 n4 c4)).setCell (p := ⟨w.heap.size + 1, 3, none⟩) HM2.out.rge (.slice a5 n5 c5)).setCell (p := ⟨w.heap.size + 1, 4, none⟩) HM2.out.rge (.slice a3 n3 c3))
  have HZ : Hid ((((((w3.setCell ⟨w.heap.size + 1, 0, none⟩ (.slice e1 N1 d1)).setCell ⟨w.heap.size + 1, 1, none⟩ (.slice e2 N2 d2)).setCell ⟨w.heap.size + 1, 2, none⟩ (.slice a4 n4 c4)).setCell ⟨w.heap.size + 1, 3, none⟩ (.slice a5 n5 c5)).setCell ⟨w.heap.size + 1, 4, none⟩ (.slice a3 n3 c3)).heap[w.heap.size + 1]? = some (.cells #[.slice e1 N1 d1, .slice e2 N2 d2, .slice a4 n4 c4, .slice a5 n5 c5, .slice a3 n3 c3] 38 (0, 0))) := hide (by simpa using (Wf.set_block (Wf.set_block (Wf.set_block (Wf.set_block (Wf.set_block HM2.out.res 0 (.slice e1 N1 d1)) 1 (.slice e2 N2 d2)) 2 (.slice a4 n4 c4)) 3 (.slice a5 n5 c5)) 4 (.slice a3 n3 c3)))
  generalize (((((w3.setCell ⟨w.heap.size + 1, 0, none⟩ (.slice e1 N1 d1)).setCell ⟨w.heap.size + 1, 1, none⟩ (.slice e2 N2 d2)).setCell ⟨w.heap.size + 1, 2, none⟩ (.slice a4 n4 c4)).setCell ⟨w.heap.size + 1, 3, none⟩ (.slice a5 n5 c5)).setCell ⟨w.heap.size + 1, 4, none⟩ (.slice a3 n3 c3)) = w4 at *
  have g0 := Lib.cell_of_heap HZ.out 0
  have g1 := Lib.cell_of_heap HZ.out 1
  have g2 := Lib.cell_of_heap HZ.out 2
  have g3 := Lib.cell_of_heap HZ.out 3
  have g4 := Lib.cell_of_heap HZ.out 4
  (try simp only [Exit.inBlock, Exit.then])
  refine bodyPost_ret (v := .agg #[.slice e1 N1 d1, .slice e2 N2 d2, .slice a4 n4 c4, .slice a5 n5 c5, .slice a3 n3 c3]) (by simp [results, Tryz.results37, go_sem, g0, g1, g2, g3, g4]) rfl ?_
  exact ⟨⟨_, _, rfl, HT2.out.q HM2.out.res (by decide) (by decide) HF.out⟩, HB.out⟩
end Go.Proofs.YtdpmjaelbjjanaaGreat

namespace Go.Proofs.YtdpmjaelbjjanaaGreat
open Go.RowKit Go.Maps
set_option linter.unusedVariables false
set_option linter.unusedSimpArgs false

end Go.Proofs.YtdpmjaelbjjanaaGreat

namespace Go.Proofs.YtdpmjaelbjjanaaGreat
open Go.RowKit Go.Maps
set_option linter.unusedVariables false
set_option linter.unusedSimpArgs false

/-- The items of a token, if it is there. -/
def itV (L : List (Int × ByteArray)) (tx : List ByteArray) (id : Int) : Option (List Int) :=
  if mkF L id < 0 then some [mkF L id] else if 0 ≤ id ∧ id < (tx.length : Int) then some (Mk.bys (gs tx id.toNat)) else none
section
variable {W : World} {q pt pm : Nat} {F : List Nat} {v0 v1 : Value} {b2 b3 : Nat} {tx : List ByteArray} {mg : List (Int × Int)} {lg : Int} {ao : Option Addr} {cap : Nat} {L : List (Int × ByteArray)}
end
end Go.Proofs.YtdpmjaelbjjanaaGreat

namespace Go.Proofs.YtdpmjaelbjjanaaGreat
open Go.RowKit Go.Maps
set_option linter.unusedVariables false
set_option linter.unusedSimpArgs false

theorem Tok.pos {tx : List ByteArray} {mg : List (Int × Int)} (h : Tok tx mg) : ∀ i, i < tx.length → 0 < (gs tx i).size := by
  intro i
  induction i using Nat.strongRecOn with
  | ind i ih =>
    intro hi
    by_cases hb : i < 256
    · rw [h.low i hb]
      simp [one, ByteArray.size]
    · obtain ⟨j, rfl⟩ : ∃ j, i = 256 + j := ⟨i - 256, by omega⟩
      have hj : j < mg.length := by have := h.len; omega
      have hp := h.par j hj
      rw [h.made j hj]
      have h1 := ih (gm mg j).1.toNat (by omega) (by omega)
      simp
      omega
theorem itV_len {tx : List ByteArray} {mg : List (Int × Int)} (h : Tok tx mg) (L : List (Int × ByteArray)) (id : Int) (l : List Int) (he : itV L tx id = some l) : 0 < l.length ∧ l.length ≤ 64 := by
  unfold itV at he
  split at he
  · obtain rfl := Option.some.inj he
    simp
  · split at he
    · obtain rfl := Option.some.inj he
      rw [Mk.bys_len]
      exact ⟨h.pos _ (by omega), h.sz _ (by omega)⟩
    · cases he
/-- All items. -/
def catV (L : List (Int × ByteArray)) (tx : List ByteArray) (I : List Int) : List Int := I.flatMap (fun id => (itV L tx id).getD [])
theorem catV_take {L : List (Int × ByteArray)} {tx : List ByteArray} {I : List Int} {k : Nat} (hk : k < I.length) : catV L tx (I.take (k + 1)) = catV L tx (I.take k) ++ (itV L tx (Mk.gI I k)).getD [] := by
  unfold catV
  rw [← List.take_append_getElem hk, List.flatMap_append]
  simp [Mk.gI, hk]
/-- A vocabulary that was used u times. -/
structure Vu (B q : Nat) (z : VV) (s : Wf.Sp) (u : Int) (W : World) : Prop where
  box : W.heap[q]? = some (.cells (voc z.y (some ⟨z.p, 0, none⟩) ((txT s).length : Int) (some ⟨z.pm, 0, none⟩) (some ⟨z.pb, 0, none⟩) 0 0 0 none 0 0 u) 171 (0, 0))
  rows : Wf.SpRw B z.y s W
  tb : TAt z.F z.p z.v0 z.v1 z.b2 z.b3 (txT s) (mgT s) (lgs (txT s)) W ∧ q ∉ z.F
  mr : Mk.StV W (.pointer (some ⟨z.pm, 0, none⟩)) z.ao z.cap s.specials
section
variable {w W W' : World} {B q : Nat} {z : VV} {s : Wf.Sp} {u : Int}
theorem StB.vu (h : StB w q 4 z s W) : Vu w.heap.size q z s 0 W := ⟨h.box, h.rows, ⟨(h.tb (by omega)).1, (h.tb (by omega)).2.1⟩, (h.mr (by omega)).1⟩
theorem Vu.lt (h : Vu B q z s u W) : q < W.heap.size := (Array.getElem?_eq_some_iff.1 h.box).1
theorem Vu.low (h : Vu B q z s u W) (hb : Below W.heap.size W W') : Vu B q z s u W' :=
  ⟨by rw [hb.block q h.lt]; exact h.box, h.rows.low hb, ⟨h.tb.1.keptB hb, h.tb.2⟩, h.mr.kept hb⟩
theorem Vu.use (h : Vu B q z s u W) : Vu B q z s (u + 1) (W.setCell ⟨q, 14, none⟩ (.int .i64 (u + 1))) := by
  have hF := frq_set W q 14 (.int .i64 (u + 1))
  have hV : IsV q W := IsV.of h.box
  exact ⟨by simpa using Wf.set_block h.box 14 (.int .i64 (u + 1)), rows_q h.rows hV hF, ⟨tab_q h.tb.1 h.tb.2 hF, h.tb.2⟩, set_q h.mr hV hF⟩
theorem Vu.cells (h : Vu B q z s u W) : W.cell? ⟨q, 6, none⟩ = some (.pointer (some ⟨z.p, 0, none⟩)) ∧ W.cell? ⟨q, 7, none⟩ = some (.int .i64 (txT s).length) ∧ W.cell? ⟨q, 8, none⟩ = some (.pointer (some ⟨z.pm, 0, none⟩)) ∧ W.cell? ⟨q, 14, none⟩ = some (.int .i64 u) :=
  ⟨Lib.cell_of_heap h.box 6, Lib.cell_of_heap h.box 7, Lib.cell_of_heap h.box 8, Lib.cell_of_heap h.box 14⟩
end

/-- Where the loop stands. -/
structure ViM (w1 : World) (s : Wf.Sp) (I : List Int) (k : Nat) (ao : Option Addr) (N cap : Nat) (A : List Int) (W : World) : Prop where
  bel : Below w1.heap.size w1 W
  row : W.ownsRow w1.heap.size 3 1 (.slice ao N cap) N (Mk.iv A)
  acc : A = catV s.specials (txT s) (I.take k)
  len : N = A.length
  few : N ≤ 64 * k
  has : ∀ j, j < k → hasD s.specials (txT s).length (Mk.gI I j) = true

end Go.Proofs.YtdpmjaelbjjanaaGreat

namespace Go.Proofs.YtdpmjaelbjjanaaGreat
open Go.RowKit Go.Maps
set_option linter.unusedVariables false
set_option linter.unusedSimpArgs false
attribute [local go_sem ↓] Go.wp_at_zero Go.wp_at_succ

/-- All worlds that are got from one by what is new. -/
abbrev Wb (wr : World) := Wc (fun W => Below wr.heap.size wr W)
theorem below_step {wr W W' : World} (h : Below wr.heap.size wr W) (hb : Below W.heap.size W W') : Below wr.heap.size wr W' := h.trans (hb.mono h.size)
theorem ownsRow_down {W : World} {B B' k : Nat} {E : TypeId} {v : Value} {n : Nat} {xs : List Value} (h : W.ownsRow B E k v n xs) (hb : B' ≤ B) : W.ownsRow B' E k v n xs :=
  ⟨h.1, h.2.imp id (fun ⟨g, cap, cur, a, b, c⟩ => ⟨g, cap, cur, a, Nat.le_trans hb b, c⟩)⟩
/-- Where the inner loop stands. -/
structure RiM (w1 : World) (A : List Int) (t : ByteArray) (j : Nat) (ao : Option Addr) (N cap : Nat) (W : World) : Prop where
  bel : Below w1.heap.size w1 W
  row : W.ownsRow w1.heap.size 3 1 (.slice ao N cap) N (Mk.iv (A ++ (Mk.bys t).take j))
  len : N = A.length + j

set_option maxRecDepth 20000 in
set_option maxHeartbeats 16000000 in
theorem ritems_any {vb vm : Value} (v4 v5 : Value) {s : Wf.Sp} {ao : Option Addr} {n cap : Nat} {ai : Option Addr} {ni ci : Nat} {I : List Int} {w : World} (hT : RT vb vm (txT s) (mgT s) w) (h : Mk.RdS w ao n s.specials) (hn : n ≤ 1000000) (hI : Mk.RdI w ai ni I) (hni : ni ≤ 1000) (hs : ∀ j, j < ni → hasD s.specials (txT s).length (Mk.gI I j) = true) :
    Calls Tryz.prog 58 #[.agg #[vb, vm, v4, v5, .slice ao n cap], .slice ai ni ci] w fun e w' => (∃ a2 c2, e = .returned (.slice a2 (catV s.specials (txT s) I).length c2) ∧ w'.ownsRow w.heap.size 3 1 (.slice a2 (catV s.specials (txT s) I).length c2) (catV s.specials (txT s) I).length (Mk.iv (catV s.specials (txT s) I))) ∧ Below w.heap.size w w' := by
  have HM := hide (DvM.new hT h hI (v4 := v4) (v5 := v5) (cap := cap))
  have HIL := hide hI.1
  have HSS := hide hs
  obtain ⟨aB, cB, rfl⟩ := row_form hT.rb
  obtain ⟨aM, cM, rfl⟩ := row_form hT.rm
  clear hT h hI hs
  have HSZ : Hid (w.heap.size ≤ (w.alloc (.cells #[.slice aB (txT s).length cB, .slice aM (mgT s).length cM, v4, v5, .slice ao n cap] 38)).heap.size) := hide (by simp)
  go_enter Tryz.func58, Tryz.ntmps58
  go_wp2
  generalize w.alloc (.cells #[.slice aB (txT s).length cB, .slice aM (mgT s).length cM, v4, v5, .slice ao n cap] 38) = w1 at *
  generalize hq : w.heap.size = q at *
  have HQ := hide hq
  clear hq
  have HV : Hid (ViM w1 s I 0 none 0 0 [] w1) := hide ⟨Below.refl _ _, World.ownsRow_nil _ _ _ _, rfl, rfl, by omega, fun j hj => by omega⟩
  go_loopw [5, 6] (fun a i wr => ∃ (k : Nat) (ao : Option Addr) (N cap : Nat) (A : List Int), a = .slice ao N cap ∧ i = .int .i64 k ∧ k ≤ ni ∧ Hid (ViM w1 s I k ao N cap A wr)) (fun _ i _ => ni - (intOf i).toNat)
  case atStart => exact ⟨0, none, 0, 0, [], rfl, rfl, Nat.zero_le _, HV⟩
  case round =>
    obtain ⟨k, a5, N, cap5, A, rfl, rfl, hk, HV2⟩ := hrel
    clear HV
    by_cases hlt : k < ni
    · have hk0 : (0 : Int) ≤ (k : Int) := by omega
      have hk1 : (k : Int) < (ni : Int) := by omega
      have HD := hide (HM.out.next HV2.out.bel)
      rcases HD.out.ri.2 with h0 | ⟨b, off, rfl, hbl, hc⟩
      · omega
      have c1 := hc k hlt
      have HBL := hide hbl
      have HH := hide (HSS.out k hlt)
      have HCT := hide (catV_take (L := s.specials) (tx := txT s) (I := I) (k := k) (by rw [HIL.out]; exact hlt))
      have HMK : Hid (∀ d : Wb wr, Calls Tryz.prog 56 #[.agg #[.slice aB (txT s).length cB, .slice aM (mgT s).length cM, v4, v5, .slice ao n cap], .int .i64 (Mk.gI I k)] d.W fun e w' => e = .returned (.int .i64 (mkF s.specials (Mk.gI I k))) ∧ ∃ p' : Wb wr, w' = p'.W) := hide (fun d => Calls.toV (fun _ _ h hb => below_step h hb) d (rmark10_any _ _ v4 v5 (HD.out.rd.kept d.h) hn _))
      have HXX : Hid (Mk.gI I k = Mk.gI I k) := hide rfl
      generalize hgx : Mk.gI I k = x at *
      have HX := hide hgx
      clear hgx HXX hc hbl
      have hql := (Array.getElem?_eq_some_iff.1 HD.out.box).1
      have y0 : ∀ d : Wb wr, d.W.cell? ⟨q, 0, none⟩ = some (.slice aB (txT s).length cB) := fun d => (d.h.cell (p := ⟨q, 0, none⟩) hql).trans (Lib.cell_of_heap HD.out.box 0)
      have y1 : ∀ d : Wb wr, d.W.cell? ⟨q, 1, none⟩ = some (.slice aM (mgT s).length cM) := fun d => (d.h.cell (p := ⟨q, 1, none⟩) hql).trans (Lib.cell_of_heap HD.out.box 1)
      have y2 : ∀ d : Wb wr, d.W.cell? ⟨q, 2, none⟩ = some v4 := fun d => (d.h.cell (p := ⟨q, 2, none⟩) hql).trans (Lib.cell_of_heap HD.out.box 2)
      have y3 : ∀ d : Wb wr, d.W.cell? ⟨q, 3, none⟩ = some v5 := fun d => (d.h.cell (p := ⟨q, 3, none⟩) hql).trans (Lib.cell_of_heap HD.out.box 3)
      have y4 : ∀ d : Wb wr, d.W.cell? ⟨q, 4, none⟩ = some (.slice ao n cap) := fun d => (d.h.cell (p := ⟨q, 4, none⟩) hql).trans (Lib.cell_of_heap HD.out.box 4)
      have y5 : ∀ d : Wb wr, d.W.cell? ⟨b, off + k, none⟩ = some (.int .i64 x) := fun d => (d.h.cell (p := ⟨b, off + k, none⟩) HBL.out).trans c1
      have ne : Nonempty (Wb wr) := ⟨⟨_, Below.refl _ _⟩⟩
      have HC1 := hide c1
      clear hql c1
      generalize hmk : mkF s.specials x = m at *
      have HMF := hide hmk
      clear hmk
      go_wp2
      refine region_v (α := Wb wr) Wc.W (by kernel_rfl) (by kernel_rfl) ⟨_, below_drw⟩ rfl ?_
      repeat (go_big_quiet_step ((go_at_call 56; exact HMK.out _)))
      refine wpQuiet_nil ?_
      intro W hw'
      have hW : Below wr.heap.size wr W := by obtain ⟨p, rfl⟩ := hw'; exact p.h
      have HD2 := hide (HD.out.next hW)
      have HV3 : Hid (ViM w1 s I k a5 N cap5 A W) := hide ⟨HV2.out.bel.trans (hW.mono HV2.out.bel.size), row_keptB HV2.out.row hW, HV2.out.acc, HV2.out.len, HV2.out.few, HV2.out.has⟩
      have d1 := (hW.cell (p := ⟨b, off + k, none⟩) HBL.out).trans HC1.out
      have d0 := Lib.cell_of_heap HD2.out.box 0
      have hN := HV3.out.few
      clear hW hw' y0 y1 y2 y3 y4 y5 ne HMK HD HV2 HBL HC1
      by_cases hm : m < 0
      · have hit : itV s.specials (txT s) x = some [m] := by unfold itV; rw [HMF.out, if_pos hm]
        obtain ⟨g, cap3, w3, hrun, hown, hb3⟩ := Mk.app_int W w1.heap.size a5 N cap5 A m HV3.out.row (by omega) HV3.out.bel.size
        have HRUN := hide hrun
        have HN : Hid (ViM w1 s I (k + 1) (some ⟨g, 0, none⟩) (N + 1) cap3 (A ++ [m]) w3) := hide ⟨HV3.out.bel.trans hb3, hown, by rw [HCT.out, hit, ← HV3.out.acc]; rfl, by rw [List.length_append, ← HV3.out.len]; rfl, by omega, fun j hj => by
          by_cases e : j = k
          · subst e; rw [HX.out]; exact HH.out
          · exact HV3.out.has j (by omega)⟩
        clear hrun hown hb3 hit HH HCT HMF HX HD2 HV3 d0 d1
        go_wp2_with (at_builtin; refine Lib.wpList_append_run _ rfl _ _ _ _ rfl _ _ rfl rfl _ _ HRUN.out ?_)
        clear HRUN
        first
          | exact ⟨⟨k + 1, _, _, _, _, rfl, by go_num, by omega, HN⟩, by simp [intOf]; omega⟩
          | (go_roundw
             case rel => exact ⟨k + 1, _, _, _, _, rfl, by go_num, by omega, HN⟩
             case measure => simp [intOf]; omega)
      · have hmd : decide (m < 0) = false := decide_eq_false hm
        have hx : 0 ≤ x ∧ x < ((txT s).length : Int) := by
          have h := HH.out
          unfold hasD at h
          rw [HMF.out, hmd, Bool.or_false] at h
          exact of_decide_eq_true h
        have hit : itV s.specials (txT s) x = some (Mk.bys (gs (txT s) x.toNat)) := by unfold itV; rw [HMF.out, if_neg hm, if_pos hx]
        obtain ⟨i, rfl⟩ : ∃ i : Nat, x = (i : Int) := ⟨x.toNat, by omega⟩
        have hil : i < (txT s).length := by omega
        simp only [Int.toNat_natCast] at hit
        obtain ⟨g, cg, hvg, hgl, hcg⟩ := HD2.out.rt.text hil
        simp only [Value.slice.injEq] at hvg
        obtain ⟨rfl, -, rfl⟩ := hvg
        have hts := (tokT s).sz i hil
        have hi0 : (0 : Int) ≤ (i : Int) := by omega
        have hi1 : (i : Int) < ((txT s).length : Int) := by omega
        have HC2 := hide HCT.out
        rw [hit] at HC2
        have HHX := hide HH.out
        clear hit HCT hx HMF HH
        generalize gs (txT s) i = t at *
        have HR0 : Hid (RiM w1 A t 0 a5 N cap5 W.drew) := hide ⟨HV3.out.bel.trans (below_drw.mono HV3.out.bel.size), by simpa using row_keptB HV3.out.row below_drw, HV3.out.len⟩
        have HAC := hide HV3.out.acc
        have HHS := hide HV3.out.has
        have HLN := hide HV3.out.len
        have HYL := hide (Mk.bys_len t)
        go_wp2
        go_region
        clear HV3 HD2 d0 d1 hcg hgl hi0 hi1 hm
        go_wp2
        generalize W.drew = W1 at *
        go_loopw [5, 9] (fun a i wr => ∃ (j : Nat) (ao : Option Addr) (N cap : Nat), a = .slice ao N cap ∧ i = .int .i64 j ∧ j ≤ t.size ∧ Hid (RiM w1 A t j ao N cap wr)) (fun _ i _ => t.size - (intOf i).toNat)
        case atStart => exact ⟨0, a5, N, cap5, rfl, rfl, Nat.zero_le _, HR0⟩
        case round =>
          obtain ⟨j, a6, N6, cap6, rfl, rfl, hj, HR⟩ := hrel
          clear HR0
          by_cases hjt : j < t.size
          · have hj0 : (0 : Int) ≤ (j : Int) := by omega
            have hj1 : (j : Int) < (t.size : Int) := by omega
            have hN6 := HR.out.len
            have hNA := HLN.out
            obtain ⟨g1, cap2, w3, hrun, hown, hb3⟩ := Mk.app_int _ w1.heap.size a6 N6 cap6 _ (t[j].toNat : Int) HR.out.row (by omega) HR.out.bel.size
            rw [List.append_assoc, ← Mk.bys_take t hjt] at hown
            have HRUN := hide hrun
            have HN : Hid (RiM w1 A t (j + 1) (some ⟨g1, 0, none⟩) (N6 + 1) cap2 w3) := hide ⟨HR.out.bel.trans hb3, hown, by omega⟩
            have hcv : wrap64 (t[j].toNat : Int) = (t[j].toNat : Int) := by have := t[j].toNat_lt; unfold wrap64; omega
            clear hrun hown hb3 HR hN6 hNA
            go_wp2_with (at_builtin; refine Lib.wpList_append_run _ rfl _ _ _ _ rfl _ _ rfl rfl _ _ HRUN.out ?_)
            first
              | exact ⟨⟨j + 1, _, _, _, rfl, by go_num, by omega, HN⟩, by simp [intOf]; omega⟩
              | (go_roundw
                 case rel => exact ⟨j + 1, _, _, _, rfl, by go_num, by omega, HN⟩
                 case measure => simp [intOf]; omega)
          · obtain rfl : t.size = j := by omega
            have HN : Hid (ViM w1 s I (k + 1) a6 N6 cap6 (A ++ Mk.bys t) _) := hide ⟨HR.out.bel, by have h := HR.out.row; rw [List.take_of_length_le (by rw [HYL.out]; exact Nat.le_refl _)] at h; exact h, by rw [HC2.out, ← HAC.out]; rfl, by rw [List.length_append, HYL.out]; exact HR.out.len, by have h1 := HR.out.len; have h2 := HLN.out; omega, fun j hj => by
              by_cases e : j = k
              · subst e; rw [HX.out]; exact HHX.out
              · exact HHS.out j (by omega)⟩
            go_wp2
            first
              | exact ⟨⟨k + 1, _, _, _, _, rfl, by go_num, by omega, HN⟩, by simp [intOf]; omega⟩
              | (go_roundw
                 case rel => exact ⟨k + 1, _, _, _, _, rfl, by go_num, by omega, HN⟩
                 case measure => simp [intOf]; omega)
    · obtain rfl : ni = k := by omega
      have hA : A = catV s.specials (txT s) I := by rw [HV2.out.acc, ← HIL.out, List.take_length]
      have HA := hide hA
      clear hA
      go_wp2
      go_ret
      refine ⟨⟨a5, cap5, ?_, ?_⟩, ?_⟩
      · rw [← HA.out, ← HV2.out.len]; rfl
      · rw [← HA.out, ← HV2.out.len]; exact ownsRow_down HV2.out.row (by rw [HQ.out]; exact HSZ.out)
      · exact HM.out.bel.trans (HV2.out.bel.mono (by rw [HQ.out]; exact HSZ.out))
end Go.Proofs.YtdpmjaelbjjanaaGreat

namespace Go.Proofs.YtdpmjaelbjjanaaGreat
open Go.RowKit Go.Maps
set_option linter.unusedVariables false
set_option linter.unusedSimpArgs false

theorem low_drewX (w : World) (n : Nat) : Below w.heap.size w (w.drewN n) := ⟨rfl, rfl, rfl, Nat.le_refl _, fun _ _ => rfl⟩
theorem getD_extX {α : Type} (d : α) {A B : List α} {n : Nat} (ha : A.length = n) (hb : B.length = n) (h : ∀ j, j < n → A.getD j d = B.getD j d) : A = B := by
  refine List.ext_getElem (by omega) (fun i h1 h2 => ?_)
  have := h i (by omega)
  rw [List.getD_eq_getElem?_getD, List.getD_eq_getElem?_getD, List.getElem?_eq_getElem h1, List.getElem?_eq_getElem h2] at this
  exact this
set_option maxRecDepth 20000 in
set_option maxHeartbeats 8000000 in
theorem eqI_any (w : World) (a1 a2 : Option Addr) (n1 n2 c1 c2 : Nat) (A B : List Int) (ha : Mk.RdI w a1 n1 A) (hb : Mk.RdI w a2 n2 B) (hn : n1 ≤ 9223372036854775807) :
    Calls Tryz.prog 125 #[.slice a1 n1 c1, .slice a2 n2 c2] w fun e w' => e = .returned (.bool (decide (A = B))) ∧ Below w.heap.size w w' := by
  have HA := hide ha
  have HB := hide hb
  clear ha hb
  by_cases hne : ¬ n1 = n2
  · have HD : Hid (decide (A = B) = false) := hide (decide_eq_false (fun e => hne (by rw [← HA.out.1, ← HB.out.1, e])))
    have hnd : ((n1 : Int) != (n2 : Int)) = true := by simp; omega
    go_enter Tryz.func125, Tryz.ntmps125
    go_wp2
    go_ret
    exact ⟨by rw [HD.out]; rfl, Below.refl _ _⟩
  replace hne : n1 = n2 := by omega
  subst hne
  go_enter Tryz.func125, Tryz.ntmps125
  go_wp2
  go_loopw [13] (fun i wr => ∃ (k : Nat), i = .int .i64 k ∧ k ≤ n1 ∧ Hid (∀ j, j < k → Mk.gI A j = Mk.gI B j) ∧ Hid (Below w.heap.size w wr)) (fun i _ => n1 - (intOf i).toNat)
  case atStart => exact ⟨0, rfl, Nat.zero_le _, hide (fun j hj => by omega), hide (Below.refl _ _)⟩
  case round =>
    obtain ⟨k, rfl, hk, HK, HBl⟩ := hrel
    by_cases hlt : k < n1
    · have hk0 : (0 : Int) ≤ (k : Int) := by omega
      have hk1 : (k : Int) < (n1 : Int) := by omega
      rcases (HA.out.kept HBl.out).2 with h0 | ⟨b, off, rfl, hbw, hc⟩
      · omega
      rcases (HB.out.kept HBl.out).2 with h0 | ⟨b', off', rfl, hbw', hc'⟩
      · omega
      have c0 := hc k hlt
      have d0 := hc' k hlt
      clear hc hc'
      have HK2 : Hid (Mk.gI A k = Mk.gI B k → ∀ j, j < k + 1 → Mk.gI A j = Mk.gI B j) := hide (fun h j hj => by
        by_cases e : j = k
        · subst e; exact h
        · exact HK.out j (by omega))
      have HNE : Hid (¬ (Mk.gI A k = Mk.gI B k) → A ≠ B) := hide (fun h e => h (by rw [e]))
      generalize Mk.gI A k = x0 at *
      generalize Mk.gI B k = y0 at *
      by_cases e0 : x0 = y0
      · have HF := hide (HK2.out e0)
        subst e0
        go_wp2
        go_quiet (fail)
        have HD := hide (HBl.out.trans ((low_drewX wr nq).mono HBl.out.size))
        clear c0 d0
        generalize wr.drewN nq = wd at *
        go_wp2
        exact ⟨⟨k + 1, by go_num, by omega, HF, HD⟩, by simp [intOf]; omega⟩
      · have HF := hide (HNE.out (fun h => e0 h))
        have hd0 : (x0 != y0) = true := by simpa using e0
        clear e0
        go_wp2
        go_quiet (fail)
        have HD := hide (HBl.out.trans ((low_drewX wr nq).mono HBl.out.size))
        clear c0 d0
        generalize wr.drewN nq = wd at *
        go_wp2
        go_ret
        exact ⟨by rw [decide_eq_false HF.out]; rfl, HD.out⟩
    · obtain rfl : k = n1 := by omega
      have HEQ : Hid (A = B) := hide (getD_extX (0 : Int) HA.out.1 HB.out.1 HK.out)
      go_wp2
      go_ret
      exact ⟨by rw [decide_eq_true HEQ.out]; rfl, HBl.out⟩

end Go.Proofs.YtdpmjaelbjjanaaGreat

namespace Go.Proofs.YtdpmjaelbjjanaaGreat
open Go.RowKit Go.Maps
set_option linter.unusedVariables false
set_option linter.unusedSimpArgs false

end Go.Proofs.YtdpmjaelbjjanaaGreat

namespace Go.Proofs.YtdpmjaelbjjanaaGreat
open Go.RowKit Go.Maps
set_option linter.unusedVariables false
set_option linter.unusedSimpArgs false


/- The example. -/
end Go.Proofs.YtdpmjaelbjjanaaGreat

namespace Go.Proofs.YtdpmjaelbjjanaaGreat
open Go.RowKit Go.Maps
set_option linter.unusedVariables false
set_option linter.unusedSimpArgs false

end Go.Proofs.YtdpmjaelbjjanaaGreat
