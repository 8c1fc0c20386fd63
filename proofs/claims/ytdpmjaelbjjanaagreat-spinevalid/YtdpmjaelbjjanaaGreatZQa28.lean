/- Contracts of package grow: Plain; the law's example. The law's example; GrowNone. GrowImports: the walk. Contracts: grow.Load, and the document's. -/
import Derived.Test.YtdpmjaelbjjanaaGreatZQa26
import Derived.Test.YtdpmjaelbjjanaaGreatZQa25
import Derived.Test.YtdpmjaelbjjanaaGreatZQa27
import Derived.Test.YtdpmjaelbjjanaaGreatZQa21
namespace Go.Proofs.YtdpmjaelbjjanaaGreat
open Go.RowKit Go.Maps
set_option linter.unusedVariables false
set_option linter.unusedSimpArgs false
attribute [local go_sem ↓] Go.wp_at_zero Go.wp_at_succ

theorem ReadsM.row {w : World} {B : Nat} {ao : Option Addr} {n cap : Nat} {mg : List (Int × Int)} (h : w.ownsRow B 77 2 (.slice ao n cap) n (fl2 mg)) (hn : mg.length = n) : ReadsM w ao n mg := by
  refine ⟨hn, ?_⟩
  rcases Nat.eq_zero_or_pos n with h0 | h0
  · exact Or.inl h0
  obtain ⟨g, cap', e, hb, hg⟩ := h.form h0
  simp only [Value.slice.injEq] at e
  obtain ⟨rfl, -, rfl⟩ := e
  refine Or.inr ⟨g, 0, rfl, fun i hi => ?_⟩
  rw [Nat.zero_add, h.cellAt (i * 2) (by omega), h.cellAt (i * 2 + 1) (by omega)]
  exact fl2_get mg i (by omega)

section
variable {F : List Nat} {p : Nat} {v0 v1 : Value} {b2 b3 : Nat} {tx : List ByteArray} {mg : List (Int × Int)} {w : World}
end

end Go.Proofs.YtdpmjaelbjjanaaGreat

namespace Go.Proofs.YtdpmjaelbjjanaaGreat
open Go.RowKit Go.Maps
set_option linter.unusedVariables false
set_option linter.unusedSimpArgs false
attribute [local go_sem ↓] Go.wp_at_zero Go.wp_at_succ

end Go.Proofs.YtdpmjaelbjjanaaGreat

namespace Go.Proofs.YtdpmjaelbjjanaaGreat
open Go.RowKit Go.Maps
set_option linter.unusedVariables false
set_option linter.unusedSimpArgs false
attribute [local go_sem ↓] Go.wp_at_zero Go.wp_at_succ

end Go.Proofs.YtdpmjaelbjjanaaGreat

namespace Go.Proofs.YtdpmjaelbjjanaaGreat
open Go.RowKit Go.Maps
set_option linter.unusedVariables false
set_option linter.unusedSimpArgs false
attribute [local go_sem ↓] Go.wp_at_zero Go.wp_at_succ

/-- The error's number of a spec's k-th; the table behind the first k; how many there are. -/
def ldC (s : Sp) (k : Nat) : Int := if s.ranked then imC s.tokens k else addC (stT s.merges k).1 (gm s.merges k)
def ldS (s : Sp) (k : Nat) : List ByteArray × List (Int × Int) := if s.ranked then imS s.tokens k else stT s.merges k
theorem ldS_tok (s : Sp) (k : Nat) : Tok (ldS s k).1 (ldS s k).2 := by
  unfold ldS
  split
  · exact (imS_rch _ _).tok
  · exact stT_tok _ _
def LdP (s : Sp) (n : Nat) (w : World) (e : Ending) (w' : World) : Prop :=
  (∃ k : Nat, k < n ∧ (∀ j, j < k → ldC s j = 0) ∧ ldC s k ≠ 0 ∧ e = .returned (.tuple #[.pointer none, .int .i64 k, .int .i64 (ldC s k)])) ∨
  ((∀ j, j < n → ldC s j = 0) ∧ ∃ p F v0 v1 b2 b3, e = .returned (.tuple #[.pointer (some ⟨p, 0, none⟩), .int .i64 n, .int .i64 0]) ∧ TAt F p v0 v1 b2 b3 (ldS s n).1 (ldS s n).2 (lgs (ldS s n).1) w')
def ldN (s : Sp) : Nat := if s.ranked then s.tokens.length else s.merges.length

set_option maxRecDepth 20000 in
set_option maxHeartbeats 4000000 in
theorem load_any (x : Sv) (s : Sp) (w : World) (h : SpAt w x s) (h1 : x.n1 ≤ 1000000) (h2 : x.n2 ≤ 1000000) (hs : ∀ t ∈ s.tokens, t.size ≤ 100000) :
    Calls Tryz.prog 135 #[.agg x.cs] w fun e w' => LdP s (ldN s) w e w' ∧ Below w.heap.size w w' := by
  have HI := hide (SpI.new h 81)
  have hr := h.r
  have HM1 := hide h.ms.1
  have HT1 := hide h.ts.1
  clear h
  obtain ⟨r, a1, n1, c1, a2, n2, c2, a3, n3, c3, a4, n4, c4, a5, n5, c5⟩ := x
  simp only at h1 h2 hr HM1 HT1
  cases r with
  | true =>
    have HLC : Hid (∀ k, ldC s k = imC s.tokens k) := hide (fun k => by unfold ldC; rw [← hr]; rfl)
    have HLS : Hid (∀ k, ldS s k = imS s.tokens k) := hide (fun k => by unfold ldS; rw [← hr]; rfl)
    have HLN : Hid (ldN s = n2) := hide (by unfold ldN; rw [← hr]; exact HT1.out)
    have HC := hide (import_any a2 n2 c2 s.tokens _ HI.out.sp.ts h2 hs)
    clear hr
    go_enter Tryz.func135, Tryz.ntmps135
    go_wp2_with fail
    refine (unhide HC).mono ?_
    rintro e w2 ⟨hP, hb2⟩
    have HB := hide (HI.out.bel.trans (hb2.mono HI.out.bel.size))
    clear hb2 HC HI
    rcases hP with ⟨k, hk, hok, hne, rfl⟩ | ⟨hok, p, F, v0, v1, b2, b3, rfl, hT, _⟩
    · have HF := hide (And.intro hok hne)
      clear hok hne
      go_wp2
      (try simp only [Exit.inBlock, Exit.then])
      refine bodyPost_ret (v := .tuple #[.pointer none, .int .i64 k, .int .i64 (imC s.tokens k)]) (by simp [results, Tryz.results135, go_sem]) rfl ?_
      refine ⟨Or.inl ⟨k, by rw [HLN.out]; exact hk, fun j hj => by rw [HLC.out]; exact HF.out.1 j hj, by rw [HLC.out]; exact HF.out.2, by rw [HLC.out]⟩, HB.out⟩
    · have HF := hide (And.intro hok hT)
      clear hok hT
      go_wp2
      (try simp only [Exit.inBlock, Exit.then])
      refine bodyPost_ret (v := .tuple #[.pointer (some ⟨p, 0, none⟩), .int .i64 n2, .int .i64 0]) (by simp [results, Tryz.results135, go_sem]) rfl ?_
      refine ⟨Or.inr ⟨fun j hj => by rw [HLC.out]; exact HF.out.1 j (by rw [← HLN.out]; exact hj), p, F, v0, v1, b2, b3, by rw [HLN.out], by rw [HLN.out, HLS.out]; exact HF.out.2⟩, HB.out⟩
  | false =>
    have HLC : Hid (∀ k, ldC s k = addC (stT s.merges k).1 (gm s.merges k)) := hide (fun k => by unfold ldC; rw [← hr]; rfl)
    have HLS : Hid (∀ k, ldS s k = stT s.merges k) := hide (fun k => by unfold ldS; rw [← hr]; rfl)
    have HLN : Hid (ldN s = n1) := hide (by unfold ldN; rw [← hr]; exact HM1.out)
    have HC := hide (new_any a1 n1 c1 s.merges _ HI.out.sp.ms h1)
    clear hr
    go_enter Tryz.func135, Tryz.ntmps135
    go_wp2_with fail
    refine (unhide HC).mono ?_
    rintro e w2 ⟨hP, hb2⟩
    have HB := hide (HI.out.bel.trans (hb2.mono HI.out.bel.size))
    clear hb2 HC HI
    rcases hP with ⟨k, hk, hok, hne, rfl⟩ | ⟨hok, p, F, v0, v1, b2, b3, rfl, hT, _⟩
    · have HF := hide (And.intro hok hne)
      clear hok hne
      go_wp2
      (try simp only [Exit.inBlock, Exit.then])
      refine bodyPost_ret (v := .tuple #[.pointer none, .int .i64 k, .int .i64 (addC (stT s.merges k).1 (gm s.merges k))]) (by simp [results, Tryz.results135, go_sem]) rfl ?_
      refine ⟨Or.inl ⟨k, by rw [HLN.out]; exact hk, fun j hj => by rw [HLC.out]; exact HF.out.1 j hj, by rw [HLC.out]; exact HF.out.2, by rw [HLC.out]⟩, HB.out⟩
    · have HF := hide (And.intro hok hT)
      clear hok hT
      go_wp2
      (try simp only [Exit.inBlock, Exit.then])
      refine bodyPost_ret (v := .tuple #[.pointer (some ⟨p, 0, none⟩), .int .i64 n1, .int .i64 0]) (by simp [results, Tryz.results135, go_sem]) rfl ?_
      refine ⟨Or.inr ⟨fun j hj => by rw [HLC.out]; exact HF.out.1 j (by rw [← HLN.out]; exact hj), p, F, v0, v1, b2, b3, by rw [HLN.out], by rw [HLN.out, HLS.out]; exact HF.out.2⟩, HB.out⟩

/-- What comes of the document's Load. -/
def RlP (s : Sp) (n : Nat) (w : World) (e : Ending) (w' : World) : Prop :=
  ∃ (k : Nat) (c : Int) (vb vm : Value), e = .returned (.tuple #[.agg #[vb, vm], .int .i64 k, .int .i64 c]) ∧ (∀ j, j < k → ldC s j = 0) ∧ ((k < n ∧ c = ldC s k ∧ c ≠ 0) ∨ (k = n ∧ c = 0)) ∧ RT vb vm (ldS s k).1 (ldS s k).2 w'
/-- A table that goes into the answer's box. -/
theorem rload_out {w0 w W : World} {q : Nat} {vb vm : Value} {tx : List ByteArray} {mg : List (Int × Int)} (hR : RT vb vm tx mg W) (hX : Box2 q (.slice none 0 0) (.slice none 0 0) W) (hq : w.heap.size ≤ q) (hB : Below w.heap.size w W) :
    RT vb vm tx mg ((W.setCell ⟨q, 0, none⟩ vb).setCell ⟨q, 1, none⟩ vm) ∧ Below w.heap.size w ((W.setCell ⟨q, 0, none⟩ vb).setCell ⟨q, 1, none⟩ vm) := by
  have hQ : FrL [q] W ((W.setCell ⟨q, 0, none⟩ vb).setCell ⟨q, 1, none⟩ vm) := ((FrL.refl _ _).set (by simp) _).set (by simp) _
  have hn := hR.ne_box hX
  exact ⟨hR.keptF hQ hn.1 hn.2, hB.trans (hQ.below hB.size (fun k hk => by simp at hk; omega))⟩

set_option maxRecDepth 20000 in
set_option maxHeartbeats 4000000 in
theorem rload_any (x : Sv) (s : Sp) (w : World) (h : SpAt w x s) (h1 : x.n1 ≤ 1000000) (h2 : x.n2 ≤ 1000000) (hs : ∀ t ∈ s.tokens, t.size ≤ 100000) :
    Calls Tryz.prog 112 #[.agg x.cs] w fun e w' => RlP s (ldN s) w e w' ∧ Below w.heap.size w w' := by
  have hI := SpI.new h 81
  have hr := h.r
  have HM1 := hide h.ms.1
  have HT1 := hide h.ts.1
  clear h
  have hla := low1 (w.alloc (.cells x.cs 81)) (.cells #[.slice none 0 0, .slice none 0 0] 34)
  have hX : Box2 (w.heap.size + 1) (.slice none 0 0) (.slice none 0 0) ((w.alloc (.cells x.cs 81)).alloc (.cells #[.slice none 0 0, .slice none 0 0] 34)) := by have := heap_alloc_new (w.alloc (.cells x.cs 81)) (.cells #[.slice none 0 0, .slice none 0 0] 34); simpa [Box2] using this
  have HI := hide (hI.next hla)
  have HX := hide hX
  clear hI hla hX
  obtain ⟨r, a1, n1, c1, a2, n2, c2, a3, n3, c3, a4, n4, c4, a5, n5, c5⟩ := x
  simp only at h1 h2 hr HM1 HT1
  cases r with
  | true =>
    have HLC : Hid (∀ k, ldC s k = imC s.tokens k) := hide (fun k => by unfold ldC; rw [← hr]; rfl)
    have HLS : Hid (∀ k, ldS s k = imS s.tokens k) := hide (fun k => by unfold ldS; rw [← hr]; rfl)
    have HLN : Hid (ldN s = n2) := hide (by unfold ldN; rw [← hr]; exact HT1.out)
    have HC := hide (rimport_any a2 n2 c2 s.tokens _ HI.out.sp.ts h2 hs)
    clear hr
    go_enter Tryz.func112, Tryz.ntmps112
    go_wp2_with fail
    refine (unhide HC).mono ?_
    rintro e w2 ⟨k, c, vb, vm, rfl, hok, hcase, hRT, hb2⟩
    have hB := HI.out.bel.trans (hb2.mono HI.out.bel.size)
    have hX2 := HX.out.kept hb2
    obtain ⟨e1, d1, hv1⟩ := row_form hRT.rb
    obtain ⟨e2, d2, hv2⟩ := row_form hRT.rm
    subst hv1 hv2
    have HO := hide (rload_out (w0 := w) hRT hX2 (show w.heap.size ≤ w.heap.size + 1 by omega) hB)
    obtain ⟨x0, x1, xf⟩ := hX2.cells
    have HF := hide (And.intro hok hcase)
    clear hok hcase hRT hb2 hB HC HI HX
    go_wp2
    (try simp only [Exit.inBlock, Exit.then])
    refine bodyPost_ret (v := .tuple #[.agg #[.slice e1 (imS s.tokens k).1.length d1, .slice e2 (imS s.tokens k).2.length d2], .int .i64 k, .int .i64 c]) (by simp [results, Tryz.results112, go_sem, x0, x1, xf]) rfl ?_
    exact ⟨⟨k, c, _, _, rfl, fun j hj => by rw [HLC.out]; exact HF.out.1 j hj, by rw [HLC.out, HLN.out]; exact HF.out.2, by rw [HLS.out]; exact HO.out.1⟩, HO.out.2⟩
  | false =>
    have HLC : Hid (∀ k, ldC s k = addC (stT s.merges k).1 (gm s.merges k)) := hide (fun k => by unfold ldC; rw [← hr]; rfl)
    have HLS : Hid (∀ k, ldS s k = stT s.merges k) := hide (fun k => by unfold ldS; rw [← hr]; rfl)
    have HLN : Hid (ldN s = n1) := hide (by unfold ldN; rw [← hr]; exact HM1.out)
    have HC := hide (rnew_any a1 n1 c1 s.merges _ HI.out.sp.ms h1)
    clear hr
    go_enter Tryz.func112, Tryz.ntmps112
    go_wp2_with fail
    refine (unhide HC).mono ?_
    rintro e w2 ⟨k, c, vb, vm, rfl, hok, hcase, hRT, hb2⟩
    have hB := HI.out.bel.trans (hb2.mono HI.out.bel.size)
    have hX2 := HX.out.kept hb2
    obtain ⟨e1, d1, hv1⟩ := row_form hRT.rb
    obtain ⟨e2, d2, hv2⟩ := row_form hRT.rm
    subst hv1 hv2
    have HO := hide (rload_out (w0 := w) hRT hX2 (show w.heap.size ≤ w.heap.size + 1 by omega) hB)
    obtain ⟨x0, x1, xf⟩ := hX2.cells
    have HF := hide (And.intro hok hcase)
    clear hok hcase hRT hb2 hB HC HI HX
    go_wp2
    (try simp only [Exit.inBlock, Exit.then])
    refine bodyPost_ret (v := .tuple #[.agg #[.slice e1 (stT s.merges k).1.length d1, .slice e2 (stT s.merges k).2.length d2], .int .i64 k, .int .i64 c]) (by simp [results, Tryz.results112, go_sem, x0, x1, xf]) rfl ?_
    exact ⟨⟨k, c, _, _, rfl, fun j hj => by rw [HLC.out]; exact HF.out.1 j hj, by rw [HLC.out, HLN.out]; exact HF.out.2, by rw [HLS.out]; exact HO.out.1⟩, HO.out.2⟩

end Go.Proofs.YtdpmjaelbjjanaaGreat
