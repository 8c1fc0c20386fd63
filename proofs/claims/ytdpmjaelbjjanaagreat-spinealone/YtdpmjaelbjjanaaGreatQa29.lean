/- Marks: rows of numbers and of special tokens, and a set, as they lie in memory. Contracts of package mark: flip, all, Len, at, At, Id, Mark, Bytes. Contracts of package mark: at, Id, Mark, Bytes, Parse. -/
import Derived.Test.YtdpmjaelbjjanaaGreatQa12
import Derived.Test.YtdpmjaelbjjanaaGreatQa10
import Derived.DeepKeys4
import Derived.BigQuiet
import Derived.Lib.AppendZeros
namespace Go.Proofs.YtdpmjaelbjjanaaGreat.Mk
open Go.RowKit Go.Maps
set_option linter.unusedVariables false
set_option linter.unusedSimpArgs false

theorem low1 (w : World) (o : Obj) : Below w.heap.size w (w.alloc o) := (Below.refl _ _).alloc (Nat.le_refl _) _
theorem lowD {B : Nat} {w w' : World} (h : Below B w w') (n : Nat) : Below B w (w'.drewN n) := h.trans ⟨rfl, rfl, rfl, Nat.le_refl _, fun _ _ => rfl⟩
theorem cell_lt {W : World} {b o : Nat} {v : Value} (h : W.cell? ⟨b, o, none⟩ = some v) : b < W.heap.size := by
  rcases Nat.lt_or_ge b W.heap.size with hb | hb
  · exact hb
  · simp [World.cell?, Array.getElem?_eq_none hb] at h
theorem row_form {w : World} {B : Nat} {E : TypeId} {size : Nat} {v : Value} {n : Nat} {xs : List Value} (h : w.ownsRow B E size v n xs) : ∃ ao cap, v = .slice ao n cap := by
  rcases h.2 with ⟨rfl, h0⟩ | ⟨g, cap, cur, rfl, _⟩
  · exact ⟨none, 0, by rw [h0]⟩
  · exact ⟨_, cap, rfl⟩
theorem row_below {w w' : World} {B B2 : Nat} {E : TypeId} {size : Nat} {v : Value} {n : Nat} {xs : List Value} (h : w.ownsRow B E size v n xs) (hb : Below B2 w w') (hv : ∀ k, v.ownBlock = some k → k < B2) : w'.ownsRow B E size v n xs := by
  refine ⟨h.1, ?_⟩
  rcases h.2 with hn | ⟨g, cap, cur, rfl, hb1, hgg, rest⟩
  · exact .inl hn
  · refine .inr ⟨g, cap, cur, rfl, hb1, ?_, rest⟩
    rw [hb.block g (hv g rfl)]
    exact hgg
theorem row_keptB {w w' : World} {B : Nat} {E : TypeId} {size : Nat} {v : Value} {n : Nat} {xs : List Value} (h : w.ownsRow B E size v n xs) (hb : Below w.heap.size w w') : w'.ownsRow B E size v n xs :=
  row_below h hb (fun k hk => (h.lt k hk).2)

/- Numbers. -/
theorem info_int : (Tryz.prog.info? 3).map (fun i => (i.zero, i.size, i.bytes)) = some (some (.int .i64 0), 1, 8) := by kernel_rfl
def iv (l : List Int) : List Value := l.map (Value.int .i64)
theorem iv_len (l : List Int) : (iv l).length = l.length := by simp [iv]
theorem iv_append (l m : List Int) : iv (l ++ m) = iv l ++ iv m := by simp [iv]
def gI (l : List Int) (i : Nat) : Int := l.getD i 0
theorem iv_at (l : List Int) {i : Nat} (h : i < l.length) : (iv l)[i]? = some (.int .i64 (gI l i)) := by
  simp [iv, gI, List.getD_eq_getElem?_getD, List.getElem?_eq_getElem h]
theorem take_succ_gI (l : List Int) {k : Nat} (h : k < l.length) : l.take (k + 1) = l.take k ++ [gI l k] := by
  rw [List.take_succ_eq_append_getElem h, gI, List.getD_eq_getElem?_getD, List.getElem?_eq_getElem h]
  rfl
theorem row_at {w : World} {base : Nat} {v : Value} {l : List Int} (h : w.ownsRow base 3 1 v l.length (iv l)) {i : Nat} (hi : i < l.length) : ∃ g cap, v = .slice (some ⟨g, 0, none⟩) l.length cap ∧ g < w.heap.size ∧ w.cell? ⟨g, i, none⟩ = some (.int .i64 (gI l i)) := by
  obtain ⟨g, cap, rfl, _, hg⟩ := h.form (by omega)
  exact ⟨g, cap, rfl, hg, by rw [h.cellAt i (by omega)]; exact iv_at l hi⟩
/-- A number is put behind others. -/
theorem app_int (w : World) (base : Nat) (ao : Option Addr) (n cap : Nat) (l : List Int) (x : Int) (h : w.ownsRow base 3 1 (.slice ao n cap) n (iv l)) (hn : n ≤ 1000000) (hb : base ≤ w.heap.size) :
    ∃ g cap1 w1, (Builtin.append_ #[41, 41] 41 #[.slice ao n cap, .slice (some ⟨w.heap.size, 0, none⟩) 1 1]).run Tryz.prog (w.alloc (.cells #[.int .i64 x] 3)) = .ok (.slice (some ⟨g, 0, none⟩) (n + 1) cap1) w1 ∧ w1.ownsRow base 3 1 (.slice (some ⟨g, 0, none⟩) (n + 1) cap1) (n + 1) (iv (l ++ [x])) ∧ Below base w w1 := by
  obtain ⟨i0, hi, hz0, hz1, hz2⟩ := info_parts info_int
  obtain ⟨g, cap1, w1, hrun, hown, hgrow, _, _⟩ := run_append_lies (P := Tryz.prog) (w.alloc (.cells #[.int .i64 x] 3)) 41 41 base 3 i0 _ 1 8 Tryz.underlying41 hi hz0 hz1 hz2 rfl (by omega) (.slice ao n cap) n (iv l) (h.alloc _) ⟨w.heap.size, 0, none⟩ 1 1 [.int .i64 x] rfl (World.news_of_block (heap_alloc_new w _)) (by simp [Value.oneCell']) (by omega) (by unfold maxLen; omega) (by omega) (by simp; omega) (w.heap.size + 1) (by simp)
  refine ⟨g, cap1, w1, hrun, by rw [iv_append]; exact hown, ?_⟩
  have h1 : Below base w (w.alloc (.cells #[.int .i64 x] 3)) := (low1 w _).mono hb
  exact h1.trans ⟨hgrow.os, hgrow.tape, hgrow.output, hgrow.size, fun k hk => hgrow.block k (by simp; omega) (fun e => by have := (h.lt k e.symm).1; omega)⟩
/-- Numbers that are read. -/
def RdI (w : World) (ao : Option Addr) (n : Nat) (l : List Int) : Prop := l.length = n ∧ (n = 0 ∨ ∃ b off, ao = some ⟨b, off, none⟩ ∧ b < w.heap.size ∧ ∀ i, i < n → w.cell? ⟨b, off + i, none⟩ = some (.int .i64 (gI l i)))
theorem RdI.kept {w w' : World} {ao : Option Addr} {n : Nat} {l : List Int} (h : RdI w ao n l) (hb : Below w.heap.size w w') : RdI w' ao n l := by
  refine ⟨h.1, ?_⟩
  rcases h.2 with h0 | ⟨b, off, rfl, hlt, hc⟩
  · exact Or.inl h0
  · exact Or.inr ⟨b, off, rfl, Nat.lt_of_lt_of_le hlt hb.size, fun i hi => (hb.cell hlt).trans (hc i hi)⟩
theorem RdI.of_row {w : World} {base : Nat} {ao : Option Addr} {n cap : Nat} {l : List Int} (h : w.ownsRow base 3 1 (.slice ao n cap) n (iv l)) : RdI w ao n l := by
  have hl : l.length = n := by have := h.1; rw [iv_len] at this; omega
  subst hl
  refine ⟨rfl, ?_⟩
  by_cases h0 : l.length = 0
  · exact Or.inl h0
  · right
    obtain ⟨g, c, hv, hg, _⟩ := row_at h (i := 0) (by omega)
    simp only [Value.slice.injEq] at hv
    obtain ⟨rfl, _, rfl⟩ := hv
    refine ⟨g, 0, rfl, hg, fun i hi => ?_⟩
    obtain ⟨g2, c2, hv, _, hc⟩ := row_at h hi
    simp only [Value.slice.injEq, Option.some.injEq, Addr.mk.injEq, and_true, true_and] at hv
    obtain ⟨rfl, rfl⟩ := hv
    rw [Nat.zero_add]
    exact hc

/- Special tokens. -/
def gS (l : List (Int × ByteArray)) (i : Nat) : Int × ByteArray := l.getD i (0, ⟨#[]⟩)
def RdS (w : World) (ao : Option Addr) (n : Nat) (l : List (Int × ByteArray)) : Prop := l.length = n ∧ (n = 0 ∨ ∃ b off, ao = some ⟨b, off, none⟩ ∧ b < w.heap.size ∧ ∀ i, i < n → w.cell? ⟨b, off + i * 2, none⟩ = some (.int .i64 (gS l i).1) ∧ w.cell? ⟨b, off + i * 2 + 1, none⟩ = some (.string (gS l i).2))
theorem RdS.kept {w w' : World} {ao : Option Addr} {n : Nat} {l : List (Int × ByteArray)} (h : RdS w ao n l) (hb : Below w.heap.size w w') : RdS w' ao n l := by
  refine ⟨h.1, ?_⟩
  rcases h.2 with h0 | ⟨b, off, rfl, hlt, hc⟩
  · exact Or.inl h0
  · exact Or.inr ⟨b, off, rfl, Nat.lt_of_lt_of_le hlt hb.size, fun i hi => ⟨(hb.cell hlt).trans (hc i hi).1, (hb.cell hlt).trans (hc i hi).2⟩⟩
theorem gS_mem {l : List (Int × ByteArray)} {i : Nat} (h : i < l.length) : gS l i ∈ l := by
  rw [gS, List.getD_eq_getElem?_getD, List.getElem?_eq_getElem h]
  exact List.getElem_mem h
theorem take_succ_gS (l : List (Int × ByteArray)) {k : Nat} (h : k < l.length) : l.take (k + 1) = l.take k ++ [gS l k] := by
  rw [List.take_succ_eq_append_getElem h, gS, List.getD_eq_getElem?_getD, List.getElem?_eq_getElem h]
  rfl
theorem gS_take (l : List (Int × ByteArray)) {i k : Nat} (h : i < k) : gS (l.take k) i = gS l i := by
  rw [gS, gS, List.getD_eq_getElem?_getD, List.getD_eq_getElem?_getD, List.getElem?_take_of_lt h]
/-- Special tokens as cells. -/
def sv : List (Int × ByteArray) → List Value
  | [] => []
  | m :: r => [.int .i64 m.1, .string m.2] ++ sv r
theorem sv_len (l : List (Int × ByteArray)) : (sv l).length = l.length * 2 := by
  induction l with
  | nil => rfl
  | cons a r ih => simp [sv, ih]; omega
theorem sv_append (l m : List (Int × ByteArray)) : sv (l ++ m) = sv l ++ sv m := by
  induction l with
  | nil => rfl
  | cons a r ih => simp [sv, ih]
theorem sv_one (l : List (Int × ByteArray)) : ∀ u ∈ sv l, u.oneCell' = true := by
  induction l with
  | nil => intro u hu; cases hu
  | cons a r ih =>
    intro u hu
    simp only [sv, List.mem_append, List.mem_cons, List.not_mem_nil, or_false] at hu
    rcases hu with (rfl | rfl) | hu
    · rfl
    · rfl
    · exact ih u hu
theorem sv_get (l : List (Int × ByteArray)) (i : Nat) (hi : i < l.length) : (sv l)[i * 2]? = some (.int .i64 (gS l i).1) ∧ (sv l)[i * 2 + 1]? = some (.string (gS l i).2) := by
  induction l generalizing i with
  | nil => simp at hi
  | cons a r ih =>
    cases i with
    | zero => simp [sv, gS]
    | succ i =>
      have h := ih i (by simpa using hi)
      have e : ∀ k, (sv (a :: r))[(i + 1) * 2 + k]? = (sv r)[i * 2 + k]? := by
        intro k
        rw [show (i + 1) * 2 + k = i * 2 + k + 1 + 1 by omega]
        simp [sv]
      have e0 := e 0
      rw [Nat.add_zero, Nat.add_zero] at e0
      rw [e0, e 1]
      simpa [gS] using h
theorem RdS.of_row {w : World} {base : Nat} {ao : Option Addr} {n cap : Nat} {l : List (Int × ByteArray)} (h : w.ownsRow base 79 2 (.slice ao n cap) n (sv l)) : RdS w ao n l := by
  have hl : l.length = n := by have := h.1; rw [sv_len] at this; omega
  subst hl
  refine ⟨rfl, ?_⟩
  by_cases h0 : l.length = 0
  · exact Or.inl h0
  · right
    obtain ⟨g, c, hv, _, hg⟩ := h.form (by omega)
    simp only [Value.slice.injEq] at hv
    obtain ⟨rfl, _, rfl⟩ := hv
    refine ⟨g, 0, rfl, hg, fun i hi => ?_⟩
    have hf := sv_get l i hi
    rw [Nat.zero_add]
    exact ⟨by rw [h.cellAt _ (by omega)]; exact hf.1, by rw [h.cellAt _ (by omega)]; exact hf.2⟩
theorem info_special : (Tryz.prog.info? 79).map (fun i => (i.zero, i.size, i.bytes)) = some (some (.agg #[.int .i64 0, .string ⟨#[]⟩]), 2, 24) := by kernel_rfl

/- Keys. -/
theorem keyS : Keyed Tryz.prog 9 := string_keyed Tryz.underlying9
theorem keyI : Keyed Tryz.prog 3 := int_keyed Tryz.underlying3
theorem zeroI (w : World) : (zeroValue 3).run Tryz.prog w = .ok (.int .i64 0) w := by kernel_rfl
def sk (s : ByteArray) : Lit := .string s.data.toList
theorem sk_inj {s t : ByteArray} (h : sk s = sk t) : s = t := by
  unfold sk at h
  have h1 : s.data.toList = t.data.toList := by simpa using h
  cases s; cases t
  simp at h1
  simp [h1]
theorem sk_key {s : ByteArray} (hs : s.size ≤ maxLen) : keyOf Tryz.prog 9 (.string s) = some (sk s) := Go.WideMaps.keyOf_string_mk Tryz.underlying9 hs
def ik (n : Int) : Lit := .int .i64 n
theorem ik_inj {a b : Int} (h : ik a = ik b) : a = b := by
  unfold ik at h
  simpa using h
def wfI (n : Int) : Prop := -9223372036854775808 ≤ n ∧ n ≤ 9223372036854775807
theorem ik_key {n : Int} (h : wfI n) : keyOf Tryz.prog 3 (.int .i64 n) = some (ik n) := keyOf_int_mk Tryz.underlying3 (WalkArith.wf_i64 (by have := h.1; have := h.2; omega))
/-- The keys of a set. -/
def ids (L : List (Int × ByteArray)) : List Lit := L.map (fun x => ik x.1)
def txs (L : List (Int × ByteArray)) : List Lit := L.map (fun x => sk x.2)
abbrev MapI (w : World) (b : Nat) (L : List (Int × ByteArray)) : Prop := MapK Tryz.prog 3 3 0 w b (ids L)
abbrev MapT (w : World) (b : Nat) (L : List (Int × ByteArray)) : Prop := MapK Tryz.prog 9 3 0 w b (txs L)

/-- A set of special tokens, or none, as it is read. -/
structure StV (w : World) (v : Value) (ao : Option Addr) (cap : Nat) (L : List (Int × ByteArray)) : Prop where
  rd : RdS w ao L.length L
  is : (v = .pointer none ∧ L = [] ∧ ao = none ∧ cap = 0) ∨ ∃ b mb, v = .pointer (some ⟨b, 0, none⟩) ∧ w.cell? ⟨b, 0, none⟩ = some (.slice ao L.length cap) ∧ w.cell? ⟨b, 1, none⟩ = some (.map (some mb)) ∧ MapI w mb L
theorem StV.kept {w w' : World} {v : Value} {ao : Option Addr} {cap : Nat} {L : List (Int × ByteArray)} (h : StV w v ao cap L) (hb : Below w.heap.size w w') : StV w' v ao cap L := by
  refine ⟨h.rd.kept hb, ?_⟩
  rcases h.is with h0 | ⟨b, mb, h1, h2, h3, h4⟩
  · exact Or.inl h0
  · exact Or.inr ⟨b, mb, h1, (hb.cell (p := ⟨b, _, none⟩) (cell_lt h2)).trans h2, (hb.cell (p := ⟨b, _, none⟩) (cell_lt h3)).trans h3, h4.keep (hb.block mb h4.lt)⟩
theorem StV.nil (w : World) : StV w (.pointer none) none 0 [] := ⟨⟨rfl, Or.inl rfl⟩, Or.inl ⟨rfl, rfl, rfl, rfl⟩⟩
/-- The texts of special tokens. -/
def tL (L : List (Int × ByteArray)) : List (List UInt8) := L.map (fun x => x.2.data.toList)
theorem tL_len (L : List (Int × ByteArray)) : (tL L).length = L.length := by simp [tL]
theorem mT_tL (L : List (Int × ByteArray)) {i : Nat} (h : i < L.length) : mT (tL L) i = (gS L i).2.data.toList := by
  simp [mT, tL, gS, List.getD_eq_getElem?_getD, List.getElem?_eq_getElem h]
theorem mT_len (L : List (Int × ByteArray)) {i : Nat} (h : i < L.length) : (mT (tL L) i).length = (gS L i).2.size := by
  rw [mT_tL L h, Array.length_toList]
  rfl
end Go.Proofs.YtdpmjaelbjjanaaGreat.Mk

namespace Go.Proofs.YtdpmjaelbjjanaaGreat.Mk
open Go.RowKit Go.Maps
set_option linter.unusedVariables false
set_option linter.unusedSimpArgs false

theorem flip_any (n : Int) (w : World) (h : wfI n) : Calls Tryz.prog 111 #[.int .i64 n] w fun e w' => e = .returned (.int .i64 (-1 - n)) ∧ w' = w := by
  obtain ⟨h1, h2⟩ := h
  go_enter Tryz.func111, Tryz.ntmps111
  go_wp2
  go_ret
  exact ⟨rfl, rfl⟩

section
variable {v : Value} {ao : Option Addr} {cap : Nat} {L : List (Int × ByteArray)} {w : World}
theorem all_any (h : StV w v ao cap L) : Calls Tryz.prog 139 #[v] w fun e w' => e = .returned (.slice ao L.length cap) ∧ w' = w := by
  rcases h.is with ⟨rfl, rfl, rfl, rfl⟩ | ⟨b, mb, rfl, h2, h3, h4⟩
  · clear h
    go_enter Tryz.func139, Tryz.ntmps139
    go_wp2
    go_ret
    exact ⟨rfl, rfl⟩
  · clear h h4
    go_enter Tryz.func139, Tryz.ntmps139
    go_wp2
    go_ret
    exact ⟨rfl, rfl⟩

theorem len_any (h : StV w v ao cap L) : Calls Tryz.prog 143 #[v] w fun e w' => e = .returned (.int .i64 L.length) ∧ w' = w := by
  have K := all_any h
  clear h
  go_enter Tryz.func143, Tryz.ntmps143
  go_wp2_with fail
  refine K.mono ?_
  rintro e w' ⟨rfl, rfl⟩
  go_wp2
  go_ret
  exact ⟨rfl, rfl⟩
end

theorem beqS (a b : ByteArray) : (a.toList == b.toList) = decide (a = b) := by
  rw [Bool.eq_iff_iff]
  simp only [beq_iff_eq, decide_eq_true_eq]
  constructor
  · intro h
    rw [ByteArray.toList_eq, ByteArray.toList_eq] at h
    exact ByteArray.ext (Array.ext' h)
  · intro h; rw [h]

theorem bgn_size (s t : ByteArray) : bgn s.data.toList t.data.toList = decide (t.size ≤ s.size ∧ s.extract 0 t.size = t) := by
  unfold bgn
  apply decide_eq_decide.2
  have e1 : t.data.toList.length = t.size := Array.length_toList
  have e2 : s.data.toList.length = s.size := Array.length_toList
  rw [e1, e2]
  constructor
  · rintro ⟨h1, h2⟩
    refine ⟨h1, ?_⟩
    apply ByteArray.ext
    apply Array.ext'
    rw [← h2]
    simp
  · rintro ⟨h1, h2⟩
    refine ⟨h1, ?_⟩
    have : (s.extract 0 t.size).data.toList = t.data.toList := by rw [h2]
    simpa using this

theorem hp_any (s t : ByteArray) (w : World) (hs : s.size ≤ 1000000) (ht : t.size ≤ 1000000) : Calls Tryz.prog 160 #[.string s, .string t] w fun e w' => e = .returned (.bool (bgn s.data.toList t.data.toList)) ∧ w' = w := by
  have hb := bgn_size s t
  generalize bgn s.data.toList t.data.toList = z at hb ⊢
  have HB := hide hb
  clear hb
  by_cases h : t.size ≤ s.size
  · go_enter Tryz.func160, Tryz.ntmps160
    go_wp2
    go_ret
    refine ⟨?_, rfl⟩
    rw [HB.out, decide_eq_decide.2 (show (t.size ≤ s.size ∧ s.extract 0 t.size = t) ↔ s.extract 0 t.size = t from ⟨fun h => h.2, fun e => ⟨h, e⟩⟩), ← beqS]
    rfl
  · go_enter Tryz.func160, Tryz.ntmps160
    go_wp2
    go_ret
    refine ⟨?_, rfl⟩
    rw [HB.out, decide_eq_false (fun e => h e.1)]
    rfl

theorem pre_any (s t : ByteArray) (w : World) (hs : s.size ≤ 1000000) (ht : t.size ≤ 1000000) : Calls Tryz.prog 140 #[.string s, .string t] w fun e w' => e = .returned (.bool (bgn s.data.toList t.data.toList)) ∧ w' = w := by
  have K := hp_any s t w hs ht
  go_enter Tryz.func140, Tryz.ntmps140
  go_wp2_with fail
  refine K.mono ?_
  rintro e w' ⟨rfl, rfl⟩
  go_wp2
  go_ret
  exact ⟨rfl, rfl⟩

/-- How long the longest one so far is. -/
def bl (T : List (List UInt8)) (s : List UInt8) (k : Nat) : Nat := if bst T s k = 0 then 0 else (mT T (bst T s k - 1)).length

theorem bst_yes {T : List (List UInt8)} {s : List UInt8} {k : Nat} (h1 : bl T s k < (mT T k).length) (h2 : bgn s (mT T k) = true) : bst T s (k + 1) = k + 1 ∧ bl T s (k + 1) = (mT T k).length := by
  have e : bst T s (k + 1) = k + 1 := by
    rw [bst, if_pos]
    refine ⟨h2, ?_⟩
    unfold bl at h1
    split at h1
    · exact Or.inl ‹_›
    · exact Or.inr h1
  refine ⟨e, ?_⟩
  unfold bl
  rw [e, if_neg (by omega)]
  rfl

theorem bst_no {T : List (List UInt8)} {s : List UInt8} {k : Nat} (hne : 0 < (mT T k).length) (h : ¬ (bl T s k < (mT T k).length ∧ bgn s (mT T k) = true)) : bst T s (k + 1) = bst T s k ∧ bl T s (k + 1) = bl T s k := by
  have e : bst T s (k + 1) = bst T s k := by
    rw [bst, if_neg]
    rintro ⟨h2, h3⟩
    refine h ⟨?_, h2⟩
    unfold bl
    rcases h3 with h3 | h3
    · rw [if_pos h3]; exact hne
    · split
      · exact hne
      · exact h3
  refine ⟨e, ?_⟩
  unfold bl
  rw [e]

theorem bl_pos {T : List (List UInt8)} {s : List UInt8} {k : Nat} (hne : ∀ i, i < T.length → 0 < (mT T i).length) (hk : k ≤ T.length) : 0 < bl T s k ↔ 0 < bst T s k := by
  unfold bl
  split
  · omega
  · have := hne (bst T s k - 1) (by have := bst_le T s k; omega)
    omega

/-- Texts as they may stand in a set. -/
structure TxOk (L : List (Int × ByteArray)) : Prop where
  few : L.length ≤ 1000
  ne : ∀ i, i < L.length → 0 < (gS L i).2.size
  le : ∀ i, i < L.length → (gS L i).2.size ≤ 1000
  id : ∀ i, i < L.length → wfI (gS L i).1

theorem TxOk.nil : TxOk [] := ⟨by simp, by simp, by simp, by simp⟩

theorem TxOk.pos {L : List (Int × ByteArray)} (h : TxOk L) : ∀ i, i < (tL L).length → 0 < (mT (tL L) i).length := fun i hi => by
  rw [tL_len] at hi
  rw [mT_len L hi]
  exact h.ne i hi

section
variable {v : Value} {ao : Option Addr} {cap : Nat} {L : List (Int × ByteArray)} {w : World}
set_option maxRecDepth 20000 in
set_option maxHeartbeats 4000000 in
theorem at_any (h : StV w v ao cap L) (hk : TxOk L) (s : ByteArray) (hs : s.size ≤ 100000) : Calls Tryz.prog 110 #[v, .string s] w fun e w' => e = .returned (.tuple #[.int .i64 (-(atM (tL L) s.data.toList : Int)), .bool (decide (0 < atM (tL L) s.data.toList))]) ∧ Below w.heap.size w w' := by
  have K := all_any h
  have hfew := hk.few
  have HR := hide h.rd
  have HK := hide hk
  clear h hk
  go_enter Tryz.func110, Tryz.ntmps110
  go_wp2_with fail
  refine K.mono ?_
  rintro e w' ⟨rfl, rfl⟩
  clear K
  go_wp2
  go_loopw [6, 7, 13] (fun a b i wr => ∃ (k m ml : Nat), a = .int .i64 (-(m : Int)) ∧ b = .int .i64 ml ∧ i = .int .i64 k ∧ k ≤ L.length ∧ Hid (m = bst (tL L) s.data.toList k) ∧ Hid (ml = bl (tL L) s.data.toList k) ∧ ml ≤ 1000 ∧ Hid (Below w'.heap.size w' wr)) (fun _ _ i _ => L.length - (intOf i).toNat)
  case atStart => exact ⟨0, 0, 0, rfl, rfl, rfl, Nat.zero_le _, hide rfl, hide rfl, by omega, hide (Below.refl _ _)⟩
  case round =>
    obtain ⟨k, m, ml, rfl, rfl, rfl, hkn, HM, HL, hml, HB⟩ := hrel
    by_cases hlt : k < L.length
    · have hk0 : (0 : Int) ≤ (k : Int) := by omega
      have hk1 : (k : Int) < (L.length : Int) := by omega
      have hxs := HK.out.le k hlt
      have hT := mT_tL L hlt
      have hTl := mT_len L hlt
      have hne := HK.out.ne k hlt
      have h1 := @bst_yes (tL L) s.data.toList k
      have h2 := @bst_no (tL L) s.data.toList k
      rw [hTl, hT, ← HL.out] at h1 h2
      rw [← HM.out] at h2
      have H1 := hide h1
      have H2 := hide (h2 hne)
      clear h1 h2 hT hTl
      rcases HR.out.2 with h0 | ⟨b, off, rfl, hbl0, hc⟩
      · omega
      have c0 := (HB.out.cell (p := ⟨b, _, none⟩) hbl0).trans (hc k hlt).1
      have c1 := (HB.out.cell (p := ⟨b, _, none⟩) hbl0).trans (hc k hlt).2
      have hbl := Nat.lt_of_lt_of_le hbl0 HB.out.size
      clear hc
      have HB2 : Hid (Below w'.heap.size w' (wr.alloc (.cells #[.int .i64 (gS L k).1, .string (gS L k).2] 79))) := hide (HB.out.alloc HB.out.size _)
      generalize (gS L k).1 = xi at *
      generalize (gS L k).2 = x at *
      by_cases hlen : ml < x.size
      · have KP := fun w => pre_any s x w (by omega) (by omega)
        generalize hz : bgn s.data.toList x.data.toList = z at *
        have HZ := hide hz
        clear hz
        go_wp2_with fail
        refine (KP _).mono ?_
        rintro e w2 ⟨rfl, rfl⟩
        cases z with
        | true =>
          have KF : ∀ w, Calls Tryz.prog 111 #[.int .i64 k] w fun e w' => e = .returned (.int .i64 (-1 - k)) ∧ w' = w := fun w => flip_any k w ⟨by omega, by omega⟩
          have d1 : (wr.alloc (.cells #[.int .i64 xi, .string x] 79)).cell? ⟨wr.heap.size, 1, none⟩ = some (.string x) := by simp
          have hbs : wr.heap.size ≤ wr.heap.size := Nat.le_refl _
          have HS := hide (show b < (wr.alloc (.cells #[.int .i64 xi, .string x] 79)).heap.size by simp; omega)
          go_wp2
          generalize hgw : wr.alloc (.cells #[.int .i64 xi, .string x] 79) = wa at *
          clear hgw hbs
          go_quiet ((go_at_call 111; exact Calls.quiet_of_same (KF _)))
          have HB3 := hide (lowD HB2.out nq)
          clear d1 HB2 KP KF
          generalize wa.drewN nq = wd at *
          go_wp2
          refine ⟨⟨k + 1, k + 1, x.size, by go_num, rfl, by go_num, by omega, hide ?_, hide ?_, hxs, HB3⟩, by simp [intOf]; omega⟩
          · rw [(H1.out hlen trivial).1]
          · rw [(H1.out hlen trivial).2]
        | false =>
          go_wp2
          refine ⟨⟨k + 1, m, ml, rfl, rfl, by go_num, by omega, hide ?_, hide ?_, hml, HB2⟩, by simp [intOf]; omega⟩
          · rw [(H2.out (fun e => by cases e.2)).1]
          · rw [(H2.out (fun e => by cases e.2)).2]
      · go_wp2
        refine ⟨⟨k + 1, m, ml, rfl, rfl, by go_num, by omega, hide ?_, hide ?_, hml, HB2⟩, by simp [intOf]; omega⟩
        · rw [(H2.out (fun e => hlen e.1)).1]
        · rw [(H2.out (fun e => hlen e.1)).2]
    · obtain rfl : k = L.length := by omega
      have hp := bl_pos (T := tL L) (s := s.data.toList) HK.out.pos (k := L.length) (by rw [tL_len]; exact Nat.le_refl _)
      rw [← HL.out, ← HM.out] at hp
      have e : atM (tL L) s.data.toList = m := by rw [HM.out, atM, tL_len]
      have HP := hide hp
      have HE := hide e
      clear hp e
      go_wp2
      go_ret2
      refine ⟨?_, HB.out⟩
      have e2 : decide (0 < m) = decide (0 < ml) := decide_eq_decide.2 HP.out.symm
      rw [HE.out, e2]
      simp
end
end Go.Proofs.YtdpmjaelbjjanaaGreat.Mk

namespace Go.Proofs.YtdpmjaelbjjanaaGreat.Mk
open Go.RowKit Go.Maps
set_option linter.unusedVariables false
set_option linter.unusedSimpArgs false

section
variable {v : Value} {ao : Option Addr} {cap : Nat} {L : List (Int × ByteArray)} {w : World}
set_option maxRecDepth 20000 in
set_option maxHeartbeats 4000000 in
theorem atm_yes (h : StV w v ao cap L) (hn : L.length ≤ 1000) (m : Int) (i : Nat) (hi : i < L.length) (hm : m = -1 - i) : Calls Tryz.prog 114 #[v, .int .i64 m] w fun e w' => e = .returned (.tuple #[.agg #[.int .i64 (gS L i).1, .string (gS L i).2], .bool true]) ∧ Below w.heap.size w w' := by
  have hlow := low1 w (.cells #[.int .i64 0, .string ⟨#[]⟩] 79)
  have h1 := h.kept hlow
  have KF := flip_any m (w.alloc (.cells #[.int .i64 0, .string ⟨#[]⟩] 79)) ⟨by omega, by omega⟩
  rw [show -1 - m = (i : Int) by omega] at KF
  have KL := len_any h1
  rcases h1.is with ⟨_, e2, _⟩ | ⟨b, mb, rfl, h2, h3, h4⟩
  · rw [e2] at hi; cases hi
  rcases h1.rd.2 with h0 | ⟨g, off, rfl, hbl0, hc⟩
  · omega
  obtain ⟨c0, c1⟩ := hc i hi
  have hne : b ≠ w.heap.size := fun e => by subst e; simp at h2
  have hng : g ≠ w.heap.size := fun e => by
    subst e
    have : w.heap.size < w.heap.size := by
      rcases h.rd.2 with h0 | ⟨g2, off2, e2, hb2, _⟩
      · omega
      · simp only [Option.some.injEq, Addr.mk.injEq, and_true] at e2
        omega
    omega
  have HL := hide hlow
  have hi0 : (0 : Int) ≤ (i : Int) := by omega
  have hi1 : (i : Int) < (L.length : Int) := by omega
  clear h h1 hlow h3 h4 hc hm
  generalize (gS L i).1 = x1 at *
  generalize (gS L i).2 = x2 at *
  go_enter Tryz.func114, Tryz.ntmps114
  go_wp2_with fail
  refine KF.mono ?_
  rintro e w' ⟨rfl, rfl⟩
  go_wp2_with fail
  refine KL.mono ?_
  rintro e w' ⟨rfl, rfl⟩
  go_wp2
  refine bodyPost_ret (v := .tuple #[.agg #[.int .i64 x1, .string x2], .bool true]) (by simp [results, Tryz.results114, go_sem]) rfl ⟨rfl, low1 _ _⟩

set_option maxRecDepth 20000 in
set_option maxHeartbeats 4000000 in
theorem atm_no (h : StV w v ao cap L) (hn : L.length ≤ 1000) (m : Int) (hm : wfI m) (hi : ¬ (m < 0 ∧ -1 - m < L.length)) : Calls Tryz.prog 114 #[v, .int .i64 m] w fun e w' => e = .returned (.tuple #[.agg #[.int .i64 0, .string ⟨#[]⟩], .bool false]) ∧ Below w.heap.size w w' := by
  have hlow := low1 w (.cells #[.int .i64 0, .string ⟨#[]⟩] 79)
  have h1 := h.kept hlow
  obtain ⟨hm1, hm2⟩ := hm
  have KF := flip_any m (w.alloc (.cells #[.int .i64 0, .string ⟨#[]⟩] 79)) ⟨hm1, hm2⟩
  have KL := len_any h1
  have HL := hide hlow
  clear h h1 hlow
  by_cases hy : -1 - m < 0
  · go_enter Tryz.func114, Tryz.ntmps114
    go_wp2_with fail
    refine KF.mono ?_
    rintro e w' ⟨rfl, rfl⟩
    go_wp2
    refine bodyPost_ret (v := .tuple #[.agg #[.int .i64 0, .string ⟨#[]⟩], .bool false]) (by simp [results, Tryz.results114, go_sem]) rfl ⟨rfl, low1 _ _⟩
  · have hz : (L.length : Int) ≤ -1 - m := by omega
    clear hi
    generalize hq : -1 - m = q at *
    clear hq
    go_enter Tryz.func114, Tryz.ntmps114
    go_wp2_with fail
    refine KF.mono ?_
    rintro e w' ⟨rfl, rfl⟩
    go_wp2_with fail
    refine KL.mono ?_
    rintro e w' ⟨rfl, rfl⟩
    go_wp2
    refine bodyPost_ret (v := .tuple #[.agg #[.int .i64 0, .string ⟨#[]⟩], .bool false]) (by simp [results, Tryz.results114, go_sem]) rfl ⟨rfl, low1 _ _⟩

set_option maxHeartbeats 1000000 in
/-- A mark's number: what is told. -/
theorem id_yes (h : StV w v ao cap L) (hn : L.length ≤ 1000) (m : Int) (i : Nat) (hi : i < L.length) (hm : m = -1 - i) : Calls Tryz.prog 75 #[v, .int .i64 m] w fun e w' => e = .returned (.tuple #[.int .i64 (gS L i).1, .bool true]) ∧ Below w.heap.size w w' := by
  have K := atm_yes h hn m i hi hm
  clear h hm hi hn
  generalize (gS L i).1 = x1 at *
  generalize (gS L i).2 = x2 at *
  go_enter Tryz.func75, Tryz.ntmps75
  go_wp2_with fail
  refine K.mono ?_
  rintro e w1 ⟨rfl, hb⟩
  have HB := hide (hb.alloc hb.size (.cells #[.int .i64 x1, .string x2] 79))
  clear hb K
  go_wp2
  go_ret2
  exact ⟨rfl, HB.out⟩

theorem id_no (h : StV w v ao cap L) (hn : L.length ≤ 1000) (m : Int) (hm : wfI m) (hi : ¬ (m < 0 ∧ -1 - m < L.length)) : Calls Tryz.prog 75 #[v, .int .i64 m] w fun e w' => e = .returned (.tuple #[.int .i64 0, .bool false]) ∧ Below w.heap.size w w' := by
  have K := atm_no h hn m hm hi
  clear h hi
  go_enter Tryz.func75, Tryz.ntmps75
  go_wp2_with fail
  refine K.mono ?_
  rintro e w1 ⟨rfl, hb⟩
  have HB := hide (hb.alloc hb.size (.cells #[.int .i64 0, .string ⟨#[]⟩] 79))
  clear hb K
  go_wp2
  go_ret2
  exact ⟨rfl, HB.out⟩

theorem mark_nil (n : Int) : Calls Tryz.prog 89 #[.pointer none, .int .i64 n] w fun e w' => e = .returned (.tuple #[.int .i64 0, .bool false]) ∧ w' = w := by
  go_enter Tryz.func89, Tryz.ntmps89
  go_wp2
  go_ret2
  exact ⟨rfl, rfl⟩

theorem mark_no (h : StV w v ao cap L) (n : Int) (hw : wfI n) (hn : ik n ∉ ids L) : Calls Tryz.prog 89 #[v, .int .i64 n] w fun e w' => e = .returned (.tuple #[.int .i64 0, .bool false]) ∧ w' = w := by
  rcases h.is with ⟨rfl, _, _, _⟩ | ⟨b, mb, rfl, h2, h3, h4⟩
  · exact mark_nil n
  have hlk := (h4.look keyI Tryz.underlying190 Tryz.underlying3 zeroI (ik_key hw)).1 hn
  clear h h4 hn h2
  go_enter Tryz.func89, Tryz.ntmps89
  go_wp2
  go_ret2
  exact ⟨rfl, rfl⟩

theorem mark_yes (h : StV w v ao cap L) (hl : L.length ≤ 1000) (n : Int) (hw : wfI n) (i : Nat) (hi : (ids L)[i]? = some (ik n)) : Calls Tryz.prog 89 #[v, .int .i64 n] w fun e w' => e = .returned (.tuple #[.int .i64 (-1 - i), .bool true]) ∧ w' = w := by
  have hiL : i < L.length := by
    have := (List.getElem?_eq_some_iff.1 hi).1
    simpa [ids] using this
  rcases h.is with ⟨_, e, _, _⟩ | ⟨b, mb, rfl, h2, h3, h4⟩
  · rw [e] at hiL; cases hiL
  have hlk := (h4.look keyI Tryz.underlying190 Tryz.underlying3 zeroI (ik_key hw)).2 i hi
  rw [Int.zero_add] at hlk
  have KF := flip_any i w ⟨by omega, by omega⟩
  clear h h4 hi h2
  go_enter Tryz.func89, Tryz.ntmps89
  go_wp2_with fail
  refine KF.mono ?_
  rintro e w1 ⟨rfl, rfl⟩
  go_wp2
  go_ret2
  exact ⟨rfl, rfl⟩
end
end Go.Proofs.YtdpmjaelbjjanaaGreat.Mk
