/- Marks: rows of numbers and of special tokens, and a set, as they lie in memory. Contracts of package mark: flip, all, Len, at, At, Id, Mark, Bytes. Contracts of package mark: at, Id, Mark, Bytes, Parse. -/
import Derived.Test.YtdpmjaelbjjanaaGreatZQa12
import Derived.Test.YtdpmjaelbjjanaaGreatZQa10
import Derived.DeepKeys4
import Derived.BigQuiet
import Derived.Lib.AppendZeros
namespace Go.Proofs.YtdpmjaelbjjanaaGreat.Mk
open Go.RowKit Go.Maps
set_option linter.unusedVariables false
set_option linter.unusedSimpArgs false

theorem low1 (w : World) (o : Obj) : Below w.heap.size w (w.alloc o) := (Below.refl _ _).alloc (Nat.le_refl _) _
theorem lowD {B : Nat} {w w' : World} (h : Below B w w') (n : Nat) : Below B w (w'.drewN n) := h.trans ⟨rfl, rfl, rfl, Nat.le_refl _, fun _ _ => rfl⟩
theorem cell_lt {W : World} {b o : Nat} {v : Value} (h : W.cell? ⟨b, o, none⟩ = some v) : b < W.heap.size := by
  rcases Nat.lt_or_ge b W.heap.size with hb | hb
  · exact hb
  · simp [World.cell?, Array.getElem?_eq_none hb] at h
theorem row_form {w : World} {B : Nat} {E : TypeId} {size : Nat} {v : Value} {n : Nat} {xs : List Value} (h : w.ownsRow B E size v n xs) : ∃ ao cap, v = .slice ao n cap := by
  rcases h.2 with ⟨rfl, h0⟩ | ⟨g, cap, cur, rfl, _⟩
  · exact ⟨none, 0, by rw [h0]⟩
  · exact ⟨_, cap, rfl⟩
theorem row_below {w w' : World} {B B2 : Nat} {E : TypeId} {size : Nat} {v : Value} {n : Nat} {xs : List Value} (h : w.ownsRow B E size v n xs) (hb : Below B2 w w') (hv : ∀ k, v.ownBlock = some k → k < B2) : w'.ownsRow B E size v n xs := by
  refine ⟨h.1, ?_⟩
  rcases h.2 with hn | ⟨g, cap, cur, rfl, hb1, hgg, rest⟩
  · exact .inl hn
  · refine .inr ⟨g, cap, cur, rfl, hb1, ?_, rest⟩
    rw [hb.block g (hv g rfl)]
    exact hgg
theorem row_keptB {w w' : World} {B : Nat} {E : TypeId} {size : Nat} {v : Value} {n : Nat} {xs : List Value} (h : w.ownsRow B E size v n xs) (hb : Below w.heap.size w w') : w'.ownsRow B E size v n xs :=
  row_below h hb (fun k hk => (h.lt k hk).2)

/- Numbers. -/
theorem info_int : (Tryz.prog.info? 3).map (fun i => (i.zero, i.size, i.bytes)) = some (some (.int .i64 0), 1, 8) := by kernel_rfl
def iv (l : List Int) : List Value := l.map (Value.int .i64)
theorem iv_len (l : List Int) : (iv l).length = l.length := by simp [iv]
theorem iv_append (l m : List Int) : iv (l ++ m) = iv l ++ iv m := by simp [iv]
def gI (l : List Int) (i : Nat) : Int := l.getD i 0
theorem iv_at (l : List Int) {i : Nat} (h : i < l.length) : (iv l)[i]? = some (.int .i64 (gI l i)) := by
  simp [iv, gI, List.getD_eq_getElem?_getD, List.getElem?_eq_getElem h]
theorem row_at {w : World} {base : Nat} {v : Value} {l : List Int} (h : w.ownsRow base 3 1 v l.length (iv l)) {i : Nat} (hi : i < l.length) : ∃ g cap, v = .slice (some ⟨g, 0, none⟩) l.length cap ∧ g < w.heap.size ∧ w.cell? ⟨g, i, none⟩ = some (.int .i64 (gI l i)) := by
  obtain ⟨g, cap, rfl, _, hg⟩ := h.form (by omega)
  exact ⟨g, cap, rfl, hg, by rw [h.cellAt i (by omega)]; exact iv_at l hi⟩
/-- A number is put behind others. -/
theorem app_int (w : World) (base : Nat) (ao : Option Addr) (n cap : Nat) (l : List Int) (x : Int) (h : w.ownsRow base 3 1 (.slice ao n cap) n (iv l)) (hn : n ≤ 1000000) (hb : base ≤ w.heap.size) :
    ∃ g cap1 w1, (Builtin.append_ #[41, 41] 41 #[.slice ao n cap, .slice (some ⟨w.heap.size, 0, none⟩) 1 1]).run Tryz.prog (w.alloc (.cells #[.int .i64 x] 3)) = .ok (.slice (some ⟨g, 0, none⟩) (n + 1) cap1) w1 ∧ w1.ownsRow base 3 1 (.slice (some ⟨g, 0, none⟩) (n + 1) cap1) (n + 1) (iv (l ++ [x])) ∧ Below base w w1 := by
  obtain ⟨i0, hi, hz0, hz1, hz2⟩ := info_parts info_int
  obtain ⟨g, cap1, w1, hrun, hown, hgrow, _, _⟩ := run_append_lies (P := Tryz.prog) (w.alloc (.cells #[.int .i64 x] 3)) 41 41 base 3 i0 _ 1 8 Tryz.underlying41 hi hz0 hz1 hz2 rfl (by omega) (.slice ao n cap) n (iv l) (h.alloc _) ⟨w.heap.size, 0, none⟩ 1 1 [.int .i64 x] rfl (World.news_of_block (heap_alloc_new w _)) (by simp [Value.oneCell']) (by omega) (by unfold maxLen; omega) (by omega) (by simp; omega) (w.heap.size + 1) (by simp)
  refine ⟨g, cap1, w1, hrun, by rw [iv_append]; exact hown, ?_⟩
  have h1 : Below base w (w.alloc (.cells #[.int .i64 x] 3)) := (low1 w _).mono hb
  exact h1.trans ⟨hgrow.os, hgrow.tape, hgrow.output, hgrow.size, fun k hk => hgrow.block k (by simp; omega) (fun e => by have := (h.lt k e.symm).1; omega)⟩
/-- Numbers that are read. -/
def RdI (w : World) (ao : Option Addr) (n : Nat) (l : List Int) : Prop := l.length = n ∧ (n = 0 ∨ ∃ b off, ao = some ⟨b, off, none⟩ ∧ b < w.heap.size ∧ ∀ i, i < n → w.cell? ⟨b, off + i, none⟩ = some (.int .i64 (gI l i)))
theorem RdI.kept {w w' : World} {ao : Option Addr} {n : Nat} {l : List Int} (h : RdI w ao n l) (hb : Below w.heap.size w w') : RdI w' ao n l := by
  refine ⟨h.1, ?_⟩
  rcases h.2 with h0 | ⟨b, off, rfl, hlt, hc⟩
  · exact Or.inl h0
  · exact Or.inr ⟨b, off, rfl, Nat.lt_of_lt_of_le hlt hb.size, fun i hi => (hb.cell hlt).trans (hc i hi)⟩
theorem RdI.of_row {w : World} {base : Nat} {ao : Option Addr} {n cap : Nat} {l : List Int} (h : w.ownsRow base 3 1 (.slice ao n cap) n (iv l)) : RdI w ao n l := by
  have hl : l.length = n := by have := h.1; rw [iv_len] at this; omega
  subst hl
  refine ⟨rfl, ?_⟩
  by_cases h0 : l.length = 0
  · exact Or.inl h0
  · right
    obtain ⟨g, c, hv, hg, _⟩ := row_at h (i := 0) (by omega)
    simp only [Value.slice.injEq] at hv
    obtain ⟨rfl, _, rfl⟩ := hv
    refine ⟨g, 0, rfl, hg, fun i hi => ?_⟩
    obtain ⟨g2, c2, hv, _, hc⟩ := row_at h hi
    simp only [Value.slice.injEq, Option.some.injEq, Addr.mk.injEq, and_true, true_and] at hv
    obtain ⟨rfl, rfl⟩ := hv
    rw [Nat.zero_add]
    exact hc

/- Special tokens. -/
def gS (l : List (Int × ByteArray)) (i : Nat) : Int × ByteArray := l.getD i (0, ⟨#[]⟩)
def RdS (w : World) (ao : Option Addr) (n : Nat) (l : List (Int × ByteArray)) : Prop := l.length = n ∧ (n = 0 ∨ ∃ b off, ao = some ⟨b, off, none⟩ ∧ b < w.heap.size ∧ ∀ i, i < n → w.cell? ⟨b, off + i * 2, none⟩ = some (.int .i64 (gS l i).1) ∧ w.cell? ⟨b, off + i * 2 + 1, none⟩ = some (.string (gS l i).2))
theorem RdS.kept {w w' : World} {ao : Option Addr} {n : Nat} {l : List (Int × ByteArray)} (h : RdS w ao n l) (hb : Below w.heap.size w w') : RdS w' ao n l := by
  refine ⟨h.1, ?_⟩
  rcases h.2 with h0 | ⟨b, off, rfl, hlt, hc⟩
  · exact Or.inl h0
  · exact Or.inr ⟨b, off, rfl, Nat.lt_of_lt_of_le hlt hb.size, fun i hi => ⟨(hb.cell hlt).trans (hc i hi).1, (hb.cell hlt).trans (hc i hi).2⟩⟩
theorem gS_mem {l : List (Int × ByteArray)} {i : Nat} (h : i < l.length) : gS l i ∈ l := by
  rw [gS, List.getD_eq_getElem?_getD, List.getElem?_eq_getElem h]
  exact List.getElem_mem h
theorem take_succ_gS (l : List (Int × ByteArray)) {k : Nat} (h : k < l.length) : l.take (k + 1) = l.take k ++ [gS l k] := by
  rw [List.take_succ_eq_append_getElem h, gS, List.getD_eq_getElem?_getD, List.getElem?_eq_getElem h]
  rfl
theorem gS_take (l : List (Int × ByteArray)) {i k : Nat} (h : i < k) : gS (l.take k) i = gS l i := by
  rw [gS, gS, List.getD_eq_getElem?_getD, List.getD_eq_getElem?_getD, List.getElem?_take_of_lt h]
/-- Special tokens as cells. -/
def sv : List (Int × ByteArray) → List Value
  | [] => []
  | m :: r => [.int .i64 m.1, .string m.2] ++ sv r
theorem sv_len (l : List (Int × ByteArray)) : (sv l).length = l.length * 2 := by
  induction l with
  | nil => rfl
  | cons a r ih => simp [sv, ih]; omega
theorem sv_get (l : List (Int × ByteArray)) (i : Nat) (hi : i < l.length) : (sv l)[i * 2]? = some (.int .i64 (gS l i).1) ∧ (sv l)[i * 2 + 1]? = some (.string (gS l i).2) := by
  induction l generalizing i with
  | nil => simp at hi
  | cons a r ih =>
    cases i with
    | zero => simp [sv, gS]
    | succ i =>
      have h := ih i (by simpa using hi)
      have e : ∀ k, (sv (a :: r))[(i + 1) * 2 + k]? = (sv r)[i * 2 + k]? := by
        intro k
        rw [show (i + 1) * 2 + k = i * 2 + k + 1 + 1 by omega]
        simp [sv]
      have e0 := e 0
      rw [Nat.add_zero, Nat.add_zero] at e0
      rw [e0, e 1]
      simpa [gS] using h
theorem RdS.of_row {w : World} {base : Nat} {ao : Option Addr} {n cap : Nat} {l : List (Int × ByteArray)} (h : w.ownsRow base 79 2 (.slice ao n cap) n (sv l)) : RdS w ao n l := by
  have hl : l.length = n := by have := h.1; rw [sv_len] at this; omega
  subst hl
  refine ⟨rfl, ?_⟩
  by_cases h0 : l.length = 0
  · exact Or.inl h0
  · right
    obtain ⟨g, c, hv, _, hg⟩ := h.form (by omega)
    simp only [Value.slice.injEq] at hv
    obtain ⟨rfl, _, rfl⟩ := hv
    refine ⟨g, 0, rfl, hg, fun i hi => ?_⟩
    have hf := sv_get l i hi
    rw [Nat.zero_add]
    exact ⟨by rw [h.cellAt _ (by omega)]; exact hf.1, by rw [h.cellAt _ (by omega)]; exact hf.2⟩
theorem info_special : (Tryz.prog.info? 79).map (fun i => (i.zero, i.size, i.bytes)) = some (some (.agg #[.int .i64 0, .string ⟨#[]⟩]), 2, 24) := by kernel_rfl

/- Keys. -/
theorem keyS : Keyed Tryz.prog 9 := string_keyed Tryz.underlying9
theorem keyI : Keyed Tryz.prog 3 := int_keyed Tryz.underlying3
theorem zeroI (w : World) : (zeroValue 3).run Tryz.prog w = .ok (.int .i64 0) w := by kernel_rfl
def sk (s : ByteArray) : Lit := .string s.data.toList
theorem sk_inj {s t : ByteArray} (h : sk s = sk t) : s = t := by
  unfold sk at h
  have h1 : s.data.toList = t.data.toList := by simpa using h
  cases s; cases t
  simp at h1
  simp [h1]
theorem sk_key {s : ByteArray} (hs : s.size ≤ maxLen) : keyOf Tryz.prog 9 (.string s) = some (sk s) := Go.WideMaps.keyOf_string_mk Tryz.underlying9 hs
def ik (n : Int) : Lit := .int .i64 n
theorem ik_inj {a b : Int} (h : ik a = ik b) : a = b := by
  unfold ik at h
  simpa using h
def wfI (n : Int) : Prop := -9223372036854775808 ≤ n ∧ n ≤ 9223372036854775807
theorem ik_key {n : Int} (h : wfI n) : keyOf Tryz.prog 3 (.int .i64 n) = some (ik n) := keyOf_int_mk Tryz.underlying3 (WalkArith.wf_i64 (by have := h.1; have := h.2; omega))
/-- The keys of a set. -/
def ids (L : List (Int × ByteArray)) : List Lit := L.map (fun x => ik x.1)
def txs (L : List (Int × ByteArray)) : List Lit := L.map (fun x => sk x.2)
abbrev MapI (w : World) (b : Nat) (L : List (Int × ByteArray)) : Prop := MapK Tryz.prog 3 3 0 w b (ids L)
abbrev MapT (w : World) (b : Nat) (L : List (Int × ByteArray)) : Prop := MapK Tryz.prog 9 3 0 w b (txs L)

/-- A set of special tokens, or none, as it is read. -/
structure StV (w : World) (v : Value) (ao : Option Addr) (cap : Nat) (L : List (Int × ByteArray)) : Prop where
  rd : RdS w ao L.length L
  is : (v = .pointer none ∧ L = [] ∧ ao = none ∧ cap = 0) ∨ ∃ b mb, v = .pointer (some ⟨b, 0, none⟩) ∧ w.cell? ⟨b, 0, none⟩ = some (.slice ao L.length cap) ∧ w.cell? ⟨b, 1, none⟩ = some (.map (some mb)) ∧ MapI w mb L
theorem StV.kept {w w' : World} {v : Value} {ao : Option Addr} {cap : Nat} {L : List (Int × ByteArray)} (h : StV w v ao cap L) (hb : Below w.heap.size w w') : StV w' v ao cap L := by
  refine ⟨h.rd.kept hb, ?_⟩
  rcases h.is with h0 | ⟨b, mb, h1, h2, h3, h4⟩
  · exact Or.inl h0
  · exact Or.inr ⟨b, mb, h1, (hb.cell (p := ⟨b, _, none⟩) (cell_lt h2)).trans h2, (hb.cell (p := ⟨b, _, none⟩) (cell_lt h3)).trans h3, h4.keep (hb.block mb h4.lt)⟩
theorem StV.nil (w : World) : StV w (.pointer none) none 0 [] := ⟨⟨rfl, Or.inl rfl⟩, Or.inl ⟨rfl, rfl, rfl, rfl⟩⟩
end Go.Proofs.YtdpmjaelbjjanaaGreat.Mk

namespace Go.Proofs.YtdpmjaelbjjanaaGreat.Mk
open Go.RowKit Go.Maps
set_option linter.unusedVariables false
set_option linter.unusedSimpArgs false

theorem flip_any (n : Int) (w : World) (h : wfI n) : Calls Tryz.prog 111 #[.int .i64 n] w fun e w' => e = .returned (.int .i64 (-1 - n)) ∧ w' = w := by
  obtain ⟨h1, h2⟩ := h
  go_enter Tryz.func111, Tryz.ntmps111
  go_wp2
  go_ret
  exact ⟨rfl, rfl⟩

section
variable {v : Value} {ao : Option Addr} {cap : Nat} {L : List (Int × ByteArray)} {w : World}
theorem all_any (h : StV w v ao cap L) : Calls Tryz.prog 139 #[v] w fun e w' => e = .returned (.slice ao L.length cap) ∧ w' = w := by
  rcases h.is with ⟨rfl, rfl, rfl, rfl⟩ | ⟨b, mb, rfl, h2, h3, h4⟩
  · clear h
    go_enter Tryz.func139, Tryz.ntmps139
    go_wp2
    go_ret
    exact ⟨rfl, rfl⟩
  · clear h h4
    go_enter Tryz.func139, Tryz.ntmps139
    go_wp2
    go_ret
    exact ⟨rfl, rfl⟩

theorem len_any (h : StV w v ao cap L) : Calls Tryz.prog 143 #[v] w fun e w' => e = .returned (.int .i64 L.length) ∧ w' = w := by
  have K := all_any h
  clear h
  go_enter Tryz.func143, Tryz.ntmps143
  go_wp2_with fail
  refine K.mono ?_
  rintro e w' ⟨rfl, rfl⟩
  go_wp2
  go_ret
  exact ⟨rfl, rfl⟩
end

theorem beqS (a b : ByteArray) : (a.toList == b.toList) = decide (a = b) := by
  rw [Bool.eq_iff_iff]
  simp only [beq_iff_eq, decide_eq_true_eq]
  constructor
  · intro h
    rw [ByteArray.toList_eq, ByteArray.toList_eq] at h
    exact ByteArray.ext (Array.ext' h)
  · intro h; rw [h]

/-- How long the longest one so far is. -/
def bl (T : List (List UInt8)) (s : List UInt8) (k : Nat) : Nat := if bst T s k = 0 then 0 else (mT T (bst T s k - 1)).length

section
variable {v : Value} {ao : Option Addr} {cap : Nat} {L : List (Int × ByteArray)} {w : World}
end
end Go.Proofs.YtdpmjaelbjjanaaGreat.Mk

namespace Go.Proofs.YtdpmjaelbjjanaaGreat.Mk
open Go.RowKit Go.Maps
set_option linter.unusedVariables false
set_option linter.unusedSimpArgs false

section
variable {v : Value} {ao : Option Addr} {cap : Nat} {L : List (Int × ByteArray)} {w : World}
set_option maxRecDepth 20000 in
set_option maxHeartbeats 4000000 in
theorem atm_yes (h : StV w v ao cap L) (hn : L.length ≤ 1000) (m : Int) (i : Nat) (hi : i < L.length) (hm : m = -1 - i) : Calls Tryz.prog 114 #[v, .int .i64 m] w fun e w' => e = .returned (.tuple #[.agg #[.int .i64 (gS L i).1, .string (gS L i).2], .bool true]) ∧ Below w.heap.size w w' := by
  have hlow := low1 w (.cells #[.int .i64 0, .string ⟨#[]⟩] 79)
  have h1 := h.kept hlow
  have KF := flip_any m (w.alloc (.cells #[.int .i64 0, .string ⟨#[]⟩] 79)) ⟨by omega, by omega⟩
  rw [show -1 - m = (i : Int) by omega] at KF
  have KL := len_any h1
  rcases h1.is with ⟨_, e2, _⟩ | ⟨b, mb, rfl, h2, h3, h4⟩
  · rw [e2] at hi; cases hi
  rcases h1.rd.2 with h0 | ⟨g, off, rfl, hbl0, hc⟩
  · omega
  obtain ⟨c0, c1⟩ := hc i hi
  have hne : b ≠ w.heap.size := fun e => by subst e; simp at h2
  have hng : g ≠ w.heap.size := fun e => by
    subst e
    have : w.heap.size < w.heap.size := by
      rcases h.rd.2 with h0 | ⟨g2, off2, e2, hb2, _⟩
      · omega
      · simp only [Option.some.injEq, Addr.mk.injEq, and_true] at e2
        omega
    omega
  have HL := hide hlow
  have hi0 : (0 : Int) ≤ (i : Int) := by omega
  have hi1 : (i : Int) < (L.length : Int) := by omega
  clear h h1 hlow h3 h4 hc hm
  generalize (gS L i).1 = x1 at *
  generalize (gS L i).2 = x2 at *
  go_enter Tryz.func114, Tryz.ntmps114
  go_wp2_with fail
  refine KF.mono ?_
  rintro e w' ⟨rfl, rfl⟩
  go_wp2_with fail
  refine KL.mono ?_
  rintro e w' ⟨rfl, rfl⟩
  go_wp2
  refine bodyPost_ret (v := .tuple #[.agg #[.int .i64 x1, .string x2], .bool true]) (by simp [results, Tryz.results114, go_sem]) rfl ⟨rfl, low1 _ _⟩

set_option maxRecDepth 20000 in
set_option maxHeartbeats 4000000 in
theorem atm_no (h : StV w v ao cap L) (hn : L.length ≤ 1000) (m : Int) (hm : wfI m) (hi : ¬ (m < 0 ∧ -1 - m < L.length)) : Calls Tryz.prog 114 #[v, .int .i64 m] w fun e w' => e = .returned (.tuple #[.agg #[.int .i64 0, .string ⟨#[]⟩], .bool false]) ∧ Below w.heap.size w w' := by
  have hlow := low1 w (.cells #[.int .i64 0, .string ⟨#[]⟩] 79)
  have h1 := h.kept hlow
  obtain ⟨hm1, hm2⟩ := hm
  have KF := flip_any m (w.alloc (.cells #[.int .i64 0, .string ⟨#[]⟩] 79)) ⟨hm1, hm2⟩
  have KL := len_any h1
  have HL := hide hlow
  clear h h1 hlow
  by_cases hy : -1 - m < 0
  · go_enter Tryz.func114, Tryz.ntmps114
    go_wp2_with fail
    refine KF.mono ?_
    rintro e w' ⟨rfl, rfl⟩
    go_wp2
    refine bodyPost_ret (v := .tuple #[.agg #[.int .i64 0, .string ⟨#[]⟩], .bool false]) (by simp [results, Tryz.results114, go_sem]) rfl ⟨rfl, low1 _ _⟩
  · have hz : (L.length : Int) ≤ -1 - m := by omega
    clear hi
    generalize hq : -1 - m = q at *
    clear hq
    go_enter Tryz.func114, Tryz.ntmps114
    go_wp2_with fail
    refine KF.mono ?_
    rintro e w' ⟨rfl, rfl⟩
    go_wp2_with fail
    refine KL.mono ?_
    rintro e w' ⟨rfl, rfl⟩
    go_wp2
    refine bodyPost_ret (v := .tuple #[.agg #[.int .i64 0, .string ⟨#[]⟩], .bool false]) (by simp [results, Tryz.results114, go_sem]) rfl ⟨rfl, low1 _ _⟩

set_option maxHeartbeats 1000000 in
/-- A mark's number: what is told. -/
theorem id_yes (h : StV w v ao cap L) (hn : L.length ≤ 1000) (m : Int) (i : Nat) (hi : i < L.length) (hm : m = -1 - i) : Calls Tryz.prog 75 #[v, .int .i64 m] w fun e w' => e = .returned (.tuple #[.int .i64 (gS L i).1, .bool true]) ∧ Below w.heap.size w w' := by
  have K := atm_yes h hn m i hi hm
  clear h hm hi hn
  generalize (gS L i).1 = x1 at *
  generalize (gS L i).2 = x2 at *
  go_enter Tryz.func75, Tryz.ntmps75
  go_wp2_with fail
  refine K.mono ?_
  rintro e w1 ⟨rfl, hb⟩
  have HB := hide (hb.alloc hb.size (.cells #[.int .i64 x1, .string x2] 79))
  clear hb K
  go_wp2
  go_ret2
  exact ⟨rfl, HB.out⟩

theorem id_no (h : StV w v ao cap L) (hn : L.length ≤ 1000) (m : Int) (hm : wfI m) (hi : ¬ (m < 0 ∧ -1 - m < L.length)) : Calls Tryz.prog 75 #[v, .int .i64 m] w fun e w' => e = .returned (.tuple #[.int .i64 0, .bool false]) ∧ Below w.heap.size w w' := by
  have K := atm_no h hn m hm hi
  clear h hi
  go_enter Tryz.func75, Tryz.ntmps75
  go_wp2_with fail
  refine K.mono ?_
  rintro e w1 ⟨rfl, hb⟩
  have HB := hide (hb.alloc hb.size (.cells #[.int .i64 0, .string ⟨#[]⟩] 79))
  clear hb K
  go_wp2
  go_ret2
  exact ⟨rfl, HB.out⟩

theorem mark_nil (n : Int) : Calls Tryz.prog 89 #[.pointer none, .int .i64 n] w fun e w' => e = .returned (.tuple #[.int .i64 0, .bool false]) ∧ w' = w := by
  go_enter Tryz.func89, Tryz.ntmps89
  go_wp2
  go_ret2
  exact ⟨rfl, rfl⟩

theorem mark_no (h : StV w v ao cap L) (n : Int) (hw : wfI n) (hn : ik n ∉ ids L) : Calls Tryz.prog 89 #[v, .int .i64 n] w fun e w' => e = .returned (.tuple #[.int .i64 0, .bool false]) ∧ w' = w := by
  rcases h.is with ⟨rfl, _, _, _⟩ | ⟨b, mb, rfl, h2, h3, h4⟩
  · exact mark_nil n
  have hlk := (h4.look keyI Tryz.underlying190 Tryz.underlying3 zeroI (ik_key hw)).1 hn
  clear h h4 hn h2
  go_enter Tryz.func89, Tryz.ntmps89
  go_wp2
  go_ret2
  exact ⟨rfl, rfl⟩

theorem mark_yes (h : StV w v ao cap L) (hl : L.length ≤ 1000) (n : Int) (hw : wfI n) (i : Nat) (hi : (ids L)[i]? = some (ik n)) : Calls Tryz.prog 89 #[v, .int .i64 n] w fun e w' => e = .returned (.tuple #[.int .i64 (-1 - i), .bool true]) ∧ w' = w := by
  have hiL : i < L.length := by
    have := (List.getElem?_eq_some_iff.1 hi).1
    simpa [ids] using this
  rcases h.is with ⟨_, e, _, _⟩ | ⟨b, mb, rfl, h2, h3, h4⟩
  · rw [e] at hiL; cases hiL
  have hlk := (h4.look keyI Tryz.underlying190 Tryz.underlying3 zeroI (ik_key hw)).2 i hi
  rw [Int.zero_add] at hlk
  have KF := flip_any i w ⟨by omega, by omega⟩
  clear h h4 hi h2
  go_enter Tryz.func89, Tryz.ntmps89
  go_wp2_with fail
  refine KF.mono ?_
  rintro e w1 ⟨rfl, rfl⟩
  go_wp2
  go_ret2
  exact ⟨rfl, rfl⟩
end
end Go.Proofs.YtdpmjaelbjjanaaGreat.Mk
