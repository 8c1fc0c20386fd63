/- A table of tokens as it lies in memory. Contracts of package token: Len, Bytes, Find, Pair, Parents, Longest; of a table, and of none. Contracts of package token: enter. Contracts of package token: enter, ofBytes. Contract of package token: ofBytes. Tables of tokens: the plain mathematics. How bytes become tokens: the plain mathematics. -/
import Derived.Test.YtdpmjaelbjjanaaGreatZQa12
import Derived.Test.YtdpmjaelbjjanaaGreatProg
import Derived.DeepKeys4
import Derived.BigRegion
import Derived.Laws.BytesArg
namespace Go.Proofs.YtdpmjaelbjjanaaGreat
open Go.RowKit Go.Maps
set_option linter.unusedVariables false
set_option linter.unusedSimpArgs false

theorem laidOutT : laidOutB Tryz.prog = true := by kernel_rfl
theorem keyS : Keyed Tryz.prog 9 := string_keyed Tryz.underlying9
theorem keyM : Keyed Tryz.prog 77 := Keyed.of_law (deep_law_laid laidOutT (m := 5) (by decide) (of_decide_eq_true (by kernel_rfl)) (by kernel_rfl) (by kernel_rfl))
theorem zeroI (w : World) : (zeroValue 3).run Tryz.prog w = .ok (.int .i64 0) w := by kernel_rfl

def sk (s : ByteArray) : Lit := .string s.data.toList
theorem sk_inj {s t : ByteArray} (h : sk s = sk t) : s = t := by
  unfold sk at h
  have h1 : s.data.toList = t.data.toList := by simpa using h
  cases s; cases t
  simp at h1
  simp [h1]
theorem sk_mem {s : ByteArray} {tx : List ByteArray} : sk s ∈ tx.map sk ↔ s ∈ tx := by
  constructor
  · intro h
    obtain ⟨t, ht, e⟩ := List.mem_map.1 h
    rw [← sk_inj e]; exact ht
  · exact List.mem_map_of_mem
theorem sk_key {s : ByteArray} (hs : s.size ≤ maxLen) : keyOf Tryz.prog 9 (.string s) = some (sk s) := Go.WideMaps.keyOf_string_mk Tryz.underlying9 hs

def mv (m : Int × Int) : Value := .agg #[.int .i64 m.1, .int .i64 m.2]
def kp (m : Int × Int) : Lit := .string (keyBytes [.int .i64 m.1, .int .i64 m.2])
def wfM (m : Int × Int) : Prop := (Lit.int .i64 m.1).wf = true ∧ (Lit.int .i64 m.2).wf = true
theorem kp_key {m : Int × Int} (h : wfM m) : keyOf Tryz.prog 77 (mv m) = some (kp m) := by
  have hk : Tryz.prog.keyType 77 = true := by kernel_rfl
  have hs : Tryz.prog.types.size = Tryz.prog.types.size - 1 + 1 := by kernel_rfl
  have hc : Tryz.prog.cellsOf 77 = 2 := by kernel_rfl
  have hi : Tryz.prog.cellsOf 3 = 1 := by kernel_rfl
  have hf : (mv m).formed Tryz.prog 77 = true := by
    simp [Value.formed, mv, Tryz.underlying77, hc]
  unfold keyOf
  rw [Tryz.underlying77]
  simp only [hk, hf, Bool.and_self, if_true]
  rw [hs]
  unfold Program.keyLits
  rw [Tryz.underlying77]
  simp [mv, Value.cells, hc]
  unfold Program.keyLits
  simp [Tryz.underlying3, hi, h.1, h.2, kp]
theorem kp_inj {m m' : Int × Int} (h : wfM m) (h' : wfM m') (e : kp m = kp m') : m = m' := by
  have h1 := kp_key h
  have h2 := kp_key h'
  rw [e] at h1
  have := keyM.inj h1 h2
  unfold mv at this
  simp at this
  exact Prod.ext this.1 this.2

def fl2 : List (Int × Int) → List Value
  | [] => []
  | m :: r => [.int .i64 m.1, .int .i64 m.2] ++ fl2 r
def gm (l : List (Int × Int)) (i : Nat) : Int × Int := l.getD i (0, 0)
def gs (l : List ByteArray) (i : Nat) : ByteArray := l.getD i ⟨#[]⟩

theorem fl2_len (l : List (Int × Int)) : (fl2 l).length = l.length * 2 := by
  induction l with
  | nil => rfl
  | cons a r ih => simp [fl2, ih]; omega
theorem fl2_append (l m : List (Int × Int)) : fl2 (l ++ m) = fl2 l ++ fl2 m := by
  induction l with
  | nil => rfl
  | cons a r ih => simp [fl2, ih]
theorem fl2_one (l : List (Int × Int)) : ∀ u ∈ fl2 l, u.oneCell' = true := by
  induction l with
  | nil => intro u hu; cases hu
  | cons a r ih =>
    intro u hu
    rcases List.mem_append.1 hu with hu | hu
    · simp only [List.mem_cons, List.not_mem_nil, or_false] at hu
      rcases hu with rfl | rfl <;> rfl
    · exact ih u hu
theorem fl2_get (l : List (Int × Int)) (i : Nat) (hi : i < l.length) : (fl2 l)[i * 2]? = some (.int .i64 (gm l i).1) ∧ (fl2 l)[i * 2 + 1]? = some (.int .i64 (gm l i).2) := by
  induction l generalizing i with
  | nil => simp at hi
  | cons a r ih =>
    cases i with
    | zero => simp [fl2, gm]
    | succ i =>
      have h := ih i (by simpa using hi)
      have e : ∀ k, (fl2 (a :: r))[(i + 1) * 2 + k]? = (fl2 r)[i * 2 + k]? := by
        intro k
        rw [show (i + 1) * 2 + k = (i * 2 + k) + 1 + 1 by omega]
        simp [fl2]
      have g : gm (a :: r) (i + 1) = gm r i := by simp [gm]
      rw [g]
      refine ⟨?_, ?_⟩
      · have := e 0; simp only [Nat.add_zero] at this; rw [this]; exact h.1
      · rw [e 1]; exact h.2

/-- The table at p: its parts v0 (texts), v1 (merges), b2, b3 (maps), lg (the longest). -/
structure TAt (F : List Nat) (p : Nat) (v0 v1 : Value) (b2 b3 : Nat) (tx : List ByteArray) (mg : List (Int × Int)) (lg : Int) (w : World) : Prop where
  st : w.heap[p]? = some (.cells #[v0, v1, .map (some b2), .map (some b3), .int .i64 lg] 145 (0, 0))
  r0 : w.ownsRow 0 9 1 v0 tx.length (tx.map Value.string)
  r1 : w.ownsRow 0 77 2 v1 mg.length (fl2 mg)
  m2 : MapK Tryz.prog 9 3 0 w b2 (tx.map sk)
  m3 : MapK Tryz.prog 77 3 256 w b3 (mg.map kp)
  ne : b2 ≠ b3
  fp : p ∈ F
  f2 : b2 ∈ F
  f3 : b3 ∈ F
  f0 : ∀ k, v0.ownBlock = some k → k ∈ F
  f1 : ∀ k, v1.ownBlock = some k → k ∈ F
  flt : ∀ k ∈ F, k < w.heap.size

section
variable {F : List Nat} {p : Nat} {v0 v1 : Value} {b2 b3 : Nat} {tx : List ByteArray} {mg : List (Int × Int)} {lg : Int} {w w' : World}

theorem TAt.lt (h : TAt F p v0 v1 b2 b3 tx mg lg w) : p < w.heap.size := (Array.getElem?_eq_some_iff.1 h.st).1
theorem TAt.cells (h : TAt F p v0 v1 b2 b3 tx mg lg w) : w.cell? ⟨p, 0, none⟩ = some v0 ∧ w.cell? ⟨p, 1, none⟩ = some v1 ∧ w.cell? ⟨p, 2, none⟩ = some (.map (some b2)) ∧ w.cell? ⟨p, 3, none⟩ = some (.map (some b3)) ∧ w.cell? ⟨p, 4, none⟩ = some (.int .i64 lg) := by
  simp [World.cell?, h.st]
theorem TAt.fr (h : TAt F p v0 v1 b2 b3 tx mg lg w) (o : Nat) : w.frozen? ⟨p, o, none⟩ = false := by simp [World.frozen?, h.st]
/-- What is written elsewhere leaves it as it is. -/
theorem TAt.kept {G : List Nat} (h : TAt F p v0 v1 b2 b3 tx mg lg w) (hG : FrL G w w') (hd : ∀ k ∈ F, k ∉ G) : TAt F p v0 v1 b2 b3 tx mg lg w' :=
  ⟨(hG.block p h.lt (hd p h.fp)).trans h.st, row_frl h.r0 hG (fun k e => hd k (h.f0 k e)), row_frl h.r1 hG (fun k e => hd k (h.f1 k e)), h.m2.keep (hG.block b2 h.m2.lt (hd b2 h.f2)), h.m3.keep (hG.block b3 h.m3.lt (hd b3 h.f3)), h.ne, h.fp, h.f2, h.f3, h.f0, h.f1, fun k hk => Nat.lt_of_lt_of_le (h.flt k hk) hG.size⟩
theorem TAt.keptB (h : TAt F p v0 v1 b2 b3 tx mg lg w) (hb : Below w.heap.size w w') : TAt F p v0 v1 b2 b3 tx mg lg w' := h.kept (G := []) (FrL.ofBelow hb) (fun k _ hk => by cases hk)
theorem TAt.drew (h : TAt F p v0 v1 b2 b3 tx mg lg w) : TAt F p v0 v1 b2 b3 tx mg lg w.drew := ⟨h.st, h.r0, h.r1, h.m2, h.m3, h.ne, h.fp, h.f2, h.f3, h.f0, h.f1, h.flt⟩
theorem row_form {w : World} {B : Nat} {E : TypeId} {size : Nat} {v : Value} {n : Nat} {xs : List Value} (h : w.ownsRow B E size v n xs) : ∃ ao cap, v = .slice ao n cap := by
  rcases h.2 with ⟨rfl, h0⟩ | ⟨g, cap, cur, rfl, _⟩
  · exact ⟨none, 0, by rw [h0]⟩
  · exact ⟨_, cap, rfl⟩
theorem TAt.text (h : TAt F p v0 v1 b2 b3 tx mg lg w) {i : Nat} (hi : i < tx.length) : ∃ g cap, v0 = .slice (some ⟨g, 0, none⟩) tx.length cap ∧ w.cell? ⟨g, i, none⟩ = some (.string (gs tx i)) := by
  obtain ⟨g, cap, rfl, _, _⟩ := h.r0.form (by omega)
  refine ⟨g, cap, rfl, ?_⟩
  rw [h.r0.cellAt i (by omega), List.getElem?_map, gs, List.getD_eq_getElem?_getD, List.getElem?_eq_getElem hi]
  rfl
theorem TAt.merge (h : TAt F p v0 v1 b2 b3 tx mg lg w) {i : Nat} (hi : i < mg.length) : ∃ g cap, v1 = .slice (some ⟨g, 0, none⟩) mg.length cap ∧ w.cell? ⟨g, i * 2, none⟩ = some (.int .i64 (gm mg i).1) ∧ w.cell? ⟨g, i * 2 + 1, none⟩ = some (.int .i64 (gm mg i).2) := by
  obtain ⟨g, cap, rfl, _, _⟩ := h.r1.form (by omega)
  have hf := fl2_get mg i hi
  exact ⟨g, cap, rfl, by rw [h.r1.cellAt _ (by omega)]; exact hf.1, by rw [h.r1.cellAt _ (by omega)]; exact hf.2⟩
end

end Go.Proofs.YtdpmjaelbjjanaaGreat

namespace Go.Proofs.YtdpmjaelbjjanaaGreat
open Go.RowKit Go.Maps
set_option linter.unusedVariables false
set_option linter.unusedSimpArgs false

theorem ret_int {k : IntKind} {a b : Int} (h : a = b) : Ending.returned (.int k a) = .returned (.int k b) := by rw [h]

theorem tlen_nil (w : World) : Calls Tryz.prog 85 #[.pointer none] w fun e w' => e = .returned (.int .i64 0) ∧ w' = w := by
  go_enter Tryz.func85, Tryz.ntmps85
  go_wp2
  go_ret
  exact ⟨rfl, rfl⟩

section
variable {F : List Nat} {p : Nat} {v0 v1 : Value} {b2 b3 : Nat} {tx : List ByteArray} {mg : List (Int × Int)} {lg : Int} {w : World}

theorem tlen_any (h : TAt F p v0 v1 b2 b3 tx mg lg w) :
    Calls Tryz.prog 85 #[.pointer (some ⟨p, 0, none⟩)] w fun e w' => e = .returned (.int .i64 tx.length) ∧ w' = w := by
  obtain ⟨ao, cap, rfl⟩ := row_form h.r0
  have hp0 := h.cells.1
  clear h
  go_enter Tryz.func85, Tryz.ntmps85
  go_wp2
  go_ret
  exact ⟨rfl, rfl⟩

set_option maxHeartbeats 1000000 in
theorem tbytes_none (id : Int) (pv : Value) (n : Nat) (w : World) (HL : Hid (Calls Tryz.prog 85 #[pv] w fun e w' => e = .returned (.int .i64 n) ∧ w' = w)) (hid : id < 0 ∨ (n : Int) ≤ id) :
    Calls Tryz.prog 54 #[pv, .int .i64 id] w fun e w' => e = .returned (.tuple #[.string ⟨#[]⟩, .bool false]) ∧ w' = w := by
  rcases (show id < 0 ∨ (¬ id < 0 ∧ (n : Int) ≤ id) by omega) with h0 | ⟨h0, h1⟩
  · have hb : decide (id < 0) = true := by simpa using h0
    go_enter Tryz.func54, Tryz.ntmps54
    go_wp2
    (try simp only [Exit.inBlock, Exit.then])
    exact bodyPost_ret (v := .tuple #[.string ⟨#[]⟩, .bool false]) (by simp [results, Tryz.results54, go_sem]) rfl ⟨rfl, rfl⟩
  · have hb : decide (id < 0) = false := by simpa using h0
    go_enter Tryz.func54, Tryz.ntmps54
    go_wp2_with fail
    refine (unhide HL).mono ?_
    rintro e w' ⟨rfl, hw⟩
    have hw2 := hw.symm
    clear hw
    subst hw2
    go_wp2
    (try simp only [Exit.inBlock, Exit.then])
    exact bodyPost_ret (v := .tuple #[.string ⟨#[]⟩, .bool false]) (by simp [results, Tryz.results54, go_sem]) rfl ⟨rfl, rfl⟩

set_option maxHeartbeats 1000000 in
theorem tbytes_any (h : TAt F p v0 v1 b2 b3 tx mg lg w) (i : Nat) (hi : i < tx.length) :
    Calls Tryz.prog 54 #[.pointer (some ⟨p, 0, none⟩), .int .i64 i] w fun e w' => e = .returned (.tuple #[.string (gs tx i), .bool true]) ∧ w' = w := by
  have HL := hide (tlen_any h)
  obtain ⟨g, cap, rfl, hc⟩ := h.text hi
  have hp0 := h.cells.1
  have hb : decide ((i : Int) < 0) = false := by simp
  have hi0 : (0 : Int) ≤ (i : Int) := by omega
  have hi1 : (i : Int) < (tx.length : Int) := by omega
  clear h
  go_enter Tryz.func54, Tryz.ntmps54
  go_wp2_with fail
  refine (unhide HL).mono ?_
  rintro e w' ⟨rfl, hw⟩
  have hw2 := hw.symm
  clear hw
  subst hw2
  go_wp2
  (try simp only [Exit.inBlock, Exit.then])
  exact bodyPost_ret (v := .tuple #[.string (gs tx i), .bool true]) (by simp [results, Tryz.results54, go_sem]) rfl ⟨rfl, rfl⟩

theorem tfind_none (h : TAt F p v0 v1 b2 b3 tx mg lg w) (s : ByteArray) (hs : s.size ≤ maxLen) (hn : s ∉ tx) :
    Calls Tryz.prog 81 #[.pointer (some ⟨p, 0, none⟩), .string s] w fun e w' => e = .returned (.tuple #[.int .i64 0, .bool false]) ∧ w' = w := by
  have hl := (h.m2.look keyS Tryz.underlying142 Tryz.underlying3 zeroI (sk_key hs)).1 (fun e => hn (sk_mem.1 e))
  have hp2 := h.cells.2.2.1
  clear h
  go_enter Tryz.func81, Tryz.ntmps81
  go_wp2
  (try simp only [Exit.inBlock, Exit.then])
  exact bodyPost_ret (v := .tuple #[.int .i64 0, .bool false]) (by simp [results, Tryz.results81, go_sem]) rfl ⟨rfl, rfl⟩

theorem tfind_any (h : TAt F p v0 v1 b2 b3 tx mg lg w) (i : Nat) (hi : i < tx.length) (s : ByteArray) (hs : s.size ≤ maxLen) (he : gs tx i = s) :
    Calls Tryz.prog 81 #[.pointer (some ⟨p, 0, none⟩), .string s] w fun e w' => e = .returned (.tuple #[.int .i64 i, .bool true]) ∧ w' = w := by
  have hl := (h.m2.look keyS Tryz.underlying142 Tryz.underlying3 zeroI (sk_key hs)).2 i (by
    rw [List.getElem?_map, List.getElem?_eq_getElem hi, ← he, gs, List.getD_eq_getElem?_getD, List.getElem?_eq_getElem hi]
    rfl)
  rw [Int.zero_add] at hl
  have hp2 := h.cells.2.2.1
  clear h he
  go_enter Tryz.func81, Tryz.ntmps81
  go_wp2
  (try simp only [Exit.inBlock, Exit.then])
  exact bodyPost_ret (v := .tuple #[.int .i64 i, .bool true]) (by simp [results, Tryz.results81, go_sem]) rfl ⟨rfl, rfl⟩

theorem kp_mem {m : Int × Int} {mg : List (Int × Int)} (hw : wfM m) (hg : ∀ x ∈ mg, wfM x) (h : kp m ∈ mg.map kp) : m ∈ mg := by
  obtain ⟨t, ht, e⟩ := List.mem_map.1 h
  rw [← kp_inj (hg t ht) hw e]; exact ht

theorem tpair_none (h : TAt F p v0 v1 b2 b3 tx mg lg w) (a b : Int) (hw : wfM (a, b)) (hg : ∀ x ∈ mg, wfM x) (hn : (a, b) ∉ mg) :
    Calls Tryz.prog 119 #[.pointer (some ⟨p, 0, none⟩), .int .i64 a, .int .i64 b] w fun e w' => e = .returned (.tuple #[.int .i64 0, .bool false]) ∧ w' = w := by
  have hl := (h.m3.look keyM Tryz.underlying143 Tryz.underlying3 zeroI (kp_key hw)).1 (fun e => hn (kp_mem hw hg e))
  unfold mv at hl
  have hp3 := h.cells.2.2.2.1
  clear h
  go_enter Tryz.func119, Tryz.ntmps119
  go_wp2
  (try simp only [Exit.inBlock, Exit.then])
  exact bodyPost_ret (v := .tuple #[.int .i64 0, .bool false]) (by simp [results, Tryz.results119, go_sem]) rfl ⟨rfl, rfl⟩

theorem tpair_any (h : TAt F p v0 v1 b2 b3 tx mg lg w) (i : Nat) (hi : i < mg.length) (hg : ∀ x ∈ mg, wfM x) :
    Calls Tryz.prog 119 #[.pointer (some ⟨p, 0, none⟩), .int .i64 (gm mg i).1, .int .i64 (gm mg i).2] w fun e w' => e = .returned (.tuple #[.int .i64 (256 + i), .bool true]) ∧ w' = w := by
  have hm : gm mg i ∈ mg := by rw [gm, List.getD_eq_getElem?_getD, List.getElem?_eq_getElem hi]; exact List.getElem_mem hi
  have hl := (h.m3.look keyM Tryz.underlying143 Tryz.underlying3 zeroI (kp_key (hg _ hm))).2 i (by
    rw [List.getElem?_map, List.getElem?_eq_getElem hi, gm, List.getD_eq_getElem?_getD, List.getElem?_eq_getElem hi]
    rfl)
  unfold mv at hl
  have hp3 := h.cells.2.2.2.1
  generalize gm mg i = m at *
  clear h hm
  go_enter Tryz.func119, Tryz.ntmps119
  go_wp2
  (try simp only [Exit.inBlock, Exit.then])
  exact bodyPost_ret (v := .tuple #[.int .i64 (256 + i), .bool true]) (by simp [results, Tryz.results119, go_sem]) rfl ⟨rfl, rfl⟩

end

end Go.Proofs.YtdpmjaelbjjanaaGreat

namespace Go.Proofs.YtdpmjaelbjjanaaGreat
open Go.RowKit Go.Maps
set_option linter.unusedVariables false
set_option linter.unusedSimpArgs false

theorem info_string : (Tryz.prog.info? 9).map (fun i => (i.zero, i.size, i.bytes)) = some (some (.string ⟨#[]⟩), 1, 16) := by kernel_rfl
theorem info_merge : (Tryz.prog.info? 77).map (fun i => (i.zero, i.size, i.bytes)) = some (some (.agg #[.int .i64 0, .int .i64 0]), 2, 16) := by kernel_rfl

theorem cell_old (w : World) (o : Obj) {b off : Nat} (hb : b < w.heap.size) : (w.alloc o).cell? ⟨b, off, none⟩ = w.cell? ⟨b, off, none⟩ := ((Below.refl w.heap.size w).alloc (Nat.le_refl _) o).cell hb
theorem frozen_old (w : World) (o : Obj) {b off : Nat} (hb : b < w.heap.size) : (w.alloc o).frozen? ⟨b, off, none⟩ = w.frozen? ⟨b, off, none⟩ := ((Below.refl w.heap.size w).alloc (Nat.le_refl _) o).frozen hb

section
variable {F : List Nat} {p : Nat} {v0 v1 : Value} {b2 b3 : Nat} {tx : List ByteArray} {mg : List (Int × Int)} {lg : Int} {w : World}

theorem TAt.pne0 (h : TAt F p v0 v1 b2 b3 tx mg lg w) : v0.ownBlock ≠ some p := by
  intro e
  rcases h.r0.2 with ⟨rfl, _⟩ | ⟨g, cap, cur, rfl, _, hg, _⟩
  · cases e
  · simp [Value.ownBlock] at e
    subst e
    rw [h.st] at hg
    simp at hg
theorem TAt.pne1 (h : TAt F p v0 v1 b2 b3 tx mg lg w) : v1.ownBlock ≠ some p := by
  intro e
  rcases h.r1.2 with ⟨rfl, _⟩ | ⟨g, cap, cur, rfl, _, hg, _⟩
  · cases e
  · simp [Value.ownBlock] at e
    subst e
    rw [h.st] at hg
    simp at hg
theorem TAt.ne01 (h : TAt F p v0 v1 b2 b3 tx mg lg w) : ∀ k, v0.ownBlock = some k → v1.ownBlock ≠ some k := by
  intro k e0 e1
  rcases h.r0.2 with ⟨rfl, _⟩ | ⟨g, cap, cur, rfl, _, hg, _⟩
  · cases e0
  rcases h.r1.2 with ⟨rfl, _⟩ | ⟨g1, cap1, cur1, rfl, _, hg1, _⟩
  · cases e1
  simp [Value.ownBlock] at e0 e1
  subst e0
  rw [e1, hg] at hg1
  simp at hg1
theorem TAt.pb2 (h : TAt F p v0 v1 b2 b3 tx mg lg w) : p ≠ b2 := by
  intro e
  obtain ⟨es, c, hm⟩ := h.m2.isMap
  rw [← e, h.st] at hm
  cases hm
theorem TAt.pb3 (h : TAt F p v0 v1 b2 b3 tx mg lg w) : p ≠ b3 := by
  intro e
  obtain ⟨es, c, hm⟩ := h.m3.isMap
  rw [← e, h.st] at hm
  cases hm
theorem row_ne_map {w : World} {B : Nat} {E : TypeId} {size n : Nat} {v : Value} {xs : List Value} (h : w.ownsRow B E size v n xs) {b : Nat} (hm : ∃ es c, w.heap[b]? = some (.map es c)) : v.ownBlock ≠ some b := by
  intro e
  obtain ⟨es, c, hm⟩ := hm
  rcases h.2 with ⟨rfl, _⟩ | ⟨g, cap, cur, rfl, _, hg, _⟩
  · cases e
  · simp [Value.ownBlock] at e
    subst e
    rw [hm] at hg
    cases hg

/-- What enter leaves: one text more. -/
theorem TAt.entered (h : TAt F p v0 v1 b2 b3 tx mg lg w) (s : ByteArray) (o : Obj) {g cap1 : Nat} {w1 : World} (hown : w1.ownsRow 0 9 1 (.slice (some ⟨g, 0, none⟩) (tx.length + 1) cap1) (tx.length + 1) (tx.map Value.string ++ [.string s])) (hgrow : (w.alloc o).grownBy w1 v0.ownBlock) (hat : v0.ownBlock = some g ∨ g = w.heap.size + 1)
    {w2 w3 : World} (hw2 : w2 = w1.setCell ⟨p, 0, none⟩ (.slice (some ⟨g, 0, none⟩) (tx.length + 1) cap1)) (hm2 : MapK Tryz.prog 9 3 0 w3 b2 (tx.map sk ++ [sk s])) (hg3 : w2.grownBy w3 (some b2)) (lg' : Int) :
    TAt (g :: F) p (.slice (some ⟨g, 0, none⟩) (tx.length + 1) cap1) v1 b2 b3 (tx ++ [s]) mg lg' (w3.setCell ⟨p, 4, none⟩ (.int .i64 lg')) ∧ FrL F w (w3.setCell ⟨p, 4, none⟩ (.int .i64 lg')) ∧ NwL w F (g :: F) := by
  have hlt := h.lt
  have hsz : (w.alloc o).heap.size = w.heap.size + 1 := by simp
  have hold : ∀ k, k < w.heap.size → (w.alloc o).heap[k]? = w.heap[k]? := fun k hk => Below.heap_alloc w o k hk
  have hF1 : FrL F w w1 := ⟨hgrow.os, hgrow.tape, hgrow.output, by have := hgrow.size; omega, fun k hk hF => (hgrow.block k (by omega) (fun e => hF (h.f0 k e.symm))).trans (hold k hk)⟩
  have hst1 : w1.heap[p]? = some (.cells #[v0, v1, .map (some b2), .map (some b3), .int .i64 lg] 145 (0, 0)) := ((hgrow.block p (by omega) (fun e => h.pne0 e.symm)).trans (hold p hlt)).trans h.st
  have hst2 : w2.heap[p]? = some (.cells #[.slice (some ⟨g, 0, none⟩) (tx.length + 1) cap1, v1, .map (some b2), .map (some b3), .int .i64 lg] 145 (0, 0)) := by
    rw [hw2, heap_setCell_same w1 p 0 _ _ _ hst1]; rfl
  have hF2 : FrL F w w2 := by rw [hw2]; exact hF1.set h.fp _
  have hst3 : w3.heap[p]? = some (.cells #[.slice (some ⟨g, 0, none⟩) (tx.length + 1) cap1, v1, .map (some b2), .map (some b3), .int .i64 lg] 145 (0, 0)) := (hg3.block p (by have := (Array.getElem?_eq_some_iff.1 hst2).1; exact this) (fun e => h.pb2 (Option.some.inj e))).trans hst2
  have hF3 : FrL F w w3 := hF2.trans' (FrL.ofGrown hg3 (fun k e => by cases e; exact h.f2))
  have hst4 : (w3.setCell ⟨p, 4, none⟩ (.int .i64 lg')).heap[p]? = some (.cells #[.slice (some ⟨g, 0, none⟩) (tx.length + 1) cap1, v1, .map (some b2), .map (some b3), .int .i64 lg'] 145 (0, 0)) := by
    rw [heap_setCell_same w3 p 4 _ _ _ hst3]; rfl
  have hF4 : FrL F w (w3.setCell ⟨p, 4, none⟩ (.int .i64 lg')) := hF3.set h.fp _
  have hgp : g ≠ p := by
    rcases hat with e | e
    · intro e2; exact h.pne0 (by rw [e, e2])
    · omega
  have hgb : g ≠ b2 := by
    rcases hat with e | e
    · intro e2; exact row_ne_map h.r0 h.m2.isMap (by rw [e, e2])
    · have := h.m2.lt; omega
  have hgl : g < w1.heap.size := (hown.lt g rfl).2
  have other : ∀ k, k < w.heap.size → k ≠ p → k ≠ b2 → v0.ownBlock ≠ some k → (w3.setCell ⟨p, 4, none⟩ (.int .i64 lg')).heap[k]? = w.heap[k]? := by
    intro k hk h1 h2 h3
    rw [heap_setCell_other _ _ _ _ h1, hg3.block k (by rw [hw2]; simp; have := hF1.size; omega) (by simpa using h2), hw2, heap_setCell_other _ _ _ _ h1, hgrow.block k (by omega) (fun e => h3 e.symm), hold k hk]
  refine ⟨⟨hst4, ?_, ?_, ?_, ?_, h.ne, List.mem_cons_of_mem _ h.fp, List.mem_cons_of_mem _ h.f2, List.mem_cons_of_mem _ h.f3, fun k e => ?_, fun k e => List.mem_cons_of_mem _ (h.f1 k e), ?_⟩, hF4, ?_⟩
  · have hl : (tx ++ [s]).length = tx.length + 1 := by simp
    rw [hl, List.map_append]
    rcases hown.2 with ⟨h0, _⟩ | ⟨g', cap', cur, hvv, hb, hg, rest⟩
    · cases h0
    · simp only [Value.slice.injEq, Option.some.injEq, Addr.mk.injEq, and_true, true_and] at hvv
      obtain ⟨rfl, rfl⟩ := hvv
      refine ⟨hown.1, .inr ⟨g, cap1, cur, rfl, hb, ?_, rest⟩⟩
      rw [heap_setCell_other _ _ _ _ hgp, hg3.block g (by rw [hw2]; simpa using hgl) (by simpa using hgb), hw2, heap_setCell_other _ _ _ _ hgp]
      exact hg
  · rcases h.r1.2 with hn | ⟨g1, c1, cur1, e1, hb, hg, rest⟩
    · exact ⟨h.r1.1, .inl hn⟩
    · subst e1
      have h1 := (h.r1.lt g1 rfl).2
      refine ⟨h.r1.1, .inr ⟨g1, c1, cur1, rfl, hb, ?_, rest⟩⟩
      rw [other g1 h1 (fun e => h.pne1 (by simp [Value.ownBlock, e])) (fun e => row_ne_map h.r1 h.m2.isMap (by simp [Value.ownBlock, e])) (fun e => h.ne01 g1 e rfl)]
      exact hg
  · rw [List.map_append]
    exact hm2.keep (heap_setCell_other _ _ _ _ (Ne.symm h.pb2))
  · refine h.m3.keep (other b3 h.m3.lt (Ne.symm h.pb3) (Ne.symm h.ne) (row_ne_map h.r0 h.m3.isMap))
  · simp [Value.ownBlock] at e
    rw [← e]; exact List.mem_cons_self ..
  · intro k hk
    rcases List.mem_cons.1 hk with rfl | hk
    · have := hg3.size; rw [hw2] at this; simp at this ⊢; omega
    · exact Nat.lt_of_lt_of_le (h.flt k hk) hF4.size
  · intro k hk
    rcases List.mem_cons.1 hk with rfl | hk
    · rcases hat with e | e
      · exact Or.inl (h.f0 _ e)
      · exact Or.inr (by omega)
    · exact Or.inl hk
end

end Go.Proofs.YtdpmjaelbjjanaaGreat

namespace Go.Proofs.YtdpmjaelbjjanaaGreat
open Go.RowKit Go.Maps
set_option linter.unusedVariables false
set_option linter.unusedSimpArgs false

theorem wpList_mapUpdate_K {P : Program} (w : World) {ops : Array Oper} {rest : List Oper} {o : Oper} {a : Act} {Q : Exit → Act → World → Prop}
    (hg : o.guard = none) (m x v : Operand) (t : TypeId) (hop : o.op = Op.mapUpdate t m x v) (K E : TypeId) (KY : Keyed P K) (ht : P.underlying t = some (.map K E)) (he : P.underlying E = some (.int .i64)) (off : Int) (b : Nat) (ks : List Lit)
    (hm : a.eval m = .map (some b)) (hown : MapK P K E off w b ks) (key : Value) (l : Lit) (hx : a.eval x = key) (hkey : keyOf P K key = some l) (hl : l ∉ ks) (hn : ks.length < maxLen) (z : Int) (hv : a.eval v = .int .i64 z) (hz : z = off + ks.length) (hw : (Lit.int .i64 z).wf = true)
    (hK : ∀ w', MapK P K E off w' b (ks ++ [l]) → w.grownBy w' (some b) → wpList P ops Q rest (a.put o.dst undef) w') :
    wpList P ops Q (o :: rest) a w := by
  obtain ⟨w', hrun, hm', hgr⟩ := hown.put KY ht he hkey hl hn hz hw
  refine wpList_plain hg fun _ hK' => ?_
  unfold Oper.wp execOp
  simp only [hop, hm, hx, hv, Sem.run_bind, Sem.run_pure, hrun, Result.andThen_ok]
  exact hK' _ _ (hK w' hm' hgr)

section
variable {F : List Nat} {p : Nat} {v0 v1 : Value} {b2 b3 : Nat} {tx : List ByteArray} {mg : List (Int × Int)} {lg : Int} {w : World}

theorem TAt.enter_map (h : TAt F p v0 v1 b2 b3 tx mg lg w) (g cap1 : Nat) {o : Obj} {w1 : World} (hgrow : (w.alloc o).grownBy w1 v0.ownBlock) : MapK Tryz.prog 9 3 0 (w1.setCell ⟨p, 0, none⟩ (.slice (some ⟨g, 0, none⟩) (tx.length + 1) cap1)) b2 (tx.map sk) := by
  have hlt := h.m2.lt
  refine h.m2.keep ?_
  rw [heap_setCell_other _ _ _ _ (Ne.symm h.pb2), hgrow.block b2 (by simp; omega) (fun e => row_ne_map h.r0 h.m2.isMap e.symm)]
  exact Below.heap_alloc w o b2 hlt

theorem TAt.enter_cell4 (h : TAt F p v0 v1 b2 b3 tx mg lg w) (g cap1 : Nat) {o : Obj} {w1 w3 : World} (hgrow : (w.alloc o).grownBy w1 v0.ownBlock) (hg3 : (w1.setCell ⟨p, 0, none⟩ (.slice (some ⟨g, 0, none⟩) (tx.length + 1) cap1)).grownBy w3 (some b2)) : w3.cell? ⟨p, 4, none⟩ = some (.int .i64 lg) ∧ w3.frozen? ⟨p, 4, none⟩ = false := by
  have hlt := h.lt
  have hst1 : w1.heap[p]? = some (.cells #[v0, v1, .map (some b2), .map (some b3), .int .i64 lg] 145 (0, 0)) := ((hgrow.block p (by simp; omega) (fun e => h.pne0 e.symm)).trans (Below.heap_alloc w o p hlt)).trans h.st
  have hst2 := heap_setCell_same w1 p 0 _ _ (.slice (some ⟨g, 0, none⟩) (tx.length + 1) cap1) hst1
  have hst3 := (hg3.block p (Array.getElem?_eq_some_iff.1 hst2).1 (fun e => h.pb2 (Option.some.inj e))).trans hst2
  constructor
  · simp [World.cell?, hst3]
  · simp [World.frozen?, hst3]

set_option maxRecDepth 20000 in
set_option maxHeartbeats 2000000 in
theorem enter_any (h : TAt F p v0 v1 b2 b3 tx mg lg w) (s : ByteArray) (hs : s.size ≤ 1000) (hn : s ∉ tx) (hl : tx.length ≤ 100000) (hlg : 0 ≤ lg ∧ lg ≤ 1000) (lg' : Int) (hlg' : lg' = if lg ≤ s.size then (s.size : Int) else lg) :
    Calls Tryz.prog 80 #[.pointer (some ⟨p, 0, none⟩), .string s] w fun e w' => e = .returned (.int .i64 tx.length) ∧ ∃ F' v0', TAt F' p v0' v1 b2 b3 (tx ++ [s]) mg lg' w' ∧ FrL F w w' ∧ NwL w F F' := by
  obtain ⟨i0, hi, hz0, hz1, hz2⟩ := info_parts info_string
  obtain ⟨ao, cap, rfl⟩ := row_form h.r0
  obtain ⟨c0, c1, c2, c3, c4⟩ := h.cells
  have hfp := h.fr
  have hlt := h.lt
  have hpne : some p ≠ (Value.slice ao tx.length cap).ownBlock := fun e => h.pne0 e.symm
  have hrow := h.r0
  have H := hide h
  have HLG := hide hlg'
  clear h hlg'
  go_enter Tryz.func80, Tryz.ntmps80
  go_wp2_with (first | (at_builtin; refine wpList_append_lies _ rfl _ _ _ rfl 0 9 i0 _ 1 16 Tryz.underlying31 hi hz0 hz1 hz2 rfl (by omega) _ tx.length (tx.map Value.string) rfl (hrow.alloc _) _ 1 _ [.string s] rfl rfl (World.news_of_block (heap_alloc_new w _)) (by simp [Value.oneCell']) (by omega) (by unfold maxLen; omega) (by omega) (by omega) (w.heap.size + 1) (by simp) ?_; intro g cap1 w1 hown1 hgrow1 hat1 hlt1; have hgrow : (w.alloc (.cells #[.string s] 9)).grownBy w1 (Value.slice ao tx.length cap).ownBlock := hgrow1; have hat : (Value.slice ao tx.length cap).ownBlock = some g ∨ g = w.heap.size + 1 := hat1; clear hgrow1 hat1; have d0 : w1.cell? ⟨p, 0, none⟩ = some (.slice ao tx.length cap) := (hgrow.cell_far ⟨p, 0, none⟩ (by simp; omega) hpne).trans ((cell_old w _ hlt).trans c0); have d2 : w1.cell? ⟨p, 2, none⟩ = some (.map (some b2)) := (hgrow.cell_far ⟨p, 2, none⟩ (by simp; omega) hpne).trans ((cell_old w _ hlt).trans c2); have d4 : w1.cell? ⟨p, 4, none⟩ = some (.int .i64 lg) := (hgrow.cell_far ⟨p, 4, none⟩ (by simp; omega) hpne).trans ((cell_old w _ hlt).trans c4); have df : ∀ o, w1.frozen? ⟨p, o, none⟩ = false := fun o => (hgrow.frozen_far ⟨p, o, none⟩ (by simp; omega) hpne).trans ((frozen_old w _ hlt).trans (hfp o)); have hmk := hide (H.out.enter_map g cap1 hgrow)) | (at_mapUpdate; refine wpList_mapUpdate_K _ rfl _ _ _ _ rfl 9 3 keyS Tryz.underlying142 Tryz.underlying3 0 b2 (tx.map sk) rfl hmk.out _ _ rfl (sk_key (by unfold maxLen; omega)) (fun e => hn (sk_mem.1 e)) (by rw [List.length_map]; unfold maxLen; omega) _ rfl (by simp) (WalkArith.wf_i64 (by omega)) ?_; intro w3 hm3 hg3; obtain ⟨e4, ef⟩ := H.out.enter_cell4 g cap1 hgrow hg3))
  all_goals
    obtain ⟨hT, hFr, hNw⟩ := H.out.entered s _ hown1 hgrow hat rfl hm3 hg3 lg'
    have hl2 : lg' = lg' := rfl
    first
    | (have e : lg' = (s.size : Int) := by rw [HLG.out]; split <;> omega
       rw [e] at hT hFr ⊢
       go_ret
       exact ⟨rfl, _, ⟨_, hT⟩, hFr, hNw⟩)
    | (have e : lg' = lg := by rw [HLG.out]; split <;> omega
       rw [e] at hT hFr ⊢
       go_ret
       exact ⟨rfl, _, ⟨_, hT⟩, hFr, hNw⟩)
end

end Go.Proofs.YtdpmjaelbjjanaaGreat

namespace Go.Proofs.YtdpmjaelbjjanaaGreat
open Go.RowKit Go.Maps
set_option linter.unusedVariables false
set_option linter.unusedSimpArgs false

def one (i : Nat) : ByteArray := ⟨#[UInt8.ofNat i]⟩
def tb (j : Nat) : List ByteArray := (List.range j).map one
theorem tb_len (j : Nat) : (tb j).length = j := by simp [tb]
theorem tb_succ (j : Nat) : tb (j + 1) = tb j ++ [one j] := by simp [tb, List.range_succ]
theorem one_inj {i j : Nat} (hi : i < 256) (hj : j < 256) (h : one i = one j) : i = j := by
  unfold one at h
  simp at h
  have := congrArg UInt8.toNat h
  simp at this
  omega
theorem tb_not {j : Nat} (hj : j < 256) : one j ∉ tb j := by
  intro h
  obtain ⟨i, hi, e⟩ := List.mem_map.1 h
  have h1 := List.mem_range.1 hi
  have := one_inj (by omega) hj e
  omega

theorem conv_one (wr : World) (j : Nat) : (convert 140 9 (.slice (some ⟨wr.heap.size, 0, none⟩) 1 1)).run Tryz.prog (wr.alloc (.cells #[.int .u8 j] 5)) = .ok (.string (one j)) (wr.alloc (.cells #[.int .u8 j] 5)) :=
  run_convert_bytes_arg (P := Tryz.prog) (wr.alloc (.cells #[.int .u8 j] 5)) 140 5 Tryz.underlying140 Tryz.underlying5 wr.heap.size 0 1 1 [(j : Int)] rfl (by
    intro i hi
    obtain rfl : i = 0 := (by omega)
    simp) 9 Tryz.underlying9

def tabO (w : World) : Obj := .cells #[.slice none 0 0, .slice none 0 0, .map (some w.heap.size), .map (some (w.heap.size + 1)), .int .i64 0] 145
theorem begin_tab (w : World) : TAt [w.heap.size + 1 + 1, w.heap.size, w.heap.size + 1] (w.heap.size + 1 + 1) (.slice none 0 0) (.slice none 0 0) w.heap.size (w.heap.size + 1) (tb 0) [] 0 (((w.alloc (.map #[] 0)).alloc (.map #[] 0)).alloc (tabO w)) := by
  have e1 : (w.alloc (.map #[] 0)).heap.size = w.heap.size + 1 := by simp
  have e2 : ((w.alloc (.map #[] 0)).alloc (.map #[] 0)).heap.size = w.heap.size + 1 + 1 := by simp
  refine ⟨?_, World.ownsRow_nil _ _ _ _, World.ownsRow_nil _ _ _ _, ?_, ?_, by omega, by simp, by simp, by simp, fun k e => (by cases e), fun k e => (by cases e), ?_⟩
  · have := heap_alloc_new ((w.alloc (.map #[] 0)).alloc (.map #[] 0)) (tabO w)
    rw [e2] at this
    exact this
  · have h1 := MapK.made Tryz.prog 9 3 0 w
    refine h1.keep ?_
    rw [Below.heap_alloc _ _ _ (by omega), Below.heap_alloc _ _ _ (by omega)]
  · have h1 := MapK.made Tryz.prog 77 3 256 (w.alloc (.map #[] 0))
    rw [e1] at h1
    refine h1.keep ?_
    rw [Below.heap_alloc _ _ _ (by omega)]
  · intro k hk
    simp at hk
    simp
    omega
theorem begin_low (w : World) : Below w.heap.size w (((w.alloc (.map #[] 0)).alloc (.map #[] 0)).alloc (tabO w)) := (((Below.refl _ _).alloc (Nat.le_refl _) _).alloc (by simp) _).alloc (by simp; omega) _

set_option maxRecDepth 20000 in
set_option maxHeartbeats 2000000 in
theorem ofBytes_any (w : World) : Calls Tryz.prog 47 #[] w fun e w' => ∃ p F v0 b2 b3, e = .returned (.pointer (some ⟨p, 0, none⟩)) ∧ TAt F p v0 (.slice none 0 0) b2 b3 (tb 256) [] 1 w' ∧ (∀ k ∈ F, w.heap.size ≤ k) ∧ Below w.heap.size w w' := by
  have hmm := @run_makeMap Tryz.prog
  go_enter Tryz.func47, Tryz.ntmps47
  go_wp2
  go_loopw [7] (fun i wr => ∃ (j : Nat) (F : List Nat) (v0 : Value), i = .int .i64 j ∧ j ≤ 256 ∧ TAt F (w.heap.size + 1 + 1) v0 (.slice none 0 0) w.heap.size (w.heap.size + 1) (tb j) [] (if j = 0 then 0 else 1) wr ∧ (∀ k ∈ F, w.heap.size ≤ k) ∧ Below w.heap.size w wr) (fun i _ => 256 - (intOf i).toNat)
  case atStart => exact ⟨0, _, _, rfl, by omega, begin_tab w, fun k hk => by simp at hk; omega, begin_low w⟩
  case round =>
    obtain ⟨j, F, v0, rfl, hj, hT, hFb, hB⟩ := hrel
    by_cases hlt : j < 256
    · have hws : w.heap.size ≤ wr.heap.size := hB.size
      have hj0 : (0 : Int) ≤ (j : Int) := by omega
      have hj1 : (j : Int) < 256 := by omega
      have hcv := conv_one wr j
      have hba : Below wr.heap.size wr (wr.alloc (.cells #[.int .u8 j] 5)) := (Below.refl _ _).alloc (Nat.le_refl _) _
      have hT1 := hT.keptB hba
      have HE := hide (enter_any hT1 (one j) (by rw [show (one j).size = 1 from rfl]; omega) (tb_not hlt) (by rw [tb_len]; omega) (by split <;> omega) 1 (by rw [show (one j).size = 1 from rfl]; split <;> split <;> omega))
      rw [← tb_succ, tb_len] at HE
      clear hT1
      go_wp2_with fail
      refine (unhide HE).mono ?_
      rintro e w2 ⟨rfl, F2, v2, hT2, hFr2, hN2⟩
      go_wp2
      go_roundw
      case rel =>
        refine ⟨j + 1, F2, v2, by go_num, by omega, by rw [if_neg (by omega)]; exact hT2, fun k hk => ?_, (hB.trans (hba.mono hB.size)).trans (hFr2.below (by have := hba.size; omega) hFb)⟩
        rcases hN2 k hk with h1 | h1
        · exact hFb k h1
        · have := hba.size; omega
      case measure => simp [intOf]; omega
    · obtain rfl : j = 256 := by omega
      go_wp2
      go_ret
      exact ⟨_, F, v0, _, _, rfl, hT, hFb, hB⟩

end Go.Proofs.YtdpmjaelbjjanaaGreat

namespace Go.Proofs.YtdpmjaelbjjanaaGreat
open Go.RowKit
set_option linter.unusedVariables false
set_option linter.unusedSimpArgs false

/-- The most bytes that one has. -/
def lgs (tx : List ByteArray) : Int := tx.foldl (fun m s => if m ≤ (s.size : Int) then (s.size : Int) else m) 0
theorem lgs_snoc (tx : List ByteArray) (s : ByteArray) : lgs (tx ++ [s]) = if lgs tx ≤ (s.size : Int) then (s.size : Int) else lgs tx := by
  unfold lgs
  rw [List.foldl_append]
  rfl
theorem lgs_tb (j : Nat) : lgs (tb (j + 1)) = 1 := by
  induction j with
  | zero => rfl
  | succ j ih =>
    rw [tb_succ, lgs_snoc, ih, show (one (j + 1)).size = 1 from rfl]
    rfl

/-- What a table is: the bytes, then tokens of two parents; no two have the same bytes. -/
structure Tok (tx : List ByteArray) (mg : List (Int × Int)) : Prop where
  len : tx.length = 256 + mg.length
  low : ∀ i, i < 256 → gs tx i = one i
  par : ∀ i, i < mg.length → 0 ≤ (gm mg i).1 ∧ (gm mg i).1 < 256 + i ∧ 0 ≤ (gm mg i).2 ∧ (gm mg i).2 < 256 + i
  made : ∀ i, i < mg.length → gs tx (256 + i) = gs tx (gm mg i).1.toNat ++ gs tx (gm mg i).2.toNat
  nd : ∀ i j, i < j → j < tx.length → gs tx i ≠ gs tx j
  sz : ∀ i, i < tx.length → (gs tx i).size ≤ 64
  cap : tx.length ≤ 1000
  lg0 : 0 ≤ lgs tx ∧ lgs tx ≤ 64

theorem gs_lt (tx : List ByteArray) {i : Nat} (h : i < tx.length) : gs tx i = tx[i] := by
  rw [gs, List.getD_eq_getElem?_getD, List.getElem?_eq_getElem h, Option.getD_some]
theorem gs_mem {tx : List ByteArray} {s : ByteArray} : s ∈ tx ↔ ∃ i, i < tx.length ∧ gs tx i = s := by
  constructor
  · intro h
    obtain ⟨i, hi, e⟩ := List.getElem_of_mem h
    exact ⟨i, hi, by rw [gs_lt tx hi]; exact e⟩
  · rintro ⟨i, hi, rfl⟩
    rw [gs_lt tx hi]; exact List.getElem_mem hi
theorem gs_left (tx : List ByteArray) (s : ByteArray) {i : Nat} (h : i < tx.length) : gs (tx ++ [s]) i = gs tx i := by
  simp only [gs, List.getD_eq_getElem?_getD, List.getElem?_append_left h]
theorem gs_last (tx : List ByteArray) (s : ByteArray) : gs (tx ++ [s]) tx.length = s := by
  simp [gs, List.getD_eq_getElem?_getD]
theorem gm_left (mg : List (Int × Int)) (m : Int × Int) {i : Nat} (h : i < mg.length) : gm (mg ++ [m]) i = gm mg i := by
  simp only [gm, List.getD_eq_getElem?_getD, List.getElem?_append_left h]
theorem gm_last (mg : List (Int × Int)) (m : Int × Int) : gm (mg ++ [m]) mg.length = m := by
  simp [gm, List.getD_eq_getElem?_getD]
theorem gm_mem {mg : List (Int × Int)} {m : Int × Int} (h : m ∈ mg) : ∃ i, i < mg.length ∧ gm mg i = m := by
  obtain ⟨i, hi, e⟩ := List.getElem_of_mem h
  exact ⟨i, hi, by rw [gm, List.getD_eq_getElem?_getD, List.getElem?_eq_getElem hi, Option.getD_some]; exact e⟩

theorem tok_begin : Tok (tb 256) [] where
  len := by simp [tb_len]
  low := by
    intro i hi
    rw [gs_lt _ (by rw [tb_len]; exact hi)]
    simp [tb]
  par := by intro i hi; simp at hi
  made := by intro i hi; simp at hi
  nd := by
    intro i j hij hj
    rw [tb_len] at hj
    rw [gs_lt _ (by rw [tb_len]; omega), gs_lt _ (by rw [tb_len]; exact hj)]
    simp only [tb, List.getElem_map, List.getElem_range]
    intro e
    have := one_inj (by omega) hj e
    omega
  sz := by
    intro i hi
    rw [tb_len] at hi
    rw [gs_lt _ (by rw [tb_len]; exact hi)]
    simp only [tb, List.getElem_map, List.getElem_range]
    rw [show (one i).size = 1 from rfl]
    omega
  cap := by rw [tb_len]; omega
  lg0 := by rw [lgs_tb 255]; omega

theorem data_mem {tx : List ByteArray} {s : ByteArray} : s.data.toList ∈ tx.map (fun t => t.data.toList) ↔ s ∈ tx := by
  constructor
  · intro h
    obtain ⟨t, ht, e⟩ := List.mem_map.1 h
    have : sk t = sk s := by unfold sk; rw [e]
    rw [← sk_inj this]; exact ht
  · intro h; exact List.mem_map_of_mem h

/-- The number of the error that Add tells; 0: none. -/
def addC (tx : List ByteArray) (m : Int × Int) : Int :=
  if m.1 < 0 ∨ (tx.length : Int) ≤ m.1 ∨ m.2 < 0 ∨ (tx.length : Int) ≤ m.2 then 4
  else if 64 < (gs tx m.1.toNat ++ gs tx m.2.toNat).size then 3
  else if 1000 ≤ tx.length then 5
  else if (gs tx m.1.toNat ++ gs tx m.2.toNat).data.toList ∈ tx.map (fun t => t.data.toList) then 10 else 0
def addS (tx : List ByteArray) (m : Int × Int) : ByteArray := gs tx m.1.toNat ++ gs tx m.2.toNat

theorem addC_ok {tx : List ByteArray} {m : Int × Int} (h : addC tx m = 0) : (0 ≤ m.1 ∧ m.1 < tx.length ∧ 0 ≤ m.2 ∧ m.2 < tx.length) ∧ (addS tx m).size ≤ 64 ∧ tx.length < 1000 ∧ addS tx m ∉ tx := by
  unfold addC at h
  unfold addS
  split at h
  · omega
  · split at h
    · omega
    · split at h
      · omega
      · split at h
        · omega
        · rename_i h1 h2 h3 h4
          exact ⟨by omega, by omega, by omega, fun e => h4 (data_mem.2 e)⟩

theorem Tok.not_mem {tx : List ByteArray} {mg : List (Int × Int)} (h : Tok tx mg) {m : Int × Int} (hm : addS tx m ∉ tx) : m ∉ mg := by
  intro e
  obtain ⟨i, hi, rfl⟩ := gm_mem e
  refine hm (gs_mem.2 ⟨256 + i, by rw [h.len]; omega, ?_⟩)
  exact h.made i hi

theorem Tok.wf {tx : List ByteArray} {mg : List (Int × Int)} (h : Tok tx mg) : ∀ x ∈ mg, wfM x := by
  intro x hx
  obtain ⟨i, hi, rfl⟩ := gm_mem hx
  have h1 := h.par i hi
  have h2 := h.cap
  have h3 := h.len
  exact ⟨WalkArith.wf_i64 (by omega), WalkArith.wf_i64 (by omega)⟩

theorem Tok.add {tx : List ByteArray} {mg : List (Int × Int)} (h : Tok tx mg) {m : Int × Int} (hc : addC tx m = 0) : Tok (tx ++ [addS tx m]) (mg ++ [m]) := by
  obtain ⟨⟨a0, a1, b0, b1⟩, hs, hn, hm⟩ := addC_ok hc
  have hl := h.len
  refine ⟨by simp; omega, fun i hi => by rw [gs_left _ _ (by omega)]; exact h.low i hi, fun i hi => ?_, fun i hi => ?_, fun i j hij hj => ?_, fun i hi => ?_, by simp; omega, ?_⟩
  · simp at hi
    by_cases e : i < mg.length
    · rw [gm_left _ _ e]; exact h.par i e
    · obtain rfl : i = mg.length := by omega
      rw [gm_last]
      omega
  · simp at hi
    by_cases e : i < mg.length
    · have hp := h.par i e
      rw [gm_left _ _ e, gs_left _ _ (by omega), gs_left _ _ (by omega), gs_left _ _ (by omega)]
      exact h.made i e
    · obtain rfl : i = mg.length := by omega
      rw [gm_last, ← hl, gs_last, gs_left _ _ (by omega), gs_left _ _ (by omega)]
      rfl
  · simp at hj
    by_cases e : j < tx.length
    · rw [gs_left _ _ (by omega), gs_left _ _ e]; exact h.nd i j hij e
    · obtain rfl : j = tx.length := by omega
      rw [gs_last, gs_left _ _ hij]
      intro e2
      exact hm (gs_mem.2 ⟨i, hij, e2⟩)
  · simp at hi
    by_cases e : i < tx.length
    · rw [gs_left _ _ e]; exact h.sz i e
    · obtain rfl : i = tx.length := by omega
      rw [gs_last]; exact hs
  · rw [lgs_snoc]
    have := h.lg0
    split <;> omega

end Go.Proofs.YtdpmjaelbjjanaaGreat

namespace Go.Proofs.YtdpmjaelbjjanaaGreat
open Go.RowKit
set_option linter.unusedVariables false
set_option linter.unusedSimpArgs false

theorem Tok.uniq {tx : List ByteArray} {mg : List (Int × Int)} (hk : Tok tx mg) {i j : Nat} (hi : i < mg.length) (hj : j < mg.length) (h : gm mg i = gm mg j) : i = j := by
  have h1 := hk.made i hi
  have h2 := hk.made j hj
  rw [h] at h1
  rw [← h1] at h2
  have hl := hk.len
  rcases Nat.lt_trichotomy i j with h3 | h3 | h3
  · exact absurd h2.symm (hk.nd _ _ (by omega) (by omega))
  · exact h3
  · exact absurd h2 (hk.nd _ _ (by omega) (by omega))

/-- From the beginning on: a just ahead of b becomes c. -/
def scan (a b c : Int) : List Int → List Int
  | x :: y :: r => if x = a ∧ y = b then c :: scan a b c r else x :: scan a b c (y :: r)
  | [x] => [x]
  | [] => []
/-- By the first n tokens that have parents. -/
def enc (mg : List (Int × Int)) : Nat → List Int → List Int
  | 0, l => l
  | n + 1, l => scan (gm mg n).1 (gm mg n).2 (256 + n) (enc mg n l)
/-- Nowhere a just ahead of b. -/
def NoP (a b : Int) (l : List Int) : Prop := ∀ u v, l ≠ u ++ a :: b :: v

theorem NoP.tail {a b x : Int} {l : List Int} (h : NoP a b (x :: l)) : NoP a b l := fun u v e => h (x :: u) v (by rw [e]; rfl)
theorem NoP.left {a b : Int} {l m : List Int} (h : NoP a b (l ++ m)) : NoP a b l := fun u v e => h u (v ++ m) (by rw [e]; simp)
theorem NoP.right {a b : Int} {l m : List Int} (h : NoP a b (l ++ m)) : NoP a b m := fun u v e => h (l ++ u) v (by rw [e]; simp)

theorem scan_id {a b c : Int} : ∀ l, NoP a b l → scan a b c l = l
  | [], _ => rfl
  | [x], _ => rfl
  | x :: y :: r, h => by
    have hne : ¬ (x = a ∧ y = b) := fun e => h [] r (by rw [e.1, e.2]; rfl)
    rw [scan, if_neg hne, scan_id (y :: r) h.tail]

theorem scan_at {a b c : Int} (v : List Int) : ∀ u, NoP a b (u ++ [a]) → scan a b c (u ++ a :: b :: v) = u ++ c :: scan a b c v
  | [], _ => by simp [scan]
  | [x], h => by
    have hne : ¬ (x = a ∧ a = b) := fun e => h [] [] (by rw [e.1, ← e.2]; rfl)
    show scan a b c (x :: a :: b :: v) = _
    rw [scan, if_neg hne, show scan a b c (a :: b :: v) = c :: scan a b c v from by rw [scan, if_pos ⟨rfl, rfl⟩]]
    rfl
  | x :: y :: u, h => by
    have hne : ¬ (x = a ∧ y = b) := fun e => h [] (u ++ [a]) (by rw [e.1, e.2]; rfl)
    show scan a b c (x :: y :: (u ++ a :: b :: v)) = _
    rw [scan, if_neg hne]
    have := scan_at (c := c) v (y :: u) (by have := h.tail; exact this)
    rw [show y :: (u ++ a :: b :: v) = (y :: u) ++ a :: b :: v from rfl, this]
    rfl

theorem scan_new {a b c : Int} (ha : c ≠ a) (hb : c ≠ b) (v : List Int) : ∀ u, NoP a b u → scan a b c (u ++ c :: v) = u ++ c :: scan a b c v
  | [], _ => by
    cases v with
    | nil => rfl
    | cons y r =>
      show scan a b c (c :: y :: r) = c :: scan a b c (y :: r)
      rw [scan, if_neg (fun e => ha e.1)]
  | [x], h => by
    show scan a b c (x :: c :: v) = x :: c :: scan a b c v
    rw [scan, if_neg (fun e => hb e.2)]
    have := scan_new ha hb v [] (fun u v e => by cases u <;> cases e)
    simp only [List.nil_append] at this
    rw [this]
  | x :: y :: u, h => by
    have hne : ¬ (x = a ∧ y = b) := fun e => h [] u (by rw [e.1, e.2]; rfl)
    show scan a b c (x :: y :: (u ++ c :: v)) = _
    rw [scan, if_neg hne]
    have := scan_new ha hb v (y :: u) h.tail
    rw [show y :: (u ++ c :: v) = (y :: u) ++ c :: v from rfl, this]
    rfl

theorem enc_id {mg : List (Int × Int)} {l : List Int} : ∀ n, (∀ k, k < n → NoP (gm mg k).1 (gm mg k).2 l) → enc mg n l = l
  | 0, _ => rfl
  | n + 1, h => by
    rw [enc, enc_id n (fun k hk => h k (by omega))]
    exact scan_id l (h n (by omega))

/-- A list with c in it: where two stand side by side. -/
theorem NoP.mid {a b c : Int} {u v : List Int} (hu : NoP a b u) (hv : NoP a b v) (ha : c ≠ a) (hb : c ≠ b) : NoP a b (u ++ c :: v) := by
  intro x y e
  rw [List.append_eq_append_iff] at e
  rcases e with ⟨z, h1, h2⟩ | ⟨z, h1, h2⟩
  · -- x = u ++ z, c :: v = z ++ a :: b :: y
    cases z with
    | nil => simp at h2; exact ha h2.1
    | cons q z =>
      simp at h2
      exact hv z y h2.2
  · -- u = x ++ z, a :: b :: y = z ++ c :: v
    cases z with
    | nil => simp at h2; exact ha h2.1.symm
    | cons q z =>
      simp at h2
      obtain ⟨rfl, h2⟩ := h2
      cases z with
      | nil => simp at h2; exact hb h2.1.symm
      | cons q z =>
        simp at h2
        obtain ⟨rfl, h2⟩ := h2
        exact hu x z h1

/-- The least two become one: what is made at last stays as it is. -/
theorem enc_step {tx : List ByteArray} {mg : List (Int × Int)} (hk : Tok tx mg) {K : Nat} (hK : K < mg.length) {u v : List Int} (h1 : ∀ k, k < K → NoP (gm mg k).1 (gm mg k).2 (u ++ (gm mg K).1 :: (gm mg K).2 :: v)) (h2 : NoP (gm mg K).1 (gm mg K).2 (u ++ [(gm mg K).1])) :
    ∀ n, K < n → enc mg n (u ++ (gm mg K).1 :: (gm mg K).2 :: v) = enc mg n (u ++ (256 + (K : Int)) :: v) := by
  have hp := hk.par K hK
  have e1 := enc_id K h1
  have e2 : enc mg K (u ++ (256 + (K : Int)) :: v) = u ++ (256 + (K : Int)) :: v := by
    refine enc_id K (fun k hk' => ?_)
    have hpk := hk.par k (by omega)
    have h3 := h1 k hk'
    refine NoP.mid h3.left ?_ (by omega) (by omega)
    have h4 : NoP (gm mg k).1 (gm mg k).2 ((u ++ [(gm mg K).1, (gm mg K).2]) ++ v) := by simpa using h3
    exact h4.right
  intro n
  induction n with
  | zero => intro h; omega
  | succ n ih =>
    intro h
    by_cases e : n = K
    · subst e
      rw [enc, enc, e1, e2, scan_at v u h2, scan_new (by omega) (by omega) v u h2.left]
    · rw [enc, enc, ih (by omega)]

end Go.Proofs.YtdpmjaelbjjanaaGreat
