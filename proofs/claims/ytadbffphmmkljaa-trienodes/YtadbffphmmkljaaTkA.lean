/- A table of tokens as it lies in memory. -/
import Derived.Test.YtadbffphmmkljaaTkM
import Derived.Test.YtadbffphmmkljaaProg
import Derived.DeepKeys4
namespace Go.Proofs.Ytadbffphmmkljaa
open Go.RowKit Go.Maps
set_option linter.unusedVariables false
set_option linter.unusedSimpArgs false

theorem laidOutT : laidOutB Try.prog = true := by kernel_rfl
theorem keyS : Keyed Try.prog 9 := string_keyed Try.underlying9
theorem keyM : Keyed Try.prog 44 := Keyed.of_law (deep_law_laid laidOutT (m := 5) (by decide) (of_decide_eq_true (by kernel_rfl)) (by kernel_rfl) (by kernel_rfl))
theorem zeroI (w : World) : (zeroValue 3).run Try.prog w = .ok (.int .i64 0) w := by kernel_rfl

def sk (s : ByteArray) : Lit := .string s.data.toList
theorem sk_inj {s t : ByteArray} (h : sk s = sk t) : s = t := by
  unfold sk at h
  have h1 : s.data.toList = t.data.toList := by simpa using h
  cases s; cases t
  simp at h1
  simp [h1]
theorem sk_mem {s : ByteArray} {tx : List ByteArray} : sk s ∈ tx.map sk ↔ s ∈ tx := by
  constructor
  · intro h
    obtain ⟨t, ht, e⟩ := List.mem_map.1 h
    rw [← sk_inj e]; exact ht
  · exact List.mem_map_of_mem
theorem sk_key {s : ByteArray} (hs : s.size ≤ maxLen) : keyOf Try.prog 9 (.string s) = some (sk s) := Go.WideMaps.keyOf_string_mk Try.underlying9 hs

def mv (m : Int × Int) : Value := .agg #[.int .i64 m.1, .int .i64 m.2]
def kp (m : Int × Int) : Lit := .string (keyBytes [.int .i64 m.1, .int .i64 m.2])
def wfM (m : Int × Int) : Prop := (Lit.int .i64 m.1).wf = true ∧ (Lit.int .i64 m.2).wf = true
theorem kp_key {m : Int × Int} (h : wfM m) : keyOf Try.prog 44 (mv m) = some (kp m) := by
  have hk : Try.prog.keyType 44 = true := by kernel_rfl
  have hs : Try.prog.types.size = Try.prog.types.size - 1 + 1 := by kernel_rfl
  have hc : Try.prog.cellsOf 44 = 2 := by kernel_rfl
  have hi : Try.prog.cellsOf 3 = 1 := by kernel_rfl
  have hf : (mv m).formed Try.prog 44 = true := by
    simp [Value.formed, mv, Try.underlying44, hc]
  unfold keyOf
  rw [Try.underlying44]
  simp only [hk, hf, Bool.and_self, if_true]
  rw [hs]
  unfold Program.keyLits
  rw [Try.underlying44]
  simp [mv, Value.cells, hc]
  unfold Program.keyLits
  simp [Try.underlying3, hi, h.1, h.2, kp]
theorem kp_inj {m m' : Int × Int} (h : wfM m) (h' : wfM m') (e : kp m = kp m') : m = m' := by
  have h1 := kp_key h
  have h2 := kp_key h'
  rw [e] at h1
  have := keyM.inj h1 h2
  unfold mv at this
  simp at this
  exact Prod.ext this.1 this.2

def fl2 : List (Int × Int) → List Value
  | [] => []
  | m :: r => [.int .i64 m.1, .int .i64 m.2] ++ fl2 r
def gm (l : List (Int × Int)) (i : Nat) : Int × Int := l.getD i (0, 0)
def gs (l : List ByteArray) (i : Nat) : ByteArray := l.getD i ⟨#[]⟩

theorem fl2_len (l : List (Int × Int)) : (fl2 l).length = l.length * 2 := by
  induction l with
  | nil => rfl
  | cons a r ih => simp [fl2, ih]; omega
theorem fl2_append (l m : List (Int × Int)) : fl2 (l ++ m) = fl2 l ++ fl2 m := by
  induction l with
  | nil => rfl
  | cons a r ih => simp [fl2, ih]
theorem fl2_one (l : List (Int × Int)) : ∀ u ∈ fl2 l, u.oneCell' = true := by
  induction l with
  | nil => intro u hu; cases hu
  | cons a r ih =>
    intro u hu
    rcases List.mem_append.1 hu with hu | hu
    · simp only [List.mem_cons, List.not_mem_nil, or_false] at hu
      rcases hu with rfl | rfl <;> rfl
    · exact ih u hu
theorem fl2_get (l : List (Int × Int)) (i : Nat) (hi : i < l.length) : (fl2 l)[i * 2]? = some (.int .i64 (gm l i).1) ∧ (fl2 l)[i * 2 + 1]? = some (.int .i64 (gm l i).2) := by
  induction l generalizing i with
  | nil => simp at hi
  | cons a r ih =>
    cases i with
    | zero => simp [fl2, gm]
    | succ i =>
      have h := ih i (by simpa using hi)
      have e : ∀ k, (fl2 (a :: r))[(i + 1) * 2 + k]? = (fl2 r)[i * 2 + k]? := by
        intro k
        rw [show (i + 1) * 2 + k = (i * 2 + k) + 1 + 1 by omega]
        simp [fl2]
      have g : gm (a :: r) (i + 1) = gm r i := by simp [gm]
      rw [g]
      refine ⟨?_, ?_⟩
      · have := e 0; simp only [Nat.add_zero] at this; rw [this]; exact h.1
      · rw [e 1]; exact h.2

/-- The table at p: its parts v0 (texts), v1 (merges), b2, b3 (maps), lg (the longest). -/
structure TAt (F : List Nat) (p : Nat) (v0 v1 : Value) (b2 b3 : Nat) (tx : List ByteArray) (mg : List (Int × Int)) (lg : Int) (w : World) : Prop where
  st : w.heap[p]? = some (.cells #[v0, v1, .map (some b2), .map (some b3), .int .i64 lg] 70 (0, 0))
  r0 : w.ownsRow 0 9 1 v0 tx.length (tx.map Value.string)
  r1 : w.ownsRow 0 44 2 v1 mg.length (fl2 mg)
  m2 : MapK Try.prog 9 3 0 w b2 (tx.map sk)
  m3 : MapK Try.prog 44 3 256 w b3 (mg.map kp)
  ne : b2 ≠ b3
  fp : p ∈ F
  f2 : b2 ∈ F
  f3 : b3 ∈ F
  f0 : ∀ k, v0.ownBlock = some k → k ∈ F
  f1 : ∀ k, v1.ownBlock = some k → k ∈ F
  flt : ∀ k ∈ F, k < w.heap.size

section
variable {F : List Nat} {p : Nat} {v0 v1 : Value} {b2 b3 : Nat} {tx : List ByteArray} {mg : List (Int × Int)} {lg : Int} {w w' : World}

theorem TAt.lt (h : TAt F p v0 v1 b2 b3 tx mg lg w) : p < w.heap.size := (Array.getElem?_eq_some_iff.1 h.st).1
theorem TAt.cells (h : TAt F p v0 v1 b2 b3 tx mg lg w) : w.cell? ⟨p, 0, none⟩ = some v0 ∧ w.cell? ⟨p, 1, none⟩ = some v1 ∧ w.cell? ⟨p, 2, none⟩ = some (.map (some b2)) ∧ w.cell? ⟨p, 3, none⟩ = some (.map (some b3)) ∧ w.cell? ⟨p, 4, none⟩ = some (.int .i64 lg) := by
  simp [World.cell?, h.st]
theorem TAt.fr (h : TAt F p v0 v1 b2 b3 tx mg lg w) (o : Nat) : w.frozen? ⟨p, o, none⟩ = false := by simp [World.frozen?, h.st]
/-- What is written elsewhere leaves it as it is. -/
theorem TAt.kept {G : List Nat} (h : TAt F p v0 v1 b2 b3 tx mg lg w) (hG : FrL G w w') (hd : ∀ k ∈ F, k ∉ G) : TAt F p v0 v1 b2 b3 tx mg lg w' :=
  ⟨(hG.block p h.lt (hd p h.fp)).trans h.st, row_frl h.r0 hG (fun k e => hd k (h.f0 k e)), row_frl h.r1 hG (fun k e => hd k (h.f1 k e)), h.m2.keep (hG.block b2 h.m2.lt (hd b2 h.f2)), h.m3.keep (hG.block b3 h.m3.lt (hd b3 h.f3)), h.ne, h.fp, h.f2, h.f3, h.f0, h.f1, fun k hk => Nat.lt_of_lt_of_le (h.flt k hk) hG.size⟩
theorem TAt.keptB (h : TAt F p v0 v1 b2 b3 tx mg lg w) (hb : Below w.heap.size w w') : TAt F p v0 v1 b2 b3 tx mg lg w' := h.kept (G := []) (FrL.ofBelow hb) (fun k _ hk => by cases hk)
theorem TAt.drew (h : TAt F p v0 v1 b2 b3 tx mg lg w) : TAt F p v0 v1 b2 b3 tx mg lg w.drew := ⟨h.st, h.r0, h.r1, h.m2, h.m3, h.ne, h.fp, h.f2, h.f3, h.f0, h.f1, h.flt⟩
theorem row_form {w : World} {B : Nat} {E : TypeId} {size : Nat} {v : Value} {n : Nat} {xs : List Value} (h : w.ownsRow B E size v n xs) : ∃ ao cap, v = .slice ao n cap := by
  rcases h.2 with ⟨rfl, h0⟩ | ⟨g, cap, cur, rfl, _⟩
  · exact ⟨none, 0, by rw [h0]⟩
  · exact ⟨_, cap, rfl⟩
theorem TAt.text (h : TAt F p v0 v1 b2 b3 tx mg lg w) {i : Nat} (hi : i < tx.length) : ∃ g cap, v0 = .slice (some ⟨g, 0, none⟩) tx.length cap ∧ w.cell? ⟨g, i, none⟩ = some (.string (gs tx i)) := by
  obtain ⟨g, cap, rfl, _, _⟩ := h.r0.form (by omega)
  refine ⟨g, cap, rfl, ?_⟩
  rw [h.r0.cellAt i (by omega), List.getElem?_map, gs, List.getD_eq_getElem?_getD, List.getElem?_eq_getElem hi]
  rfl
theorem TAt.merge (h : TAt F p v0 v1 b2 b3 tx mg lg w) {i : Nat} (hi : i < mg.length) : ∃ g cap, v1 = .slice (some ⟨g, 0, none⟩) mg.length cap ∧ w.cell? ⟨g, i * 2, none⟩ = some (.int .i64 (gm mg i).1) ∧ w.cell? ⟨g, i * 2 + 1, none⟩ = some (.int .i64 (gm mg i).2) := by
  obtain ⟨g, cap, rfl, _, _⟩ := h.r1.form (by omega)
  have hf := fl2_get mg i hi
  exact ⟨g, cap, rfl, by rw [h.r1.cellAt _ (by omega)]; exact hf.1, by rw [h.r1.cellAt _ (by omega)]; exact hf.2⟩
end

end Go.Proofs.Ytadbffphmmkljaa
