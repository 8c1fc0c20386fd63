/- Contracts of package chain: rowOf. -/
import Derived.Test.YtlfffalfnnmliaaChF
import Derived.Laws.MakeOwn
namespace Go.Proofs.Ytlfffalfnnmliaa
open Go.RowKit Go.Maps
set_option linter.unusedVariables false
set_option linter.unusedSimpArgs false
attribute [local go_sem ↓] Go.wp_at_zero Go.wp_at_succ

theorem info_part : (Try.prog.info? 118).map (fun i => (i.zero, i.size, i.bytes)) = some (some (.agg #[.int .i64 0, .int .i64 0, .int .i64 0]), 3, 24) := by kernel_rfl
theorem made3 (m : Nat) : (madeCells #[.int .i64 0, .int .i64 0, .int .i64 0] m).toList = List.replicate m (.int .i64 0) := by
  rw [List.eq_replicate_iff]
  refine ⟨by rw [Array.length_toList, size_madeCells], fun b hb => ?_⟩
  simp only [madeCells, Array.toList_map, List.mem_map] at hb
  obtain ⟨i, _, rfl⟩ := hb
  have h3 : i % 3 = 0 ∨ i % 3 = 1 ∨ i % 3 = 2 := by omega
  show (#[Value.int .i64 0, .int .i64 0, .int .i64 0] : Array Value)[i % 3]! = _
  rcases h3 with h | h | h <;> rw [h] <;> rfl
theorem fl3_rep (n : Nat) : fl3 (List.replicate n ptZ) = List.replicate (n * 3) (.int .i64 0) := by
  induction n with
  | zero => rfl
  | succ n ih =>
    rw [List.replicate_succ, fl3, ih, show (n + 1) * 3 = n * 3 + 1 + 1 + 1 by omega, List.replicate_succ, List.replicate_succ, List.replicate_succ]
    rfl
theorem run_parts (w : World) (n : Nat) (hn : n ≤ 1000000) : Sem.run Try.prog (Instr.makeSlice 110 (.int .i64 (n : Int)) (.int .i64 (n : Int))) w = .ok (.slice (some ⟨w.heap.size, 0, none⟩) n n) (w.alloc (.cells (madeCells #[.int .i64 0, .int .i64 0, .int .i64 0] (n * 3)) 118)) := by
  obtain ⟨i0, hi, hz0, hz1, hz2⟩ := info_parts info_part
  have := run_make (P := Try.prog) w 110 118 i0 _ Try.underlying110 hi hz0 .i64 .i64 n n (by omega) (Int.le_refl _) (by rw [hz2]; omega) (by omega)
  rw [hz1] at this
  have e : (Value.agg #[.int .i64 0, .int .i64 0, .int .i64 0]).cells = #[.int .i64 0, .int .i64 0, .int .i64 0] := rfl
  rw [e] at this
  simpa using this

/-- The bytes of a text as numbers: the first k. -/
def bys (s : ByteArray) (k : Nat) : List Int := (s.data.toList.take k).map (fun b => (b.toNat : Int))
def byt (s : ByteArray) (k : Nat) : Int := ((s.data.toList.getD k 0).toNat : Int)
theorem bys_len (s : ByteArray) (k : Nat) (h : k ≤ s.size) : (bys s k).length = k := by
  simp [bys]
  omega
theorem bys_succ (s : ByteArray) (k : Nat) (h : k < s.size) : bys s (k + 1) = bys s k ++ [byt s k] := by
  have hl : k < s.data.toList.length := by simpa using h
  unfold bys byt
  rw [List.take_succ_eq_append_getElem hl, List.map_append]
  simp [List.getD_eq_getElem?_getD, List.getElem?_eq_getElem hl]
theorem byt_lt (s : ByteArray) (k : Nat) : 0 ≤ byt s k ∧ byt s k < 256 := by
  unfold byt
  have := (s.data.toList.getD k 0).toNat_lt
  omega
theorem bys_lt (s : ByteArray) (k : Nat) : ∀ x ∈ bys s k, 0 ≤ x ∧ x < 256 := by
  intro x hx
  simp only [bys, List.mem_map] at hx
  obtain ⟨b, _, rfl⟩ := hx
  have := b.toNat_lt
  omega
theorem sz_byte {tx : List ByteArray} {mg : List (Int × Int)} (hk : Tok tx mg) {x : Int} (h : 0 ≤ x ∧ x < 256) : sz tx x = 1 := by
  unfold sz
  rw [hk.low x.toNat (by omega)]
  rfl
theorem pos_bytes {tx : List ByteArray} {mg : List (Int × Int)} (hk : Tok tx mg) : ∀ (T : List Int), (∀ x ∈ T, 0 ≤ x ∧ x < 256) → pos tx T = T.length
  | [], _ => rfl
  | x :: r, h => by
    simp only [pos, List.length_cons]
    rw [sz_byte hk (h x (List.mem_cons_self)), pos_bytes hk r (fun y hy => h y (List.mem_cons_of_mem _ hy))]
    omega

theorem Lay.snoc {tx : List ByteArray} {mg : List (Int × Int)} (hk : Tok tx mg) {ps ps' : List Pt} {E : Nat} {b : Int} (hb : 0 ≤ b ∧ b < 256) (he : ∀ k, k < E → gp ps' k = gp ps k) : ∀ (T : List Int) (ah : Int) (at_ : Nat), Lay tx ps E ah at_ T → (∀ x ∈ T, 0 ≤ x ∧ x < 256) → gp ps' E = ⟨b, (if T = [] then ah else (E : Int) - 1), (E : Int) + 1⟩ → Lay tx ps' (E + 1) ah at_ (T ++ [b])
  | [], ah, at_, h, hT, hg => by
    have h1 : at_ = E := h
    subst h1
    have hz := sz_byte hk hb
    have hl := hk.len
    refine ⟨by omega, by omega, by omega, ?_, fun k h1 h2 => by omega, ?_⟩
    · rw [hg, if_pos rfl, hz]; simp
    · show at_ + sz tx b = at_ + 1
      omega
  | x :: r, ah, at_, h, hT, hg => by
    obtain ⟨h1, h2, h3, h4, h5, h6⟩ := h
    have hx := sz_byte hk (hT x (List.mem_cons_self))
    refine ⟨h1, h2, by omega, (he _ (by omega)).trans h4, fun k q1 q2 => by rw [he k (by omega)]; exact h5 k q1 q2, ?_⟩
    refine Lay.snoc hk hb he r _ _ h6 (fun y hy => hT y (List.mem_cons_of_mem _ hy)) ?_
    rw [hg, if_neg (by simp)]
    by_cases e : r = []
    · rw [if_pos e]
      subst e
      have : at_ + sz tx x = E := h6
      congr 1
      omega
    · rw [if_neg e]

/-- While the parts are laid. -/
structure StK (tx : List ByteArray) (mg : List (Int × Int)) (bl : Int) (ps : List Pt) (E : Nat) (T : List Int) (l : List Hq.It) : Prop where
  lay : Lay tx ps E (-1) 0 T
  e1 : ∀ e ∈ l, Ent tx mg bl ps.length e
  e2 : ∀ u a b v, T = u ++ a :: b :: v → ∀ K : Nat, K < mg.length → 256 + (K : Int) < bl → gm mg K = (a, b) → ∃ e ∈ l, e.r = 256 + K ∧ e.p = pos tx u

theorem Lay.last {tx : List ByteArray} {mg : List (Int × Int)} (hk : Tok tx mg) {ps : List Pt} {E : Nat} (x : Int) : ∀ (u : List Int) (ah : Int) (at_ : Nat), Lay tx ps E ah at_ (u ++ [x]) → 0 ≤ x ∧ x < 256 → 0 < E ∧ (gp ps (E - 1)).id = x
  | [], ah, at_, h, hx => by
    obtain ⟨h1, h2, h3, h4, h5, h6⟩ := h
    have hz := sz_byte hk hx
    have h7 : at_ + sz tx x = E := h6
    refine ⟨by omega, ?_⟩
    rw [show E - 1 = at_ by omega, h4]
  | y :: u, ah, at_, h, hx => Lay.last hk x u _ _ h.2.2.2.2.2 hx

theorem StK.step {tx : List ByteArray} {mg : List (Int × Int)} (hk : Tok tx mg) {bl : Int} {ps ps' : List Pt} {E : Nat} {T : List Int} {l l' : List Hq.It} (h : StK tx mg bl ps E T l) (hT : ∀ x ∈ T, 0 ≤ x ∧ x < 256) {b : Int} (hb : 0 ≤ b ∧ b < 256) (hlen : ps'.length = ps.length) (hE : E < ps.length) (he : ∀ k, k < E → gp ps' k = gp ps k) (hg : gp ps' E = ⟨b, (E : Int) - 1, (E : Int) + 1⟩)
    {tn tn' : Int} (aw : AwR mg bl ps' ((E : Int) - 1) E tn l tn' l') : StK tx mg bl ps' (E + 1) (T ++ [b]) l' := by
  have hpos := Lay.len T (-1) 0 h.lay
  have hpb := pos_bytes hk T hT
  refine ⟨Lay.snoc hk hb he T (-1) 0 h.lay hT ?_, ?_, ?_⟩
  · rw [hg]
    by_cases e : T = []
    · rw [if_pos e]
      subst e
      simp [pos] at hpos
      subst hpos
      rfl
    · rw [if_neg e]
  · intro e he'
    rcases aw.mem e he' with hm | ⟨i', j', k, q1, q2, q3, q4, q5, q6, q7, rfl⟩
    · rw [hlen]; exact h.e1 e hm
    · obtain rfl : E = j' := by omega
      have hi' : i' = E - 1 := by omega
      subst hi'
      have hz : sz tx (gp ps' (E - 1)).id = 1 := by
        rw [he _ (by omega)]
        rcases List.eq_nil_or_concat T with e0 | ⟨u, x, e0⟩
        · subst e0; simp [pos] at hpos; omega
        · rw [List.concat_eq_append] at e0
          have hxx := hT x (by rw [e0]; simp)
          have hl := Lay.last hk x u (-1) 0 (e0 ▸ h.lay) hxx
          rw [hl.2]
          exact sz_byte hk hxx
      exact ⟨E - 1, E, k, rfl, rfl, rfl, rfl, q5, q6, q7, by rw [hz]; omega, by omega, by rw [hlen] at q4 ⊢; omega⟩
  · intro u a c v hT1 K hK hb1 hg1
    rcases List.eq_nil_or_concat v with e0 | ⟨v', x, e0⟩
    · subst e0
      have e1 : T ++ [b] = (u ++ [a]) ++ [c] := by rw [hT1]; simp
      obtain ⟨e2, e3⟩ := List.append_inj' e1 rfl
      simp at e3
      subst e3
      have haa := hT a (by rw [e2]; simp)
      have hl := Lay.last hk a u (-1) 0 (e2 ▸ h.lay) haa
      have hpu : pos tx u = E - 1 := by
        have := hpos
        rw [e2, pos_append] at this
        simp only [pos, sz_byte hk haa] at this
        omega
      have aw' : AwR mg bl ps' ((E - 1 : Nat) : Int) (E : Int) tn l tn' l' := by
        rw [show ((E - 1 : Nat) : Int) = (E : Int) - 1 by omega]
        exact aw
      obtain ⟨e, he', hr, hp⟩ := aw'.has (by rw [hlen]; exact hE) hK hb1 (by rw [hg1, he _ (by omega), hl.2, hg]) hk
      exact ⟨e, he', hr, by omega⟩
    · rw [List.concat_eq_append] at e0
      subst e0
      have e1 : T ++ [b] = (u ++ a :: c :: v') ++ [x] := by rw [hT1]; simp
      obtain ⟨e2, _⟩ := List.append_inj' e1 rfl
      obtain ⟨e, he', hr, hp⟩ := h.e2 u a c v' e2 K hK hb1 hg1
      exact ⟨e, aw.sub e he', hr, hp⟩

end Go.Proofs.Ytlfffalfnnmliaa
