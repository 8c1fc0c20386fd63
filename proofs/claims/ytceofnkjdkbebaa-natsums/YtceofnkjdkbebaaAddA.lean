/- append(s, make([]T, m)...) onto a row of the call's own; contracts: raise, Add. -/
import Derived.Test.YtceofnkjdkbebaaNatE
import Derived.Lib.AppendZerosOnto
namespace Go.Proofs.Ytceofnkjdkbebaa
open Go.RowKit
set_option linter.unusedVariables false
set_option linter.unusedSimpArgs false

theorem zeroCells_one (k : IntKind) (n : Nat) : (Builtin.zeroCells (Value.int k 0).cells n).toList = (List.replicate n (0 : Int)).map (Value.int k) := by
  rw [List.map_replicate]
  apply List.ext_getElem
  · simp [Builtin.zeroCells, Value.cells]
  · intro i h1 h2
    simp [Builtin.zeroCells, Value.cells]
    rw [Nat.mod_one]
    rfl

theorem zeroCells_size (k : IntKind) (n : Nat) : (Builtin.zeroCells (Value.int k 0).cells n).size = n := by
  rw [← Array.length_toList, zeroCells_one]; simp

/-- Cells of a row, set one by one from a place on. -/
theorem setCells_row (e : TypeId) (g : Nat) : ∀ (vs : List Value) (o : Nat) (w : World) (cur : Array Value), w.heap[g]? = some (.cells cur e (0, 0)) → o + vs.length ≤ cur.size →
    ∃ cur', (w.setCells g o vs).heap[g]? = some (.cells cur' e (0, 0)) ∧ cur'.size = cur.size ∧ cur'.toList.take o = cur.toList.take o ∧ (cur'.toList.drop o).take vs.length = vs ∧ w.grownBy (w.setCells g o vs) (some g) := by
  intro vs
  induction vs with
  | nil => intro o w cur hw _; exact ⟨cur, hw, rfl, rfl, by simp, World.grownBy.refl _ _⟩
  | cons v r ih =>
    intro o w cur hw hlen
    simp only [List.length_cons] at hlen
    obtain ⟨cur', e1, e2, e3, e4, e5⟩ := ih (o + 1) (w.setCell ⟨g, o, none⟩ v) (cur.setIfInBounds o v) (by
      rw [setCell_eq_setRow w g o cur e (0, 0) _ hw]
      exact setRow_heap w g cur _ e (0, 0) hw) (by simp; omega)
    refine ⟨cur', e1, by rw [e2]; simp, ?_, ?_, grownBy_trans (grownBy_setCell w g o v) e5⟩
    · have := congrArg (List.take o) e3
      rw [List.take_take, List.take_take, Nat.min_eq_left (by omega)] at this
      rw [this, Array.toList_setIfInBounds, List.take_set_of_le (Nat.le_refl _)]
    · have hsz : cur'.toList.length = cur.size := by rw [Array.length_toList, e2]; simp
      have ho : o < cur'.toList.length := by omega
      rw [List.drop_eq_getElem_cons ho, List.length_cons, List.take_succ_cons, e4]
      congr 1
      have h5 : (cur'.toList.take (o + 1))[o]? = ((cur.setIfInBounds o v).toList.take (o + 1))[o]? := by rw [e3]
      rw [List.getElem?_take_of_lt (by omega), List.getElem?_take_of_lt (by omega), List.getElem?_eq_getElem ho, Array.getElem?_toList] at h5
      rw [Array.getElem?_setIfInBounds_self_of_lt (by omega)] at h5
      exact Option.some.inj h5

theorem run_append_zeros {P : Program} (w : World) (t tn ty e : TypeId) (i : TypeInfo) (k kq kn : IntKind) (bytes : Nat) (ht : P.underlying t = some (.slice e)) (htn : P.underlying tn = some (.int kn)) (hi : P.info? e = some i) (hz : i.zero = some (.int k 0)) (hsz : i.size = 1) (hby : i.bytes = bytes)
    (base : Nat) (ao : Option Addr) (n cap : Nat) (zs : List Int) (hown : Own k e w base ao n cap zs) (m : Nat) (h0 : 0 < m) (b1 : (n + m) * bytes ≤ 140737488355328) (b2 : n + m ≤ 1000000000000) (hbase : base ≤ w.heap.size) :
    ∃ ao' cap' w', (Builtin.append_ #[t, tn] ty #[.slice ao n cap, .int kq m]).run P w = .ok (.slice ao' (n + m) cap') w' ∧ Own k e w' base ao' (n + m) cap' (zs ++ List.replicate m 0) ∧ w.grownBy w' (blk ao) ∧ (∀ b, blk ao' = some b → blk ao = some b ∨ w.heap.size ≤ b) := by
  have hmb : m * bytes ≤ 140737488355328 := by
    have : m * bytes ≤ (n + m) * bytes := Nat.mul_le_mul_right _ (by omega)
    omega
  by_cases hr : n + m ≤ cap
  · rcases hown.2 with ⟨_, hn0, hc0⟩ | ⟨g, cur, rfl, hb, hg, hle, hcs, htk⟩
    · omega
    · obtain ⟨cur', e1, e2, e3, e4, e5⟩ := setCells_row e g ((List.replicate m (0 : Int)).map (Value.int k)) n w cur hg (by simp; omega)
      refine ⟨some ⟨g, 0, none⟩, cap, w.setCells g n ((List.replicate m (0 : Int)).map (Value.int k)), ?_, ⟨by rw [List.length_append, hown.1, List.length_replicate], Or.inr ⟨g, cur', rfl, hb, e1, hr, by omega, ?_⟩⟩, e5, fun b hb' => Or.inl hb'⟩
      · have hw : IntKind.i64.wrap (m : Int) = m := by rw [IntKind.wrap_i64]; omega
        have hneg : ¬ ((m : Int) < 0) := by omega
        have hns : ¬ (m * i.size = 0) := by rw [hsz]; omega
        have h48i : ¬ (281474976710656 < (m : Int) * (i.bytes : Int)) := by rw [hby, ← Int.natCast_mul]; omega
        have hm0 : ¬ m = 0 := by omega
        have hst := run_storeCells_cells (P := P) g n ((List.replicate m (0 : Int)).map (Value.int k)) 0 w (by
          intro j hj
          simp only [List.length_map, List.length_replicate] at hj
          simp [World.cell?, hg, show n + j < cur.size by omega]) (by intro j hj; simp [World.frozen?, hg]) (ints_oneCell _ _)
        simp only [Nat.add_zero] at hst
        rw [← zeroCells_one] at hst
        rw [← zeroCells_one]
        simp [Builtin.append_, run_underlying ht, run_underlying htn, sizeOf, typeInfo, zeroValue, hi, hz, hsz, asInt, asIntOf, hw, hneg, hm0, h48i, hr, Addr.add_lit, hst]
      · rw [List.take_add, e3, htk]
        have : ((List.replicate m (0 : Int)).map (Value.int k)).length = m := by simp
        rw [this] at e4
        rw [e4, List.map_append]
  · have hold : (Builtin.firstCells i.size n (.slice ao n cap)).run P w.drew = .ok (zs.map (Value.int k)).toArray w.drew := by
      rw [hsz]
      rcases hown.2 with ⟨rfl, rfl, _⟩ | ⟨g, cur, rfl, hb, hg, hle, hcs, htk⟩
      · obtain rfl : zs = [] := List.eq_nil_of_length_eq_zero hown.1
        rfl
      · refine run_firstCells_some (P := P) w.drew 1 n ⟨g, 0, none⟩ n cap _ (by simp [hown.1]) (fun j v hv => ?_)
        have hj : j < n := by
          have := (List.getElem?_eq_some_iff.1 hv).1
          simpa [hown.1] using this
        have hc := row_cell hg hown.1 htk j hj
        rw [Addr.add_lit, Nat.zero_add]
        show w.cell? _ = _
        rw [hc, ← hv]
        simp [List.getD_eq_getElem?_getD, show j < zs.length by have := hown.1; omega]
    have hrun := Lib.run_append_grow_zeros (P := P) w t tn ty e i (.int k 0) kq kn ht htn hi hz ao n cap (zs.map (Value.int k)) hold m h0 (by omega) (by omega) (by omega) (by rw [hby]; omega) (by rw [hby]; exact growslice_fits (by omega) b1)
    have hge := grownCap_ge w (n + m) cap e
    refine ⟨_, _, _, hrun, ⟨by rw [List.length_append, hown.1, List.length_replicate], Or.inr ⟨w.heap.size, _, rfl, hbase, heap_alloc_new w.drew _, hge, ?_, ?_⟩⟩, ⟨rfl, rfl, rfl, by simp, fun b hb _ => Below.heap_alloc w.drew _ b hb⟩, fun b hb' => Or.inr (by simp [blk] at hb'; omega)⟩
    · simp only [Array.size_append, List.size_toArray, List.length_map, zeroCells_size, hown.1]
      omega
    · have h1 : (zs.map (Value.int k)).length = n := by simp [hown.1]
      simp only [Array.toList_append, zeroCells_one]
      rw [← List.map_append, List.take_append_of_le_length (by simp [hown.1]), List.take_of_length_le (by simp [hown.1])]

theorem raise_step {P Bk T U x y b d q : Int} (h1 : P + Bk * b = T + U) (h2 : x + y + b = d + 4294967296 * q) : P + Bk * d + Bk * 4294967296 * q = T + Bk * x + (U + Bk * y) := by
  have h3 : Bk * (x + y + b) = Bk * (d + 4294967296 * q) := by rw [h2]
  simp only [Int.mul_add, Int.mul_assoc] at h3 ⊢
  omega

theorem pv_take_gen (B : Int) (zs : List Int) (k : Nat) : pv B (zs.take (k + 1)) = pv B (zs.take k) + B ^ k * zs.getD k 0 := by
  by_cases h : k < zs.length
  · exact pv_take_succ B zs k h
  · rw [List.take_of_length_le (by omega), List.take_of_length_le (by omega), List.getD_eq_getElem?_getD, List.getElem?_eq_none (by omega)]
    simp

theorem pv_zeros (B : Int) (m : Nat) : pv B (List.replicate m 0) = 0 := by
  induction m with
  | zero => rfl
  | succ m ih => rw [List.replicate_succ, pv, ih]; simp

theorem dg_zeros {B : Int} (hB : 0 < B) (m : Nat) : Dg B (List.replicate m 0) := by
  intro a ha
  rw [List.eq_of_mem_replicate ha]
  exact ⟨Int.le_refl _, hB⟩

/-- The loop of raise, from the sum's row on: its digits are at least as many as those of the other one. -/
def RaiseEnd (base : Nat) (ao : Option Addr) (n : Nat) (V : Int) (w : World) (e : Ending) (w' : World) : Prop :=
  ∃ ao' m cap' ds, e = .returned (.slice ao' m cap') ∧ Own .u32 43 w' base ao' m cap' ds ∧ Dg 4294967296 ds ∧ pv 4294967296 ds = V ∧ m ≤ n + 1 ∧ w.grownBy w' (blk ao)

end Go.Proofs.Ytceofnkjdkbebaa
