/- Contracts of package nat's small functions: copied, cut, Limbs, Of, Zero, Int, limbAt. -/
import Derived.Test.YtceofnkjdkbebaaRows
import Derived.Test.YtceofnkjdkbebaaBase
namespace Go.Proofs.Ytceofnkjdkbebaa
open Go.RowKit
set_option linter.unusedVariables false
set_option linter.unusedSimpArgs false

theorem info_u32 : (Try.prog.info? 43).map (fun i => (i.zero, i.size, i.bytes)) = some (some (.int .u32 0), 1, 4) := by kernel_rfl
theorem size_u32 : (Try.prog.info? 43).map (·.size) = some 1 := by kernel_rfl

set_option maxHeartbeats 400000 in
theorem copied_any (ao : Option Addr) (n cap : Nat) (zs : List Int) (w : World) (hR : Reads .u32 w ao n zs) (hn : n ≤ 1000000) :
    Calls Try.prog 21 #[.slice ao n cap] w fun e w' => ∃ g, e = .returned (.slice (some ⟨g, 0, none⟩) n n) ∧ Own .u32 43 w' w.heap.size (some ⟨g, 0, none⟩) n n zs ∧ Below w.heap.size w w' := by
  obtain ⟨w1, cur, hmk, hg, hcur, hb1⟩ := run_make_block (P := Try.prog) w 28 43 Try.underlying28 _ _ info_u32 n (by omega) (by unfold maxLen; omega)
  have hsz : cur.size = n := by rw [← Array.length_toList, hcur]; simp [madeCells]
  obtain ⟨w2, hcp, hown, hgr⟩ := run_copy_full (P := Try.prog) w1 28 3 43 Try.underlying28 size_u32 .u32 w.heap.size w.heap.size n cap ao zs cur hg hsz (Nat.le_refl _) (hR.kept hb1)
  have HB : Hid (Below w.heap.size w w2) := hide (hb1.grown hgr hb1.size (fun k e => by cases e; exact Nat.le_refl _))
  clear hg hcur hsz hgr hb1
  go_enter Try.func21, Try.ntmps21
  go_wp2
  go_ret
  exact ⟨_, rfl, hown, HB.out⟩

theorem ret_slice {ao : Option Addr} {a b c d : Nat} (h1 : a = b) (h2 : c = d) : Ending.returned (.slice ao a c) = .returned (.slice ao b d) := by rw [h1, h2]

set_option maxHeartbeats 400000 in
theorem cut_any (base : Nat) (ao : Option Addr) (n cap : Nat) (zs : List Int) (w : World) (hO : Own .u32 43 w base ao n cap zs) (hn : n ≤ 1000000) :
    Calls Try.prog 20 #[.slice ao n cap] w fun e w' => ∃ ao' m, e = .returned (.slice ao' m m) ∧ Own .u32 43 w base ao' m m (chop zs) ∧ (ao' = none ∨ ao' = ao) ∧ w' = w := by
  go_enter Try.func20, Try.ntmps20
  go_wp2
  go_loop [7] (fun i => ∃ k : Nat, k ≤ n ∧ i = .int .i64 k ∧ Hid (chop (zs.take (n - k)) = chop zs)) (fun i => n - (intOf i).toNat)
  case atStart => exact ⟨0, Nat.zero_le _, rfl, by rw [Nat.sub_zero, ← hO.1, List.take_length]; exact hide rfl⟩
  case round =>
    obtain ⟨k, hk, rfl, hch⟩ := hrel
    by_cases hlt : k < n
    · obtain ⟨g, rfl, hbg, hgs, hcell, _⟩ := hO.at hlt
      have hc := hcell (n - k - 1) (by omega)
      have hcap := hO.le_cap
      by_cases hz : zs.getD (n - k - 1) 0 = 0
      · have hz' : (zs[n - k - 1]?.getD 0 != 0) = false := by rw [← List.getD_eq_getElem?_getD, hz]; rfl
        have HR : Hid (chop (zs.take (n - (k + 1))) = chop zs) := by
          rw [← hch.out, show n - k = n - (k + 1) + 1 by omega]
          exact hide (chop_take_succ zs (n - (k + 1)) (by rw [show n - (k + 1) = n - k - 1 by omega]; exact hz)).symm
        clear hz
        go_wp2
        go_round
        case rel => exact ⟨k + 1, by omega, by go_num, HR⟩
        case measure => simp [intOf]; omega
      · have hz' : (zs[n - k - 1]?.getD 0 != 0) = true := by rw [← List.getD_eq_getElem?_getD]; simpa using hz
        have HR : Hid (chop zs = zs.take (n - k)) := by
          rw [← hch.out]
          have h1 := Nz_take zs (n - k - 1) (by have := hO.1; omega) hz
          rw [show n - k - 1 + 1 = n - k by omega] at h1
          exact hide (chop_of_Nz h1)
        clear hz
        go_wp2
        go_ret
        refine ⟨_, n - k, ret_slice (by omega) (by omega), ?_, Or.inr rfl, rfl⟩
        rw [HR.out]
        exact (hO.take (by omega)).trim (Nat.le_refl _) (by omega)
    · have hkn : k = n := by omega
      go_wp2
      go_ret
      refine ⟨none, 0, rfl, ?_, Or.inl rfl, rfl⟩
      have h1 := hch.out
      rw [hkn, Nat.sub_self, List.take_zero] at h1
      rw [← h1]
      exact Own.nil _ _ _ _

theorem below_alloc (w : World) (o : Obj) : Below w.heap.size w (w.alloc o) := (Below.refl _ _).alloc (Nat.le_refl _) o

set_option maxHeartbeats 400000 in
theorem limbs_any (ao : Option Addr) (n cap : Nat) (zs : List Int) (w : World) (hR : Reads .u32 w ao n zs) (hn : n ≤ 1000000) :
    Calls Try.prog 23 #[.agg #[.slice ao n cap]] w fun e w' => ∃ g, e = .returned (.slice (some ⟨g, 0, none⟩) n n) ∧ Own .u32 43 w' w.heap.size (some ⟨g, 0, none⟩) n n zs ∧ Below w.heap.size w w' := by
  go_enter Try.func23, Try.ntmps23
  go_wp2_with (go_at_call 21; refine (copied_any ao n cap zs _ (hR.kept (below_alloc _ _)) hn).mono ?_; rintro e w1 ⟨g, rfl, hO, hb⟩)
  go_ret
  exact ⟨g, rfl, hO.mono (by simp), (below_alloc w _).trans (hb.mono (by simp))⟩

set_option maxHeartbeats 400000 in
theorem zero_any (ao : Option Addr) (n cap : Nat) (w : World) (hn : n ≤ 1000000) :
    Calls Try.prog 15 #[.agg #[.slice ao n cap]] w fun e w' => e = .returned (.bool (decide (n = 0))) ∧ Below w.heap.size w w' := by
  by_cases h0 : n = 0
  · subst h0
    go_enter Try.func15, Try.ntmps15
    go_wp2
    go_ret
    exact ⟨rfl, below_alloc _ _⟩
  · have h1 : ((n : Int) == 0) = false := by simp; omega
    go_enter Try.func15, Try.ntmps15
    go_wp2
    go_ret
    exact ⟨by simp [h0], below_alloc _ _⟩

theorem own_ne {k : IntKind} {e : TypeId} {w : World} {base b : Nat} {ao : Option Addr} {n cap : Nat} {zs : List Int} (h : Own k e w base ao n cap zs) (hb : b < base) : blk ao = none ∨ blk ao ≠ some b := by
  cases hx : blk ao with
  | none => exact Or.inl rfl
  | some c =>
    right
    intro he
    have := (h.lt c hx).1
    simp only [Option.some.injEq] at he
    omega

theorem own_cell {w w1 : World} {v : Value} {T : TypeId} (hb : Below (w.alloc (.cells #[v] T)).heap.size (w.alloc (.cells #[v] T)) w1) :
    w1.cell? ⟨w.heap.size, 0, none⟩ = some v ∧ w1.frozen? ⟨w.heap.size, 0, none⟩ = false ∧ w.heap.size < w1.heap.size :=
  ⟨(hb.cell (by simp)).trans (by simp), (hb.frozen (by simp)).trans (by simp), by have := hb.size; simp at this; omega⟩

set_option maxHeartbeats 400000 in
theorem of_any (ao : Option Addr) (n cap : Nat) (zs : List Int) (w : World) (hR : Reads .u32 w ao n zs) (hn : n ≤ 1000000) :
    Calls Try.prog 7 #[.slice ao n cap] w fun e w' => ∃ ao' m, e = .returned (.agg #[.slice ao' m m]) ∧ Own .u32 43 w' w.heap.size ao' m m (chop zs) ∧ Below w.heap.size w w' := by
  go_enter Try.func7, Try.ntmps7
  go_wp2_with (first | (go_at_call 21; refine (copied_any ao n cap zs _ (hR.kept (below_alloc _ _)) hn).mono ?_; rintro e w1 ⟨g, rfl, hO, hb⟩; obtain ⟨hc1, hf1, hs1⟩ := own_cell hb) | (go_at_call 20; refine (cut_any _ _ n _ zs _ hO hn).mono ?_; rintro e w2 ⟨ao', m, rfl, hO2, ho2, hw2⟩; subst hw2))
  refine bodyPost_ret (v := .agg #[.slice ao' m m]) (by simp [results, Try.results7, go_sem, hc1]) rfl ⟨ao', m, rfl, ?_, ?_⟩
  · exact (hO2.mono (by simp)).kept (grownBy_setCell _ _ _ _) (own_ne hO2 (by simp))
  · exact ((below_alloc w _).trans (hb.mono (by simp))).setCell (Nat.le_refl _) _

end Go.Proofs.Ytceofnkjdkbebaa
