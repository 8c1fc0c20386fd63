/- Contracts: slices.Clone of a spec's five lists. Contract: vocab.copied: a spec with lists of its own. -/
import Derived.Test.YtdpmjaelbjjanaaGreatZQa8
import Derived.Lib.SliceRun
import Derived.Lib.BufferMore
import Derived.Maps.AppendAt
namespace Go.Proofs.YtdpmjaelbjjanaaGreat.Wf
open Go.RowKit
set_option linter.unusedVariables false
set_option linter.unusedSimpArgs false

theorem flat_len {α : Type} (e : α → List Value) (k : Nat) (hk : ∀ a, (e a).length = k) : ∀ l : List α, (flat e l).length = l.length * k
  | [] => by simp [flat]
  | a :: r => by
    have := flat_len e k hk r
    simp only [flat, List.flatMap_cons, List.length_append, hk, List.length_cons] at this ⊢
    rw [this, Nat.succ_mul]
    omega
theorem flat_one {α : Type} (e : α → List Value) (h : ∀ a, ∀ u ∈ e a, u.oneCell' = true) (l : List α) : ∀ u ∈ flat e l, u.oneCell' = true := by
  intro u hu
  obtain ⟨a, _, h1⟩ := List.mem_flatMap.1 hu
  exact h a u h1
theorem addr_addk (b off k : Nat) : (⟨b, off, none⟩ : Addr).add k = ⟨b, off + k, none⟩ := by
  unfold Addr.add; split <;> simp_all
theorem flat_news {α : Type} (e : α → List Value) (k : Nat) (hk : ∀ a, (e a).length = k) (hk0 : 0 < k) (l : List α) (d : α) (W : World) (b off : Nat) (h : ∀ i j, i < l.length → j < k → W.cell? ⟨b, off + i * k + j, none⟩ = (e (l.getD i d))[j]?) : ∀ (j : Nat) (u : Value), (flat e l)[j]? = some u → W.cell? (Addr.add ⟨b, off, none⟩ j) = some u := by
  intro j u hj
  have hjl : j < (flat e l).length := (List.getElem?_eq_some_iff.1 hj).1
  rw [flat_len e k hk] at hjl
  have hr : j % k < k := Nat.mod_lt _ hk0
  have hi : j / k < l.length := (Nat.div_lt_iff_lt_mul hk0).2 hjl
  have hjj : j / k * k + j % k = j := Nat.div_add_mod' j k
  rw [addr_addk, show off + j = off + j / k * k + j % k by omega, h _ _ hi hr, ← flat_get e k hk l (j / k) (j % k) d hi hr, hjj]
  exact hj
theorem one_T (m : ByteArray) : ∀ u ∈ eT m, u.oneCell' = true := by
  intro u hu
  simp only [eT, List.mem_cons, List.not_mem_nil, or_false] at hu
  subst hu
  rfl
theorem low_empty (w : World) (T : TypeId) : Below w.heap.size w (w.alloc (.cells #[] T)) := low_alloc _ _

set_option maxRecDepth 20000 in
set_option maxHeartbeats 2000000 in
theorem cloneM_any (w : World) (ao : Option Addr) (n cap : Nat) (l : List (Int × Int)) (h : RdM w ao n l) (hn : n ≤ 1000) :
    Calls Tryz.prog 128 #[.slice ao n cap] w fun e w' => (∃ a1 c1, e = .returned (.slice a1 n c1) ∧ Row w.heap.size 77 2 eM a1 n c1 l w') ∧ Below w.heap.size w w' := by
  have heq : ∀ (w : World) (a : Option Addr) (n c n' c' : Nat), (binOp .eql 32 (.slice a n c) (.slice none n' c')).run Tryz.prog w = .ok (.bool a.isNone) w := fun w a n c n' c' => Lib.run_eql_slice_nil w _ _ a n c n' c' Tryz.underlying32
  obtain ⟨hl, hc⟩ := h
  cases ao with
  | none =>
    obtain rfl : n = 0 := by
      rcases hc with h | ⟨b, off, h, _⟩
      · exact h
      · cases h
    obtain rfl : l = [] := List.eq_nil_of_length_eq_zero hl
    clear hc hl
    go_enter Tryz.func128, Tryz.ntmps128
    go_wp2
    go_ret
    exact ⟨⟨none, 0, rfl, Row.nil _ _ _ _ _⟩, Below.refl _ _⟩
  | some a =>
    obtain ⟨i0, hi, hz0, hz1, hz2⟩ := info_parts info_M
    have hnews : ∀ (j : Nat) (u : Value), (flat eM l)[j]? = some u → (w.alloc (.cells #[] 77)).cell? (Addr.add a j) = some u := by
      rcases hc with h0 | ⟨b, off, h, hlt, hcc⟩
      · subst h0
        obtain rfl : l = [] := List.eq_nil_of_length_eq_zero hl
        intro j u hj
        simp [flat] at hj
      · cases h
        refine flat_news eM 2 (fun _ => rfl) (by omega) l (0, 0) _ b off (fun i j hi hj => ?_)
        rw [(low_empty w _).cell hlt]
        rw [hl] at hi
        have hci := hcc i hi
        rcases (show j = 0 ∨ j = 1 by omega) with rfl | rfl
        · exact hci.1
        · exact hci.2
    obtain ⟨v', w1, hrun, hown, hgrow, hrest⟩ := run_append_own_at (P := Tryz.prog) (w.alloc (.cells #[] 77)) w.heap.size 32 32 77 i0 _ 2 16 Tryz.underlying32 hi hz0 hz1 hz2 rfl (by omega) (.slice (some ⟨w.heap.size, 0, none⟩) 0 0) 0 [] (World.ownsRow_made w #[] 0 (Nat.le_refl _) (Nat.zero_le _) rfl) a n cap (flat eM l) (by rw [flat_len eM 2 (fun _ => rfl), hl]) hnews (flat_one eM one_M l) (by unfold maxLen; omega) (by omega) (by simp)
    rw [Nat.zero_add, List.nil_append] at hown
    have hv : ∃ a1 c1, v' = .slice a1 n c1 := by
      rcases hown.2 with ⟨rfl, h0⟩ | ⟨g, c, cur, rfl, _⟩
      · exact ⟨none, 0, by rw [h0]⟩
      · exact ⟨_, c, rfl⟩
    obtain ⟨a1, c1, rfl⟩ := hv
    have HR : Hid (Row w.heap.size 77 2 eM a1 n c1 l w1) := hide ⟨hl, hown⟩
    have HB : Hid (Below w.heap.size w w1) := hide ((low_empty w 77).trans ⟨hgrow.os, hgrow.tape, hgrow.output, hgrow.size, fun k hk => hgrow.block k (by simp; omega) (fun e => by simp [Value.ownBlock] at e; omega)⟩)
    have HRUN := hide hrun
    clear hrun hown hgrow hrest hc hl hnews hi hz0 hz1 hz2
    go_enter Tryz.func128, Tryz.ntmps128
    go_wp2_with (at_builtin; refine Lib.wpList_append_run _ rfl _ _ _ _ rfl _ _ rfl rfl _ _ HRUN.out ?_)
    go_ret
    exact ⟨⟨_, _, rfl, HR.out⟩, HB.out⟩

set_option maxRecDepth 20000 in
set_option maxHeartbeats 2000000 in
theorem cloneT_any (w : World) (ao : Option Addr) (n cap : Nat) (l : List ByteArray) (h : RdT w ao n l) (hn : n ≤ 1000) :
    Calls Tryz.prog 131 #[.slice ao n cap] w fun e w' => (∃ a1 c1, e = .returned (.slice a1 n c1) ∧ Row w.heap.size 9 1 eT a1 n c1 l w') ∧ Below w.heap.size w w' := by
  have heq : ∀ (w : World) (a : Option Addr) (n c n' c' : Nat), (binOp .eql 31 (.slice a n c) (.slice none n' c')).run Tryz.prog w = .ok (.bool a.isNone) w := fun w a n c n' c' => Lib.run_eql_slice_nil w _ _ a n c n' c' Tryz.underlying31
  obtain ⟨hl, hc⟩ := h
  cases ao with
  | none =>
    obtain rfl : n = 0 := by
      rcases hc with h | ⟨b, off, h, _⟩
      · exact h
      · cases h
    obtain rfl : l = [] := List.eq_nil_of_length_eq_zero hl
    clear hc hl
    go_enter Tryz.func131, Tryz.ntmps131
    go_wp2
    go_ret
    exact ⟨⟨none, 0, rfl, Row.nil _ _ _ _ _⟩, Below.refl _ _⟩
  | some a =>
    obtain ⟨i0, hi, hz0, hz1, hz2⟩ := info_parts info_T
    have hnews : ∀ (j : Nat) (u : Value), (flat eT l)[j]? = some u → (w.alloc (.cells #[] 9)).cell? (Addr.add a j) = some u := by
      rcases hc with h0 | ⟨b, off, h, hlt, hcc⟩
      · subst h0
        obtain rfl : l = [] := List.eq_nil_of_length_eq_zero hl
        intro j u hj
        simp [flat] at hj
      · cases h
        refine flat_news eT 1 (fun _ => rfl) (by omega) l ⟨#[]⟩ _ b off (fun i j hi hj => ?_)
        rw [(low_empty w _).cell hlt]
        rw [hl] at hi
        have hci := hcc i hi
        obtain rfl : j = 0 := by omega
        rw [Nat.mul_one]
        exact hci
    obtain ⟨v', w1, hrun, hown, hgrow, hrest⟩ := run_append_own_at (P := Tryz.prog) (w.alloc (.cells #[] 9)) w.heap.size 31 31 9 i0 _ 1 16 Tryz.underlying31 hi hz0 hz1 hz2 rfl (by omega) (.slice (some ⟨w.heap.size, 0, none⟩) 0 0) 0 [] (World.ownsRow_made w #[] 0 (Nat.le_refl _) (Nat.zero_le _) rfl) a n cap (flat eT l) (by rw [flat_len eT 1 (fun _ => rfl), hl]) hnews (flat_one eT one_T l) (by unfold maxLen; omega) (by omega) (by simp)
    rw [Nat.zero_add, List.nil_append] at hown
    have hv : ∃ a1 c1, v' = .slice a1 n c1 := by
      rcases hown.2 with ⟨rfl, h0⟩ | ⟨g, c, cur, rfl, _⟩
      · exact ⟨none, 0, by rw [h0]⟩
      · exact ⟨_, c, rfl⟩
    obtain ⟨a1, c1, rfl⟩ := hv
    have HR : Hid (Row w.heap.size 9 1 eT a1 n c1 l w1) := hide ⟨hl, hown⟩
    have HB : Hid (Below w.heap.size w w1) := hide ((low_empty w 9).trans ⟨hgrow.os, hgrow.tape, hgrow.output, hgrow.size, fun k hk => hgrow.block k (by simp; omega) (fun e => by simp [Value.ownBlock] at e; omega)⟩)
    have HRUN := hide hrun
    clear hrun hown hgrow hrest hc hl hnews hi hz0 hz1 hz2
    go_enter Tryz.func131, Tryz.ntmps131
    go_wp2_with (at_builtin; refine Lib.wpList_append_run _ rfl _ _ _ _ rfl _ _ rfl rfl _ _ HRUN.out ?_)
    go_ret
    exact ⟨⟨_, _, rfl, HR.out⟩, HB.out⟩

set_option maxRecDepth 20000 in
set_option maxHeartbeats 2000000 in
theorem cloneS_any (w : World) (ao : Option Addr) (n cap : Nat) (l : List (Int × ByteArray)) (h : RdS w ao n l) (hn : n ≤ 1000) :
    Calls Tryz.prog 132 #[.slice ao n cap] w fun e w' => (∃ a1 c1, e = .returned (.slice a1 n c1) ∧ Row w.heap.size 79 2 eS a1 n c1 l w') ∧ Below w.heap.size w w' := by
  have heq : ∀ (w : World) (a : Option Addr) (n c n' c' : Nat), (binOp .eql 25 (.slice a n c) (.slice none n' c')).run Tryz.prog w = .ok (.bool a.isNone) w := fun w a n c n' c' => Lib.run_eql_slice_nil w _ _ a n c n' c' Tryz.underlying25
  obtain ⟨hl, hc⟩ := h
  cases ao with
  | none =>
    obtain rfl : n = 0 := by
      rcases hc with h | ⟨b, off, h, _⟩
      · exact h
      · cases h
    obtain rfl : l = [] := List.eq_nil_of_length_eq_zero hl
    clear hc hl
    go_enter Tryz.func132, Tryz.ntmps132
    go_wp2
    go_ret
    exact ⟨⟨none, 0, rfl, Row.nil _ _ _ _ _⟩, Below.refl _ _⟩
  | some a =>
    obtain ⟨i0, hi, hz0, hz1, hz2⟩ := info_parts info_S
    have hnews : ∀ (j : Nat) (u : Value), (flat eS l)[j]? = some u → (w.alloc (.cells #[] 79)).cell? (Addr.add a j) = some u := by
      rcases hc with h0 | ⟨b, off, h, hlt, hcc⟩
      · subst h0
        obtain rfl : l = [] := List.eq_nil_of_length_eq_zero hl
        intro j u hj
        simp [flat] at hj
      · cases h
        refine flat_news eS 2 (fun _ => rfl) (by omega) l (0, ⟨#[]⟩) _ b off (fun i j hi hj => ?_)
        rw [(low_empty w _).cell hlt]
        rw [hl] at hi
        have hci := hcc i hi
        rcases (show j = 0 ∨ j = 1 by omega) with rfl | rfl
        · exact hci.1
        · exact hci.2
    obtain ⟨v', w1, hrun, hown, hgrow, hrest⟩ := run_append_own_at (P := Tryz.prog) (w.alloc (.cells #[] 79)) w.heap.size 25 25 79 i0 _ 2 24 Tryz.underlying25 hi hz0 hz1 hz2 rfl (by omega) (.slice (some ⟨w.heap.size, 0, none⟩) 0 0) 0 [] (World.ownsRow_made w #[] 0 (Nat.le_refl _) (Nat.zero_le _) rfl) a n cap (flat eS l) (by rw [flat_len eS 2 (fun _ => rfl), hl]) hnews (flat_one eS one_S l) (by unfold maxLen; omega) (by omega) (by simp)
    rw [Nat.zero_add, List.nil_append] at hown
    have hv : ∃ a1 c1, v' = .slice a1 n c1 := by
      rcases hown.2 with ⟨rfl, h0⟩ | ⟨g, c, cur, rfl, _⟩
      · exact ⟨none, 0, by rw [h0]⟩
      · exact ⟨_, c, rfl⟩
    obtain ⟨a1, c1, rfl⟩ := hv
    have HR : Hid (Row w.heap.size 79 2 eS a1 n c1 l w1) := hide ⟨hl, hown⟩
    have HB : Hid (Below w.heap.size w w1) := hide ((low_empty w 79).trans ⟨hgrow.os, hgrow.tape, hgrow.output, hgrow.size, fun k hk => hgrow.block k (by simp; omega) (fun e => by simp [Value.ownBlock] at e; omega)⟩)
    have HRUN := hide hrun
    clear hrun hown hgrow hrest hc hl hnews hi hz0 hz1 hz2
    go_enter Tryz.func132, Tryz.ntmps132
    go_wp2_with (at_builtin; refine Lib.wpList_append_run _ rfl _ _ _ _ rfl _ _ rfl rfl _ _ HRUN.out ?_)
    go_ret
    exact ⟨⟨_, _, rfl, HR.out⟩, HB.out⟩

set_option maxRecDepth 20000 in
set_option maxHeartbeats 2000000 in
theorem cloneC_any (w : World) (ao : Option Addr) (n cap : Nat) (l : List (Int × Int × Int)) (h : RdC w ao n l) (hn : n ≤ 1000) :
    Calls Tryz.prog 133 #[.slice ao n cap] w fun e w' => (∃ a1 c1, e = .returned (.slice a1 n c1) ∧ Row w.heap.size 130 3 eC a1 n c1 l w') ∧ Below w.heap.size w w' := by
  have heq : ∀ (w : World) (a : Option Addr) (n c n' c' : Nat), (binOp .eql 23 (.slice a n c) (.slice none n' c')).run Tryz.prog w = .ok (.bool a.isNone) w := fun w a n c n' c' => Lib.run_eql_slice_nil w _ _ a n c n' c' Tryz.underlying23
  obtain ⟨hl, hc⟩ := h
  cases ao with
  | none =>
    obtain rfl : n = 0 := by
      rcases hc with h | ⟨b, off, h, _⟩
      · exact h
      · cases h
    obtain rfl : l = [] := List.eq_nil_of_length_eq_zero hl
    clear hc hl
    go_enter Tryz.func133, Tryz.ntmps133
    go_wp2
    go_ret
    exact ⟨⟨none, 0, rfl, Row.nil _ _ _ _ _⟩, Below.refl _ _⟩
  | some a =>
    obtain ⟨i0, hi, hz0, hz1, hz2⟩ := info_parts info_C
    have hnews : ∀ (j : Nat) (u : Value), (flat eC l)[j]? = some u → (w.alloc (.cells #[] 130)).cell? (Addr.add a j) = some u := by
      rcases hc with h0 | ⟨b, off, h, hlt, hcc⟩
      · subst h0
        obtain rfl : l = [] := List.eq_nil_of_length_eq_zero hl
        intro j u hj
        simp [flat] at hj
      · cases h
        refine flat_news eC 3 (fun _ => rfl) (by omega) l (0, 0, 0) _ b off (fun i j hi hj => ?_)
        rw [(low_empty w _).cell hlt]
        rw [hl] at hi
        have hci := hcc i hi
        rcases (show j = 0 ∨ j = 1 ∨ j = 2 by omega) with rfl | rfl | rfl
        · exact hci.1
        · exact hci.2.1
        · exact hci.2.2
    obtain ⟨v', w1, hrun, hown, hgrow, hrest⟩ := run_append_own_at (P := Tryz.prog) (w.alloc (.cells #[] 130)) w.heap.size 23 23 130 i0 _ 3 24 Tryz.underlying23 hi hz0 hz1 hz2 rfl (by omega) (.slice (some ⟨w.heap.size, 0, none⟩) 0 0) 0 [] (World.ownsRow_made w #[] 0 (Nat.le_refl _) (Nat.zero_le _) rfl) a n cap (flat eC l) (by rw [flat_len eC 3 (fun _ => rfl), hl]) hnews (flat_one eC one_C l) (by unfold maxLen; omega) (by omega) (by simp)
    rw [Nat.zero_add, List.nil_append] at hown
    have hv : ∃ a1 c1, v' = .slice a1 n c1 := by
      rcases hown.2 with ⟨rfl, h0⟩ | ⟨g, c, cur, rfl, _⟩
      · exact ⟨none, 0, by rw [h0]⟩
      · exact ⟨_, c, rfl⟩
    obtain ⟨a1, c1, rfl⟩ := hv
    have HR : Hid (Row w.heap.size 130 3 eC a1 n c1 l w1) := hide ⟨hl, hown⟩
    have HB : Hid (Below w.heap.size w w1) := hide ((low_empty w 130).trans ⟨hgrow.os, hgrow.tape, hgrow.output, hgrow.size, fun k hk => hgrow.block k (by simp; omega) (fun e => by simp [Value.ownBlock] at e; omega)⟩)
    have HRUN := hide hrun
    clear hrun hown hgrow hrest hc hl hnews hi hz0 hz1 hz2
    go_enter Tryz.func133, Tryz.ntmps133
    go_wp2_with (at_builtin; refine Lib.wpList_append_run _ rfl _ _ _ _ rfl _ _ rfl rfl _ _ HRUN.out ?_)
    go_ret
    exact ⟨⟨_, _, rfl, HR.out⟩, HB.out⟩

set_option maxRecDepth 20000 in
set_option maxHeartbeats 2000000 in
theorem cloneJ_any (w : World) (ao : Option Addr) (n cap : Nat) (l : List (Int × Int)) (h : RdM w ao n l) (hn : n ≤ 1000) :
    Calls Tryz.prog 134 #[.slice ao n cap] w fun e w' => (∃ a1 c1, e = .returned (.slice a1 n c1) ∧ Row w.heap.size 95 2 eM a1 n c1 l w') ∧ Below w.heap.size w w' := by
  have heq : ∀ (w : World) (a : Option Addr) (n c n' c' : Nat), (binOp .eql 24 (.slice a n c) (.slice none n' c')).run Tryz.prog w = .ok (.bool a.isNone) w := fun w a n c n' c' => Lib.run_eql_slice_nil w _ _ a n c n' c' Tryz.underlying24
  obtain ⟨hl, hc⟩ := h
  cases ao with
  | none =>
    obtain rfl : n = 0 := by
      rcases hc with h | ⟨b, off, h, _⟩
      · exact h
      · cases h
    obtain rfl : l = [] := List.eq_nil_of_length_eq_zero hl
    clear hc hl
    go_enter Tryz.func134, Tryz.ntmps134
    go_wp2
    go_ret
    exact ⟨⟨none, 0, rfl, Row.nil _ _ _ _ _⟩, Below.refl _ _⟩
  | some a =>
    obtain ⟨i0, hi, hz0, hz1, hz2⟩ := info_parts info_J
    have hnews : ∀ (j : Nat) (u : Value), (flat eM l)[j]? = some u → (w.alloc (.cells #[] 95)).cell? (Addr.add a j) = some u := by
      rcases hc with h0 | ⟨b, off, h, hlt, hcc⟩
      · subst h0
        obtain rfl : l = [] := List.eq_nil_of_length_eq_zero hl
        intro j u hj
        simp [flat] at hj
      · cases h
        refine flat_news eM 2 (fun _ => rfl) (by omega) l (0, 0) _ b off (fun i j hi hj => ?_)
        rw [(low_empty w _).cell hlt]
        rw [hl] at hi
        have hci := hcc i hi
        rcases (show j = 0 ∨ j = 1 by omega) with rfl | rfl
        · exact hci.1
        · exact hci.2
    obtain ⟨v', w1, hrun, hown, hgrow, hrest⟩ := run_append_own_at (P := Tryz.prog) (w.alloc (.cells #[] 95)) w.heap.size 24 24 95 i0 _ 2 16 Tryz.underlying24 hi hz0 hz1 hz2 rfl (by omega) (.slice (some ⟨w.heap.size, 0, none⟩) 0 0) 0 [] (World.ownsRow_made w #[] 0 (Nat.le_refl _) (Nat.zero_le _) rfl) a n cap (flat eM l) (by rw [flat_len eM 2 (fun _ => rfl), hl]) hnews (flat_one eM one_M l) (by unfold maxLen; omega) (by omega) (by simp)
    rw [Nat.zero_add, List.nil_append] at hown
    have hv : ∃ a1 c1, v' = .slice a1 n c1 := by
      rcases hown.2 with ⟨rfl, h0⟩ | ⟨g, c, cur, rfl, _⟩
      · exact ⟨none, 0, by rw [h0]⟩
      · exact ⟨_, c, rfl⟩
    obtain ⟨a1, c1, rfl⟩ := hv
    have HR : Hid (Row w.heap.size 95 2 eM a1 n c1 l w1) := hide ⟨hl, hown⟩
    have HB : Hid (Below w.heap.size w w1) := hide ((low_empty w 95).trans ⟨hgrow.os, hgrow.tape, hgrow.output, hgrow.size, fun k hk => hgrow.block k (by simp; omega) (fun e => by simp [Value.ownBlock] at e; omega)⟩)
    have HRUN := hide hrun
    clear hrun hown hgrow hrest hc hl hnews hi hz0 hz1 hz2
    go_enter Tryz.func134, Tryz.ntmps134
    go_wp2_with (at_builtin; refine Lib.wpList_append_run _ rfl _ _ _ _ rfl _ _ rfl rfl _ _ HRUN.out ?_)
    go_ret
    exact ⟨⟨_, _, rfl, HR.out⟩, HB.out⟩
end Go.Proofs.YtdpmjaelbjjanaaGreat.Wf

namespace Go.Proofs.YtdpmjaelbjjanaaGreat.Wf
open Go.RowKit
set_option linter.unusedVariables false
set_option linter.unusedSimpArgs false

/-- A spec whose lists are rows of the call's own, above B. -/
structure SpRw (B : Nat) (y : Sv) (s : Sp) (W : World) : Prop where
  r : y.r = s.ranked
  m1 : Row B 77 2 eM y.a1 y.n1 y.c1 s.merges W
  m2 : Row B 9 1 eT y.a2 y.n2 y.c2 s.tokens W
  m3 : Row B 79 2 eS y.a3 y.n3 y.c3 s.specials W
  m4 : Row B 130 3 eC y.a4 y.n4 y.c4 s.classes W
  m5 : Row B 95 2 eM y.a5 y.n5 y.c5 s.joins W
theorem Row.mono {α : Type} {B B' E k : Nat} {e : α → List Value} {ao : Option Addr} {n cap : Nat} {l : List α} {W : World} (h : Row B' E k e ao n cap l W) (hB : B ≤ B') : Row B E k e ao n cap l W := by
  refine ⟨h.len, h.own.1, ?_⟩
  rcases h.own.2 with h1 | ⟨g, c, cur, h1, h2, h3⟩
  · exact Or.inl h1
  · exact Or.inr ⟨g, c, cur, h1, by omega, h3⟩
theorem SpRw.low {B : Nat} {y : Sv} {s : Sp} {W W' : World} (h : SpRw B y s W) (hb : Below W.heap.size W W') : SpRw B y s W' :=
  ⟨h.r, h.m1.low hb, h.m2.low hb, h.m3.low hb, h.m4.low hb, h.m5.low hb⟩
theorem SpRw.mono {B B' : Nat} {y : Sv} {s : Sp} {W : World} (h : SpRw B' y s W) (hB : B ≤ B') : SpRw B y s W :=
  ⟨h.r, h.m1.mono hB, h.m2.mono hB, h.m3.mono hB, h.m4.mono hB, h.m5.mono hB⟩
theorem SpRw.spec {B : Nat} {y : Sv} {s : Sp} {W : World} (h : SpRw B y s W) : SpAt W y s := by
  refine ⟨h.r, ⟨h.m1.len, ?_⟩, ⟨h.m2.len, ?_⟩, ⟨h.m3.len, ?_⟩, ⟨h.m4.len, ?_⟩, ⟨h.m5.len, ?_⟩⟩
  · rcases Nat.eq_zero_or_pos y.n1 with h0 | h0
    · exact Or.inl h0
    · obtain ⟨g, hg, hl, hc⟩ := h.m1.cell (fun _ => rfl) h0 (0, 0)
      exact Or.inr ⟨g, 0, hg, hl, fun i hi => ⟨hc i 0 hi (by omega), hc i 1 hi (by omega)⟩⟩
  · rcases Nat.eq_zero_or_pos y.n2 with h0 | h0
    · exact Or.inl h0
    · obtain ⟨g, hg, hl, hc⟩ := h.m2.cell (fun _ => rfl) h0 ⟨#[]⟩
      exact Or.inr ⟨g, 0, hg, hl, fun i hi => by have := hc i 0 hi (by omega); rw [Nat.mul_one] at this; exact this⟩
  · rcases Nat.eq_zero_or_pos y.n3 with h0 | h0
    · exact Or.inl h0
    · obtain ⟨g, hg, hl, hc⟩ := h.m3.cell (fun _ => rfl) h0 (0, ⟨#[]⟩)
      exact Or.inr ⟨g, 0, hg, hl, fun i hi => ⟨hc i 0 hi (by omega), hc i 1 hi (by omega)⟩⟩
  · rcases Nat.eq_zero_or_pos y.n4 with h0 | h0
    · exact Or.inl h0
    · obtain ⟨g, hg, hl, hc⟩ := h.m4.cell (fun _ => rfl) h0 (0, 0, 0)
      exact Or.inr ⟨g, 0, hg, hl, fun i hi => ⟨hc i 0 hi (by omega), hc i 1 hi (by omega), hc i 2 hi (by omega)⟩⟩
  · rcases Nat.eq_zero_or_pos y.n5 with h0 | h0
    · exact Or.inl h0
    · obtain ⟨g, hg, hl, hc⟩ := h.m5.cell (fun _ => rfl) h0 (0, 0)
      exact Or.inr ⟨g, 0, hg, hl, fun i hi => ⟨hc i 0 hi (by omega), hc i 1 hi (by omega)⟩⟩
theorem SpRw.set {B : Nat} {y : Sv} {s : Sp} {W : World} {q : Nat} {cs : Array Value} {T : TypeId} {fr : Nat × Nat} (h : SpRw B y s W) (hb : W.heap[q]? = some (.cells cs T fr)) (h1 : T ≠ 77) (h2 : T ≠ 9) (h3 : T ≠ 79) (h4 : T ≠ 130) (h5 : T ≠ 95) (j : Nat) (v : Value) : SpRw B y s (W.setCell ⟨q, j, none⟩ v) :=
  ⟨h.r, h.m1.set hb h1 j v, h.m2.set hb h2 j v, h.m3.set hb h3 j v, h.m4.set hb h4 j v, h.m5.set hb h5 j v⟩
theorem SpRw.setS {B : Nat} {y : Sv} {s : Sp} {W : World} {q : Nat} {cs : Array Value} {fr : Nat × Nat} (h : SpRw B y s W) (hb : W.heap[q]? = some (.cells cs 81 fr)) (j : Nat) (v : Value) : SpRw B y s (W.setCell ⟨q, j, none⟩ v) :=
  h.set hb (by decide) (by decide) (by decide) (by decide) (by decide) j v
/-- It is put into a result's box. -/
theorem put_spec {B : Nat} {r : Bool} {b1 b2 b3 b4 b5 : Option Addr} {n1 e1 n2 e2 n3 e3 n4 e4 n5 e5 : Nat} {s : Sp} {w W : World} {q : Nat} (h : SpRw B (Sv.mk r b1 n1 e1 b2 n2 e2 b3 n3 e3 b4 n4 e4 b5 n5 e5) s W) (hB : Below w.heap.size w W) (hz : W.heap[q]? = some (.cells #[.bool false, .slice none 0 0, .slice none 0 0, .slice none 0 0, .slice none 0 0, .slice none 0 0] 81 (0, 0))) (hq : w.heap.size ≤ q) :
    SpRw B (Sv.mk r b1 n1 e1 b2 n2 e2 b3 n3 e3 b4 n4 e4 b5 n5 e5) s ((((((W.setCell ⟨q, 0, none⟩ (.bool r)).setCell ⟨q, 1, none⟩ (.slice b1 n1 e1)).setCell ⟨q, 2, none⟩ (.slice b2 n2 e2)).setCell ⟨q, 3, none⟩ (.slice b3 n3 e3)).setCell ⟨q, 4, none⟩ (.slice b4 n4 e4)).setCell ⟨q, 5, none⟩ (.slice b5 n5 e5)) ∧
    Below w.heap.size w ((((((W.setCell ⟨q, 0, none⟩ (.bool r)).setCell ⟨q, 1, none⟩ (.slice b1 n1 e1)).setCell ⟨q, 2, none⟩ (.slice b2 n2 e2)).setCell ⟨q, 3, none⟩ (.slice b3 n3 e3)).setCell ⟨q, 4, none⟩ (.slice b4 n4 e4)).setCell ⟨q, 5, none⟩ (.slice b5 n5 e5)) ∧
    ((((((W.setCell ⟨q, 0, none⟩ (.bool r)).setCell ⟨q, 1, none⟩ (.slice b1 n1 e1)).setCell ⟨q, 2, none⟩ (.slice b2 n2 e2)).setCell ⟨q, 3, none⟩ (.slice b3 n3 e3)).setCell ⟨q, 4, none⟩ (.slice b4 n4 e4)).setCell ⟨q, 5, none⟩ (.slice b5 n5 e5)).heap[q]? = some (.cells #[.bool r, .slice b1 n1 e1, .slice b2 n2 e2, .slice b3 n3 e3, .slice b4 n4 e4, .slice b5 n5 e5] 81 (0, 0)) := by
  have z1 := set_block hz 0 (.bool r)
  have z2 := set_block z1 1 (.slice b1 n1 e1)
  have z3 := set_block z2 2 (.slice b2 n2 e2)
  have z4 := set_block z3 3 (.slice b3 n3 e3)
  have z5 := set_block z4 4 (.slice b4 n4 e4)
  have z6 := set_block z5 5 (.slice b5 n5 e5)
  refine ⟨(((((h.setS hz 0 _).setS z1 1 _).setS z2 2 _).setS z3 3 _).setS z4 4 _).setS z5 5 _, ?_, by simpa using z6⟩
  exact (((((hB.setCell (p := ⟨q, 0, none⟩) hq _).setCell (p := ⟨q, 1, none⟩) hq _).setCell (p := ⟨q, 2, none⟩) hq _).setCell (p := ⟨q, 3, none⟩) hq _).setCell (p := ⟨q, 4, none⟩) hq _).setCell (p := ⟨q, 5, none⟩) hq _
/-- How long its lists are at most. -/
structure NLe (x : Sv) (m : Nat) : Prop where
  n1 : x.n1 ≤ m
  n2 : x.n2 ≤ m
  n3 : x.n3 ≤ m
  n4 : x.n4 ≤ m
  n5 : x.n5 ≤ m
/-- The box that is filled, list by list: what lies in it. -/
structure CpI (w : World) (q r : Nat) (cs : Array Value) (W : World) : Prop where
  blk : W.heap[q]? = some (.cells cs 81 (0, 0))
  res : W.heap[r]? = some (.cells #[.bool false, .slice none 0 0, .slice none 0 0, .slice none 0 0, .slice none 0 0, .slice none 0 0] 81 (0, 0))
  hq : w.heap.size ≤ q
  hr : w.heap.size ≤ r
  ne : q ≠ r
  bel : Below w.heap.size w W
section
variable {w : World} {q r : Nat} {cs : Array Value} {W W' : World}
theorem CpI.ltq (h : CpI w q r cs W) : q < W.heap.size := (Array.getElem?_eq_some_iff.1 h.blk).1
theorem CpI.ltr (h : CpI w q r cs W) : r < W.heap.size := (Array.getElem?_eq_some_iff.1 h.res).1
theorem CpI.low (h : CpI w q r cs W) (hb : Below W.heap.size W W') : CpI w q r cs W' :=
  ⟨by rw [hb.block _ h.ltq]; exact h.blk, by rw [hb.block _ h.ltr]; exact h.res, h.hq, h.hr, h.ne, h.bel.trans (hb.mono h.bel.size)⟩
theorem CpI.set (h : CpI w q r cs W) (j : Nat) (v : Value) : CpI w q r (cs.setIfInBounds j v) (W.setCell ⟨q, j, none⟩ v) :=
  ⟨set_block h.blk j v, by rw [heap_setCell_other W ⟨q, j, none⟩ r v (fun e => h.ne e.symm)]; exact h.res, h.hq, h.hr, h.ne, h.bel.setCell (p := ⟨q, j, none⟩) h.hq _⟩
theorem CpI.cell (h : CpI w q r cs W) (j : Nat) : W.cell? ⟨q, j, none⟩ = cs[j]? := Lib.cell_of_heap h.blk j
theorem CpI.free (h : CpI w q r cs W) (j : Nat) : W.frozen? ⟨q, j, none⟩ = false := Lib.frozen_of_heap h.blk j
end

set_option maxRecDepth 20000 in
set_option maxHeartbeats 8000000 in
theorem copied_any (x : Sv) (s : Sp) (w : World) (h : SpAt w x s) (hn : NLe x 1000) :
    Calls Tryz.prog 108 #[.agg x.cs] w fun e w' => (∃ y : Sv, e = .returned (.agg y.cs) ∧ SpRw w.heap.size y s w' ∧ NLe y 1000) ∧ Below w.heap.size w w' := by
  have hI : CpI w w.heap.size (w.heap.size + 1) x.cs ((w.alloc (.cells x.cs 81)).alloc (.cells #[.bool false, .slice none 0 0, .slice none 0 0, .slice none 0 0, .slice none 0 0, .slice none 0 0] 81)) := by
    refine ⟨?_, ?_, Nat.le_refl _, by omega, by omega, (low_alloc _ _).trans ((low_alloc _ _).mono (by simp))⟩
    · rw [(low_alloc (w.alloc (.cells x.cs 81)) _).block _ (by simp)]
      exact heap_alloc_new w _
    · have := heap_alloc_new (w.alloc (.cells x.cs 81)) (.cells #[.bool false, .slice none 0 0, .slice none 0 0, .slice none 0 0, .slice none 0 0, .slice none 0 0] 81)
      simpa using this
  have HI := hide hI
  have HS := hide h
  have HN := hide hn
  have hr := h.r
  clear hI h hn
  obtain ⟨r, a1, n1, c1, a2, n2, c2, a3, n3, c3, a4, n4, c4, a5, n5, c5⟩ := x
  have HRR : Hid (r = s.ranked) := hide hr
  clear hr
  have d1 : ((w.alloc (.cells (Sv.mk r a1 n1 c1 a2 n2 c2 a3 n3 c3 a4 n4 c4 a5 n5 c5).cs 81)).alloc (.cells #[.bool false, .slice none 0 0, .slice none 0 0, .slice none 0 0, .slice none 0 0, .slice none 0 0] 81)).cell? ⟨w.heap.size, 1, none⟩ = some (.slice a1 n1 c1) := HI.out.cell 1
  have hq : w.heap.size < ((w.alloc (.cells (Sv.mk r a1 n1 c1 a2 n2 c2 a3 n3 c3 a4 n4 c4 a5 n5 c5).cs 81)).alloc (.cells #[.bool false, .slice none 0 0, .slice none 0 0, .slice none 0 0, .slice none 0 0, .slice none 0 0] 81)).heap.size := HI.out.ltq
  go_enter Tryz.func108, Tryz.ntmps108
  go_wp2_with fail
  generalize (w.alloc (.cells (Sv.mk r a1 n1 c1 a2 n2 c2 a3 n3 c3 a4 n4 c4 a5 n5 c5).cs 81)).alloc (.cells #[.bool false, .slice none 0 0, .slice none 0 0, .slice none 0 0, .slice none 0 0, .slice none 0 0] 81) = W0 at *
  have HK := hide (cloneM_any W0 a1 n1 c1 s.merges (HS.out.kept HI.out.bel).ms HN.out.n1)
  refine (unhide HK).mono ?_
  rintro e V1 ⟨⟨b1, e1, rfl, hR⟩, hb⟩
  have hs0 := HI.out.bel.size
  replace HI := hide (HI.out.low hb)
  have HM1 := hide (hR.mono (B := w.heap.size) hs0)
  clear hR hb HK hs0 d1 hq
  have d1 : V1.cell? ⟨w.heap.size, 1, none⟩ = some (.slice a1 n1 c1) := HI.out.cell 1
  have g1 : V1.frozen? ⟨w.heap.size, 1, none⟩ = false := HI.out.free 1
  replace HM1 := hide (HM1.out.set HI.out.blk (by decide) 1 (.slice b1 n1 e1))
  have HI2 : Hid (CpI w w.heap.size (w.heap.size + 1) #[.bool r, .slice b1 n1 e1, .slice a2 n2 c2, .slice a3 n3 c3, .slice a4 n4 c4, .slice a5 n5 c5] (V1.setCell ⟨w.heap.size, 1, none⟩ (.slice b1 n1 e1))) := hide (HI.out.set 1 _)
  have x2 : (V1.setCell ⟨w.heap.size, 1, none⟩ (.slice b1 n1 e1)).cell? ⟨w.heap.size, 2, none⟩ = some (.slice a2 n2 c2) := HI2.out.cell 2
  clear HI
  go_wp2_with fail
  generalize V1.setCell ⟨w.heap.size, 1, none⟩ (.slice b1 n1 e1) = W1 at *
  clear d1 g1
  have d2 := x2
  have hq : w.heap.size < W1.heap.size := HI2.out.ltq
  have HI := HI2
  clear HI2 x2
  have HK := hide (cloneT_any W1 a2 n2 c2 s.tokens (HS.out.kept HI.out.bel).ts HN.out.n2)
  refine (unhide HK).mono ?_
  rintro e V2 ⟨⟨b2, e2, rfl, hR⟩, hb⟩
  have HM1 := hide (HM1.out.low hb)
  have hs1 := HI.out.bel.size
  replace HI := hide (HI.out.low hb)
  have HM2 := hide (hR.mono (B := w.heap.size) hs1)
  clear hR hb HK hs1 d2 hq
  have d2 : V2.cell? ⟨w.heap.size, 2, none⟩ = some (.slice a2 n2 c2) := HI.out.cell 2
  have g2 : V2.frozen? ⟨w.heap.size, 2, none⟩ = false := HI.out.free 2
  replace HM1 := hide (HM1.out.set HI.out.blk (by decide) 2 (.slice b2 n2 e2))
  replace HM2 := hide (HM2.out.set HI.out.blk (by decide) 2 (.slice b2 n2 e2))
  have HI2 : Hid (CpI w w.heap.size (w.heap.size + 1) #[.bool r, .slice b1 n1 e1, .slice b2 n2 e2, .slice a3 n3 c3, .slice a4 n4 c4, .slice a5 n5 c5] (V2.setCell ⟨w.heap.size, 2, none⟩ (.slice b2 n2 e2))) := hide (HI.out.set 2 _)
  have x3 : (V2.setCell ⟨w.heap.size, 2, none⟩ (.slice b2 n2 e2)).cell? ⟨w.heap.size, 3, none⟩ = some (.slice a3 n3 c3) := HI2.out.cell 3
  clear HI
  go_wp2_with fail
  generalize V2.setCell ⟨w.heap.size, 2, none⟩ (.slice b2 n2 e2) = W2 at *
  clear d2 g2
  have d3 := x3
  have hq : w.heap.size < W2.heap.size := HI2.out.ltq
  have HI := HI2
  clear HI2 x3
  have HK := hide (cloneS_any W2 a3 n3 c3 s.specials (HS.out.kept HI.out.bel).ss HN.out.n3)
  refine (unhide HK).mono ?_
  rintro e V3 ⟨⟨b3, e3, rfl, hR⟩, hb⟩
  have HM1 := hide (HM1.out.low hb)
  have HM2 := hide (HM2.out.low hb)
  have hs2 := HI.out.bel.size
  replace HI := hide (HI.out.low hb)
  have HM3 := hide (hR.mono (B := w.heap.size) hs2)
  clear hR hb HK hs2 d3 hq
  have d3 : V3.cell? ⟨w.heap.size, 3, none⟩ = some (.slice a3 n3 c3) := HI.out.cell 3
  have g3 : V3.frozen? ⟨w.heap.size, 3, none⟩ = false := HI.out.free 3
  replace HM1 := hide (HM1.out.set HI.out.blk (by decide) 3 (.slice b3 n3 e3))
  replace HM2 := hide (HM2.out.set HI.out.blk (by decide) 3 (.slice b3 n3 e3))
  replace HM3 := hide (HM3.out.set HI.out.blk (by decide) 3 (.slice b3 n3 e3))
  have HI2 : Hid (CpI w w.heap.size (w.heap.size + 1) #[.bool r, .slice b1 n1 e1, .slice b2 n2 e2, .slice b3 n3 e3, .slice a4 n4 c4, .slice a5 n5 c5] (V3.setCell ⟨w.heap.size, 3, none⟩ (.slice b3 n3 e3))) := hide (HI.out.set 3 _)
  have x4 : (V3.setCell ⟨w.heap.size, 3, none⟩ (.slice b3 n3 e3)).cell? ⟨w.heap.size, 4, none⟩ = some (.slice a4 n4 c4) := HI2.out.cell 4
  clear HI
  go_wp2_with fail
  generalize V3.setCell ⟨w.heap.size, 3, none⟩ (.slice b3 n3 e3) = W3 at *
  clear d3 g3
  have d4 := x4
  have hq : w.heap.size < W3.heap.size := HI2.out.ltq
  have HI := HI2
  clear HI2 x4
  have HK := hide (cloneC_any W3 a4 n4 c4 s.classes (HS.out.kept HI.out.bel).cs HN.out.n4)
  refine (unhide HK).mono ?_
  rintro e V4 ⟨⟨b4, e4, rfl, hR⟩, hb⟩
  have HM1 := hide (HM1.out.low hb)
  have HM2 := hide (HM2.out.low hb)
  have HM3 := hide (HM3.out.low hb)
  have hs3 := HI.out.bel.size
  replace HI := hide (HI.out.low hb)
  have HM4 := hide (hR.mono (B := w.heap.size) hs3)
  clear hR hb HK hs3 d4 hq
  have d4 : V4.cell? ⟨w.heap.size, 4, none⟩ = some (.slice a4 n4 c4) := HI.out.cell 4
  have g4 : V4.frozen? ⟨w.heap.size, 4, none⟩ = false := HI.out.free 4
  replace HM1 := hide (HM1.out.set HI.out.blk (by decide) 4 (.slice b4 n4 e4))
  replace HM2 := hide (HM2.out.set HI.out.blk (by decide) 4 (.slice b4 n4 e4))
  replace HM3 := hide (HM3.out.set HI.out.blk (by decide) 4 (.slice b4 n4 e4))
  replace HM4 := hide (HM4.out.set HI.out.blk (by decide) 4 (.slice b4 n4 e4))
  have HI2 : Hid (CpI w w.heap.size (w.heap.size + 1) #[.bool r, .slice b1 n1 e1, .slice b2 n2 e2, .slice b3 n3 e3, .slice b4 n4 e4, .slice a5 n5 c5] (V4.setCell ⟨w.heap.size, 4, none⟩ (.slice b4 n4 e4))) := hide (HI.out.set 4 _)
  have x5 : (V4.setCell ⟨w.heap.size, 4, none⟩ (.slice b4 n4 e4)).cell? ⟨w.heap.size, 5, none⟩ = some (.slice a5 n5 c5) := HI2.out.cell 5
  clear HI
  go_wp2_with fail
  generalize V4.setCell ⟨w.heap.size, 4, none⟩ (.slice b4 n4 e4) = W4 at *
  clear d4 g4
  have d5 := x5
  have hq : w.heap.size < W4.heap.size := HI2.out.ltq
  have HI := HI2
  clear HI2 x5
  have HK := hide (cloneJ_any W4 a5 n5 c5 s.joins (HS.out.kept HI.out.bel).js HN.out.n5)
  refine (unhide HK).mono ?_
  rintro e V5 ⟨⟨b5, e5, rfl, hR⟩, hb⟩
  have HM1 := hide (HM1.out.low hb)
  have HM2 := hide (HM2.out.low hb)
  have HM3 := hide (HM3.out.low hb)
  have HM4 := hide (HM4.out.low hb)
  have hs4 := HI.out.bel.size
  replace HI := hide (HI.out.low hb)
  have HM5 := hide (hR.mono (B := w.heap.size) hs4)
  clear hR hb HK hs4 d5 hq
  have d5 : V5.cell? ⟨w.heap.size, 5, none⟩ = some (.slice a5 n5 c5) := HI.out.cell 5
  have g5 : V5.frozen? ⟨w.heap.size, 5, none⟩ = false := HI.out.free 5
  replace HM1 := hide (HM1.out.set HI.out.blk (by decide) 5 (.slice b5 n5 e5))
  replace HM2 := hide (HM2.out.set HI.out.blk (by decide) 5 (.slice b5 n5 e5))
  replace HM3 := hide (HM3.out.set HI.out.blk (by decide) 5 (.slice b5 n5 e5))
  replace HM4 := hide (HM4.out.set HI.out.blk (by decide) 5 (.slice b5 n5 e5))
  replace HM5 := hide (HM5.out.set HI.out.blk (by decide) 5 (.slice b5 n5 e5))
  have HI2 : Hid (CpI w w.heap.size (w.heap.size + 1) #[.bool r, .slice b1 n1 e1, .slice b2 n2 e2, .slice b3 n3 e3, .slice b4 n4 e4, .slice b5 n5 e5] (V5.setCell ⟨w.heap.size, 5, none⟩ (.slice b5 n5 e5))) := hide (HI.out.set 5 _)
  have HR : Hid (SpRw w.heap.size (Sv.mk r b1 n1 e1 b2 n2 e2 b3 n3 e3 b4 n4 e4 b5 n5 e5) s (V5.setCell ⟨w.heap.size, 5, none⟩ (.slice b5 n5 e5))) := hide ⟨HRR.out, HM1.out, HM2.out, HM3.out, HM4.out, HM5.out⟩
  have x0 : (V5.setCell ⟨w.heap.size, 5, none⟩ (.slice b5 n5 e5)).cell? ⟨w.heap.size, 0, none⟩ = some (.bool r) := HI2.out.cell 0
  have x1 : (V5.setCell ⟨w.heap.size, 5, none⟩ (.slice b5 n5 e5)).cell? ⟨w.heap.size, 1, none⟩ = some (.slice b1 n1 e1) := HI2.out.cell 1
  have x2 : (V5.setCell ⟨w.heap.size, 5, none⟩ (.slice b5 n5 e5)).cell? ⟨w.heap.size, 2, none⟩ = some (.slice b2 n2 e2) := HI2.out.cell 2
  have x3 : (V5.setCell ⟨w.heap.size, 5, none⟩ (.slice b5 n5 e5)).cell? ⟨w.heap.size, 3, none⟩ = some (.slice b3 n3 e3) := HI2.out.cell 3
  have x4 : (V5.setCell ⟨w.heap.size, 5, none⟩ (.slice b5 n5 e5)).cell? ⟨w.heap.size, 4, none⟩ = some (.slice b4 n4 e4) := HI2.out.cell 4
  have x5 : (V5.setCell ⟨w.heap.size, 5, none⟩ (.slice b5 n5 e5)).cell? ⟨w.heap.size, 5, none⟩ = some (.slice b5 n5 e5) := HI2.out.cell 5
  have z0 : (V5.setCell ⟨w.heap.size, 5, none⟩ (.slice b5 n5 e5)).heap[w.heap.size + 1]? = some (.cells #[.bool false, .slice none 0 0, .slice none 0 0, .slice none 0 0, .slice none 0 0, .slice none 0 0] 81 (0, 0)) := HI2.out.res
  have y0 : (V5.setCell ⟨w.heap.size, 5, none⟩ (.slice b5 n5 e5)).cell? ⟨w.heap.size + 1, 0, none⟩ = some (.bool false) := Lib.cell_of_heap z0 0
  have y1 : (V5.setCell ⟨w.heap.size, 5, none⟩ (.slice b5 n5 e5)).cell? ⟨w.heap.size + 1, 1, none⟩ = some (.slice none 0 0) := Lib.cell_of_heap z0 1
  have y2 : (V5.setCell ⟨w.heap.size, 5, none⟩ (.slice b5 n5 e5)).cell? ⟨w.heap.size + 1, 2, none⟩ = some (.slice none 0 0) := Lib.cell_of_heap z0 2
  have y3 : (V5.setCell ⟨w.heap.size, 5, none⟩ (.slice b5 n5 e5)).cell? ⟨w.heap.size + 1, 3, none⟩ = some (.slice none 0 0) := Lib.cell_of_heap z0 3
  have y4 : (V5.setCell ⟨w.heap.size, 5, none⟩ (.slice b5 n5 e5)).cell? ⟨w.heap.size + 1, 4, none⟩ = some (.slice none 0 0) := Lib.cell_of_heap z0 4
  have y5 : (V5.setCell ⟨w.heap.size, 5, none⟩ (.slice b5 n5 e5)).cell? ⟨w.heap.size + 1, 5, none⟩ = some (.slice none 0 0) := Lib.cell_of_heap z0 5
  have q0 : ∀ j, (V5.setCell ⟨w.heap.size, 5, none⟩ (.slice b5 n5 e5)).frozen? ⟨w.heap.size + 1, j, none⟩ = false := fun j => Lib.frozen_of_heap z0 j
  have q1 := q0 0
  have q2 := q0 1
  have q3 := q0 2
  have q4 := q0 3
  have q5 := q0 4
  have q6 := q0 5
  have HZ := hide z0
  have HB := hide HI2.out.bel
  clear q0 z0 HI HM1 HM2 HM3 HM4 HM5 HI2
  go_wp2_with fail
  generalize V5.setCell ⟨w.heap.size, 5, none⟩ (.slice b5 n5 e5) = W5 at *
  obtain ⟨HR6, HB6, HZ6⟩ := put_spec HR.out HB.out HZ.out (by omega)
  have g0 := Lib.cell_of_heap HZ6 0
  have g1 := Lib.cell_of_heap HZ6 1
  have g2 := Lib.cell_of_heap HZ6 2
  have g3 := Lib.cell_of_heap HZ6 3
  have g4 := Lib.cell_of_heap HZ6 4
  have g5 := Lib.cell_of_heap HZ6 5
  generalize ((((((W5.setCell ⟨w.heap.size + 1, 0, none⟩ (.bool r)).setCell ⟨w.heap.size + 1, 1, none⟩ (.slice b1 n1 e1)).setCell ⟨w.heap.size + 1, 2, none⟩ (.slice b2 n2 e2)).setCell ⟨w.heap.size + 1, 3, none⟩ (.slice b3 n3 e3)).setCell ⟨w.heap.size + 1, 4, none⟩ (.slice b4 n4 e4)).setCell ⟨w.heap.size + 1, 5, none⟩ (.slice b5 n5 e5)) = W6 at *
  refine bodyPost_ret (v := .agg #[.bool r, .slice b1 n1 e1, .slice b2 n2 e2, .slice b3 n3 e3, .slice b4 n4 e4, .slice b5 n5 e5]) (by simp [results, Tryz.results108, go_sem, g0, g1, g2, g3, g4, g5]) rfl ?_
  exact ⟨⟨⟨r, b1, n1, e1, b2, n2, e2, b3, n3, e3, b4, n4, e4, b5, n5, e5⟩, rfl, HR6, ⟨HN.out.n1, HN.out.n2, HN.out.n3, HN.out.n4, HN.out.n5⟩⟩, HB6⟩
end Go.Proofs.YtdpmjaelbjjanaaGreat.Wf
