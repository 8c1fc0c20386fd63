/- Contracts: spec.add at each kind of element. -/
import Derived.Test.YteiinkhdgppgbaaGreatDoorSpQ
namespace Go.Proofs.YteiinkhdgppgbaaGreatDoor
open Go.RowKit
set_option linter.unusedVariables false
set_option linter.unusedSimpArgs false


set_option maxHeartbeats 4000000 in
set_option maxRecDepth 20000 in
theorem addMerge_no (w0 : World) (p : Nat) (x : Sv) (s : Sp) (n k : Nat) (W : World) (h : RAt w0 p x s n k W) (room : Int) (m : Int × Int) (hno : ¬ ((x.n1 : Int) < room ∧ okM m = true)) :
    Calls Tryz.prog 68 #[.pointer (some ⟨p, 1, none⟩), .int .i64 room, .agg #[.int .i64 m.1, .int .i64 m.2], .func (.func 22) #[] #[]] W fun e w' => e = .returned (.bool false) ∧ RAt w0 p x s n k w' ∧ Below W.heap.size W w' := by
  have HR0 := hide (h.low (low_alloc W (.cells #[.int .i64 m.1, .int .i64 m.2] 55)))
  clear h
  have c0 : (W.alloc (.cells #[.int .i64 m.1, .int .i64 m.2] 55)).cell? ⟨p, 1, none⟩ = some (.slice x.a1 x.n1 x.c1) := HR0.out.cell 1
  by_cases hroom : (x.n1 : Int) < room
  · have hok : okM m = false := by cases he : okM m with | false => rfl | true => exact absurd ⟨hroom, he⟩ hno
    have hr1 : ¬ room ≤ (x.n1 : Int) := by omega
    have K := rightMerge_any m (W.alloc (.cells #[.int .i64 m.1, .int .i64 m.2] 55))
    rw [hok] at K
    clear hok hno
    go_enter Tryz.func68, Tryz.ntmps68
    go_wp2_with fail
    refine K.mono ?_
    rintro e w1 ⟨rfl, hb1⟩
    have HR1 := hide (HR0.out.low (hb1))
    have HBB := hide ((low_alloc W _).trans (hb1.mono (low_alloc W _).size))
    clear hb1
    go_wp2
    go_ret
    exact ⟨rfl, HR1.out, HBB.out⟩
  · have hr1 : room ≤ (x.n1 : Int) := by omega
    go_enter Tryz.func68, Tryz.ntmps68
    go_wp2
    go_ret
    exact ⟨rfl, HR0.out, low_alloc W _⟩

theorem info_M : (Tryz.prog.info? 55).map (fun i => (i.zero, i.size, i.bytes)) = some (some (.agg #[.int .i64 0, .int .i64 0]), 2, 16) := by kernel_rfl
theorem one_M (m : Int × Int) : ∀ u ∈ eM m, u.oneCell' = true := by
  intro u hu
  simp only [eM, List.mem_cons, List.not_mem_nil, or_false] at hu
  rcases hu with rfl | rfl <;> rfl

set_option maxHeartbeats 8000000 in
set_option maxRecDepth 20000 in
theorem addMerge_yes (w0 : World) (p : Nat) (x : Sv) (s : Sp) (n k : Nat) (W : World) (h : RAt w0 p x s n k W) (room : Int) (m : Int × Int) (hroom : (x.n1 : Int) < room) (hrm : room ≤ 1000) (hok : okM m = true) :
    Calls Tryz.prog 68 #[.pointer (some ⟨p, 1, none⟩), .int .i64 room, .agg #[.int .i64 m.1, .int .i64 m.2], .func (.func 22) #[] #[]] W fun e w' => e = .returned (.bool true) ∧ (∃ x', RAt w0 p x' { s with merges := s.merges ++ [m] } n k w') ∧ ∀ q, q < W.heap.size → q ≠ p → some q ≠ (Value.slice x.a1 x.n1 x.c1).ownBlock → w'.heap[q]? = W.heap[q]? := by
  have HR0 := hide (h.low (low_alloc W (.cells #[.int .i64 m.1, .int .i64 m.2] 55)))
  clear h
  have c0 : (W.alloc (.cells #[.int .i64 m.1, .int .i64 m.2] 55)).cell? ⟨p, 1, none⟩ = some (.slice x.a1 x.n1 x.c1) := HR0.out.cell 1
  have hr1 : ¬ room ≤ (x.n1 : Int) := by omega
  have hbx : (W.alloc (.cells #[.int .i64 m.1, .int .i64 m.2] 55)).heap[W.heap.size]? = some (.cells #[.int .i64 m.1, .int .i64 m.2] 55 (0, 0)) := heap_alloc_new W _
  have K := rightMerge_any m (W.alloc (.cells #[.int .i64 m.1, .int .i64 m.2] 55))
  rw [hok] at K
  obtain ⟨i0, hii, hz0, hz1, hz2⟩ := info_parts info_M
  have HBX := hide hbx
  have hlt0 : W.heap.size < (W.alloc (.cells #[.int .i64 m.1, .int .i64 m.2] 55)).heap.size := by simp
  clear hok hbx
  go_enter Tryz.func68, Tryz.ntmps68
  go_wp2_with fail
  refine K.mono ?_
  rintro e w1 ⟨rfl, hb1⟩
  have HR1 := hide (HR0.out.low (hb1))
  have HFR := hide (fun (q : Nat) (hq : q < W.heap.size) => (hb1.block q (by simp; omega)).trans (Below.heap_alloc W (.cells #[.int .i64 m.1, .int .i64 m.2] 55) q hq))
  have hs1 : W.heap.size ≤ w1.heap.size := Nat.le_trans (low_alloc W _).size hb1.size
  have hbx1 : w1.heap[W.heap.size]? = some (.cells #[.int .i64 m.1, .int .i64 m.2] 55 (0, 0)) := by rw [hb1.block _ hlt0]; exact HBX.out
  have b0 : w1.cell? ⟨W.heap.size, 0, none⟩ = some (.int .i64 m.1) := by simp [World.cell?, hbx1]
  have b1 : w1.cell? ⟨W.heap.size, 1, none⟩ = some (.int .i64 m.2) := by simp [World.cell?, hbx1]
  have c1 : w1.cell? ⟨p, 1, none⟩ = some (.slice x.a1 x.n1 x.c1) := HR1.out.cell 1
  have f1 := HR1.out.free 1
  have tlt := HR1.out.lt
  have hown1 := HR1.out.m1.own
  have hs0 : w0.heap.size ≤ w1.heap.size := HR1.out.bel.size
  have hpne : some p ≠ (Value.slice x.a1 x.n1 x.c1).ownBlock := fun e => HR1.out.m1.ne HR1.out.blk (by decide) e.symm
  have hbne : W.heap.size < w1.heap.size := Nat.lt_of_lt_of_le hlt0 hb1.size
  have hlo := low_alloc w1 (.cells #[.int .i64 m.1, .int .i64 m.2] 55)
  have HR2 := hide ((HR1.out.low hlo).low (below_drew (Below.refl _ _)))
  clear hb1 K HR0 HBX hlo hbx1 c0 hlt0
  go_wp2
  go_region_law ((refine step_append_lies _ (by rfl) _ _ _ (by rfl) w0.heap.size 55 i0 _ 2 16 Tryz.underlying22 hii hz0 hz1 hz2 (by rfl) (by omega) _ x.n1 (flat eM s.merges) (by rfl) (by first | exact (hown1.alloc _).drew | exact hown1.drew.alloc _) _ 1 _ (eM m) (by rfl) (by rfl) (by first | exact World.news_of_block (heap_alloc_new w1 _) | exact World.news_of_block (heap_alloc_new w1.drew _)) (one_M m) (by omega) (by unfold maxLen; omega) (by omega) (by simp; omega) (w1.heap.size + 1) (by simp) ?_; intro g cap1 w3 hown hgrow hat hlt3; have e1 : w3.cell? ⟨p, 1, none⟩ = some (.slice x.a1 x.n1 x.c1) := (hgrow.cell_far ⟨p, 1, none⟩ (by simp; omega) hpne).trans (by first | exact (cell_old w1 _ tlt).trans c1 | exact (cell_old w1.drew _ tlt).trans c1); have ef : w3.frozen? ⟨p, 1, none⟩ = false := (hgrow.frozen_far ⟨p, 1, none⟩ (by simp; omega) hpne).trans (by first | exact (frozen_old w1 _ tlt).trans f1 | exact (frozen_old w1.drew _ tlt).trans f1)))
  all_goals
    have hgrow' : (w1.alloc (.cells #[.int .i64 m.1, .int .i64 m.2] 55)).drew.grownBy w3 (Value.slice x.a1 x.n1 x.c1).ownBlock := hgrow
    have HRF := hide (RAt.addMerge m HR2.out hgrow' hown)
    have HFF := hide (fun (q : Nat) (hq : q < W.heap.size) (hp : q ≠ p) (ho : some q ≠ (Value.slice x.a1 x.n1 x.c1).ownBlock) => (Below.heap_setCell w3 ⟨p, 1, none⟩ (.slice (some ⟨g, 0, none⟩) (x.n1 + 1 : Nat) cap1) q (fun e => hp e)).trans ((hgrow'.block q (by simp; omega) ho).trans ((Below.heap_alloc w1 (.cells #[.int .i64 m.1, .int .i64 m.2] 55) q (by omega)).trans (HFR.out q hq))))
    clear hgrow hgrow' hown hat
    go_wp2
    go_ret
    exact ⟨rfl, ⟨_, HRF.out⟩, HFF.out⟩

set_option maxHeartbeats 4000000 in
set_option maxRecDepth 20000 in
theorem addToken_no (w0 : World) (p : Nat) (x : Sv) (s : Sp) (n k : Nat) (W : World) (h : RAt w0 p x s n k W) (room : Int) (m : ByteArray) (hno : ¬ ((x.n2 : Int) < room ∧ okT m = true)) :
    Calls Tryz.prog 71 #[.pointer (some ⟨p, 2, none⟩), .int .i64 room, .string m, .func (.func 24) #[] #[]] W fun e w' => e = .returned (.bool false) ∧ RAt w0 p x s n k w' ∧ Below W.heap.size W w' := by
  have HR0 := hide h
  clear h
  have c0 : W.cell? ⟨p, 2, none⟩ = some (.slice x.a2 x.n2 x.c2) := HR0.out.cell 2
  by_cases hroom : (x.n2 : Int) < room
  · have hok : okT m = false := by cases he : okT m with | false => rfl | true => exact absurd ⟨hroom, he⟩ hno
    have hr1 : ¬ room ≤ (x.n2 : Int) := by omega
    have K := rightToken_any m W
    rw [hok] at K
    clear hok hno
    go_enter Tryz.func71, Tryz.ntmps71
    go_wp2_with fail
    refine K.mono ?_
    rintro e w1 ⟨rfl, hb1⟩
    have HR1 := hide (HR0.out.low (show Below W.heap.size W w1 by rw [hb1]; exact Below.refl _ _))
    have HBB := hide (show Below W.heap.size W w1 by rw [hb1]; exact Below.refl _ _)
    clear hb1
    go_wp2
    go_ret
    exact ⟨rfl, HR1.out, HBB.out⟩
  · have hr1 : room ≤ (x.n2 : Int) := by omega
    go_enter Tryz.func71, Tryz.ntmps71
    go_wp2
    go_ret
    exact ⟨rfl, HR0.out, Below.refl _ _⟩

theorem info_T : (Tryz.prog.info? 9).map (fun i => (i.zero, i.size, i.bytes)) = some (some (.string ⟨#[]⟩), 1, 16) := by kernel_rfl

set_option maxHeartbeats 8000000 in
set_option maxRecDepth 20000 in
theorem addToken_yes (w0 : World) (p : Nat) (x : Sv) (s : Sp) (n k : Nat) (W : World) (h : RAt w0 p x s n k W) (room : Int) (m : ByteArray) (hroom : (x.n2 : Int) < room) (hrm : room ≤ 1000) (hok : okT m = true) :
    Calls Tryz.prog 71 #[.pointer (some ⟨p, 2, none⟩), .int .i64 room, .string m, .func (.func 24) #[] #[]] W fun e w' => e = .returned (.bool true) ∧ (∃ x', RAt w0 p x' { s with tokens := s.tokens ++ [m] } n k w') ∧ ∀ q, q < W.heap.size → q ≠ p → some q ≠ (Value.slice x.a2 x.n2 x.c2).ownBlock → w'.heap[q]? = W.heap[q]? := by
  have HR0 := hide h
  have c0 : W.cell? ⟨p, 2, none⟩ = some (.slice x.a2 x.n2 x.c2) := h.cell 2
  have f0 := h.free 2
  have tlt := h.lt
  have hown1 := h.m2.own
  have hs0 : w0.heap.size ≤ W.heap.size := h.bel.size
  have hpne : some p ≠ (Value.slice x.a2 x.n2 x.c2).ownBlock := fun e => h.m2.ne h.blk (by decide) e.symm
  have hr1 : ¬ room ≤ (x.n2 : Int) := by omega
  have K := rightToken_any m W
  rw [hok] at K
  obtain ⟨i0, hii, hz0, hz1, hz2⟩ := info_parts info_T
  have HR2 := hide (h.low (low_alloc W (.cells #[.string m] 9)))
  clear hok h
  go_enter Tryz.func71, Tryz.ntmps71
  go_wp2_with fail
  refine K.mono ?_
  rintro e w1 ⟨rfl, rfl⟩
  clear K
  go_wp2_with (at_builtin; refine wpList_append_own _ rfl _ _ 23 rfl w0.heap.size 9 i0 (.string ⟨#[]⟩) 1 16 Tryz.underlying23 hii hz0 hz1 hz2 rfl (by decide) _ _ _ rfl (hown1.alloc _) ⟨w1.heap.size, 0, none⟩ 1 1 [.string m] rfl rfl ?c1 ?c2 ?c3 ?c4 ?c5 ?_)
  case c1 =>
    intro j u hj
    match j, hj with
    | 0, hj => simp at hj; subst hj; simp [Addr.add]
  case c2 => intro u hu; simp at hu; subst hu; rfl
  case c3 => unfold maxLen; omega
  case c4 => omega
  case c5 => simp; omega
  intro v' w3 hown hgrow _
  obtain ⟨g, cap1, rfl, _, _⟩ := hown.form (by omega)
  have e1 : w3.cell? ⟨p, 2, none⟩ = some (.slice x.a2 x.n2 x.c2) := (hgrow.cell_far ⟨p, 2, none⟩ (by simp; omega) hpne).trans ((cell_old w1 _ tlt).trans c0)
  have ef : w3.frozen? ⟨p, 2, none⟩ = false := (hgrow.frozen_far ⟨p, 2, none⟩ (by simp; omega) hpne).trans ((frozen_old w1 _ tlt).trans f0)
  have HRF := hide (RAt.addToken m HR2.out hgrow hown)
  have HFF := hide (fun (q : Nat) (hq : q < w1.heap.size) (hp : q ≠ p) (ho : some q ≠ (Value.slice x.a2 x.n2 x.c2).ownBlock) => (Below.heap_setCell w3 ⟨p, 2, none⟩ (.slice (some ⟨g, 0, none⟩) (x.n2 + 1 : Nat) cap1) q (fun e => hp e)).trans ((hgrow.block q (by simp; omega) ho).trans (Below.heap_alloc w1 (.cells #[.string m] 9) q hq)))
  clear hgrow hown
  go_wp2
  go_ret
  exact ⟨rfl, ⟨_, HRF.out⟩, HFF.out⟩

set_option maxHeartbeats 4000000 in
set_option maxRecDepth 20000 in
theorem addSpecial_no (w0 : World) (p : Nat) (x : Sv) (s : Sp) (n k : Nat) (W : World) (h : RAt w0 p x s n k W) (room : Int) (m : Int × ByteArray) (hno : ¬ ((x.n3 : Int) < room ∧ okS m = true)) :
    Calls Tryz.prog 73 #[.pointer (some ⟨p, 3, none⟩), .int .i64 room, .agg #[.int .i64 m.1, .string m.2], .func (.func 26) #[] #[]] W fun e w' => e = .returned (.bool false) ∧ RAt w0 p x s n k w' ∧ Below W.heap.size W w' := by
  have HR0 := hide (h.low (low_alloc W (.cells #[.int .i64 m.1, .string m.2] 43)))
  clear h
  have c0 : (W.alloc (.cells #[.int .i64 m.1, .string m.2] 43)).cell? ⟨p, 3, none⟩ = some (.slice x.a3 x.n3 x.c3) := HR0.out.cell 3
  by_cases hroom : (x.n3 : Int) < room
  · have hok : okS m = false := by cases he : okS m with | false => rfl | true => exact absurd ⟨hroom, he⟩ hno
    have hr1 : ¬ room ≤ (x.n3 : Int) := by omega
    have K := rightSpecial_any m (W.alloc (.cells #[.int .i64 m.1, .string m.2] 43))
    rw [hok] at K
    clear hok hno
    go_enter Tryz.func73, Tryz.ntmps73
    go_wp2_with fail
    refine K.mono ?_
    rintro e w1 ⟨rfl, hb1⟩
    have HR1 := hide (HR0.out.low (hb1))
    have HBB := hide ((low_alloc W _).trans (hb1.mono (low_alloc W _).size))
    clear hb1
    go_wp2
    go_ret
    exact ⟨rfl, HR1.out, HBB.out⟩
  · have hr1 : room ≤ (x.n3 : Int) := by omega
    go_enter Tryz.func73, Tryz.ntmps73
    go_wp2
    go_ret
    exact ⟨rfl, HR0.out, low_alloc W _⟩

theorem info_S : (Tryz.prog.info? 43).map (fun i => (i.zero, i.size, i.bytes)) = some (some (.agg #[.int .i64 0, .string ⟨#[]⟩]), 2, 24) := by kernel_rfl
theorem one_S (m : Int × ByteArray) : ∀ u ∈ eS m, u.oneCell' = true := by
  intro u hu
  simp only [eS, List.mem_cons, List.not_mem_nil, or_false] at hu
  rcases hu with rfl | rfl <;> rfl

set_option maxHeartbeats 8000000 in
set_option maxRecDepth 20000 in
theorem addSpecial_yes (w0 : World) (p : Nat) (x : Sv) (s : Sp) (n k : Nat) (W : World) (h : RAt w0 p x s n k W) (room : Int) (m : Int × ByteArray) (hroom : (x.n3 : Int) < room) (hrm : room ≤ 1000) (hok : okS m = true) :
    Calls Tryz.prog 73 #[.pointer (some ⟨p, 3, none⟩), .int .i64 room, .agg #[.int .i64 m.1, .string m.2], .func (.func 26) #[] #[]] W fun e w' => e = .returned (.bool true) ∧ (∃ x', RAt w0 p x' { s with specials := s.specials ++ [m] } n k w') ∧ ∀ q, q < W.heap.size → q ≠ p → some q ≠ (Value.slice x.a3 x.n3 x.c3).ownBlock → w'.heap[q]? = W.heap[q]? := by
  have HR0 := hide (h.low (low_alloc W (.cells #[.int .i64 m.1, .string m.2] 43)))
  clear h
  have c0 : (W.alloc (.cells #[.int .i64 m.1, .string m.2] 43)).cell? ⟨p, 3, none⟩ = some (.slice x.a3 x.n3 x.c3) := HR0.out.cell 3
  have hr1 : ¬ room ≤ (x.n3 : Int) := by omega
  have hbx : (W.alloc (.cells #[.int .i64 m.1, .string m.2] 43)).heap[W.heap.size]? = some (.cells #[.int .i64 m.1, .string m.2] 43 (0, 0)) := heap_alloc_new W _
  have K := rightSpecial_any m (W.alloc (.cells #[.int .i64 m.1, .string m.2] 43))
  rw [hok] at K
  obtain ⟨i0, hii, hz0, hz1, hz2⟩ := info_parts info_S
  have HBX := hide hbx
  have hlt0 : W.heap.size < (W.alloc (.cells #[.int .i64 m.1, .string m.2] 43)).heap.size := by simp
  clear hok hbx
  go_enter Tryz.func73, Tryz.ntmps73
  go_wp2_with fail
  refine K.mono ?_
  rintro e w1 ⟨rfl, hb1⟩
  have HR1 := hide (HR0.out.low (hb1))
  have HFR := hide (fun (q : Nat) (hq : q < W.heap.size) => (hb1.block q (by simp; omega)).trans (Below.heap_alloc W (.cells #[.int .i64 m.1, .string m.2] 43) q hq))
  have hs1 : W.heap.size ≤ w1.heap.size := Nat.le_trans (low_alloc W _).size hb1.size
  have hbx1 : w1.heap[W.heap.size]? = some (.cells #[.int .i64 m.1, .string m.2] 43 (0, 0)) := by rw [hb1.block _ hlt0]; exact HBX.out
  have b0 : w1.cell? ⟨W.heap.size, 0, none⟩ = some (.int .i64 m.1) := by simp [World.cell?, hbx1]
  have b1 : w1.cell? ⟨W.heap.size, 1, none⟩ = some (.string m.2) := by simp [World.cell?, hbx1]
  have c1 : w1.cell? ⟨p, 3, none⟩ = some (.slice x.a3 x.n3 x.c3) := HR1.out.cell 3
  have f1 := HR1.out.free 3
  have tlt := HR1.out.lt
  have hown1 := HR1.out.m3.own
  have hs0 : w0.heap.size ≤ w1.heap.size := HR1.out.bel.size
  have hpne : some p ≠ (Value.slice x.a3 x.n3 x.c3).ownBlock := fun e => HR1.out.m3.ne HR1.out.blk (by decide) e.symm
  have hbne : W.heap.size < w1.heap.size := Nat.lt_of_lt_of_le hlt0 hb1.size
  have hlo := low_alloc w1 (.cells #[.int .i64 m.1, .string m.2] 43)
  have HR2 := hide ((HR1.out.low hlo).low (below_drew (Below.refl _ _)))
  clear hb1 K HR0 HBX hlo hbx1 c0 hlt0
  go_wp2
  go_region_law ((refine step_append_lies _ (by rfl) _ _ _ (by rfl) w0.heap.size 43 i0 _ 2 24 Tryz.underlying24 hii hz0 hz1 hz2 (by rfl) (by omega) _ x.n3 (flat eS s.specials) (by rfl) (by first | exact (hown1.alloc _).drew | exact hown1.drew.alloc _) _ 1 _ (eS m) (by rfl) (by rfl) (by first | exact World.news_of_block (heap_alloc_new w1 _) | exact World.news_of_block (heap_alloc_new w1.drew _)) (one_S m) (by omega) (by unfold maxLen; omega) (by omega) (by simp; omega) (w1.heap.size + 1) (by simp) ?_; intro g cap1 w3 hown hgrow hat hlt3; have e1 : w3.cell? ⟨p, 3, none⟩ = some (.slice x.a3 x.n3 x.c3) := (hgrow.cell_far ⟨p, 3, none⟩ (by simp; omega) hpne).trans (by first | exact (cell_old w1 _ tlt).trans c1 | exact (cell_old w1.drew _ tlt).trans c1); have ef : w3.frozen? ⟨p, 3, none⟩ = false := (hgrow.frozen_far ⟨p, 3, none⟩ (by simp; omega) hpne).trans (by first | exact (frozen_old w1 _ tlt).trans f1 | exact (frozen_old w1.drew _ tlt).trans f1)))
  all_goals
    have hgrow' : (w1.alloc (.cells #[.int .i64 m.1, .string m.2] 43)).drew.grownBy w3 (Value.slice x.a3 x.n3 x.c3).ownBlock := hgrow
    have HRF := hide (RAt.addSpecial m HR2.out hgrow' hown)
    have HFF := hide (fun (q : Nat) (hq : q < W.heap.size) (hp : q ≠ p) (ho : some q ≠ (Value.slice x.a3 x.n3 x.c3).ownBlock) => (Below.heap_setCell w3 ⟨p, 3, none⟩ (.slice (some ⟨g, 0, none⟩) (x.n3 + 1 : Nat) cap1) q (fun e => hp e)).trans ((hgrow'.block q (by simp; omega) ho).trans ((Below.heap_alloc w1 (.cells #[.int .i64 m.1, .string m.2] 43) q (by omega)).trans (HFR.out q hq))))
    clear hgrow hgrow' hown hat
    go_wp2
    go_ret
    exact ⟨rfl, ⟨_, HRF.out⟩, HFF.out⟩

set_option maxHeartbeats 4000000 in
set_option maxRecDepth 20000 in
theorem addClass_no (w0 : World) (p : Nat) (x : Sv) (s : Sp) (n k : Nat) (W : World) (h : RAt w0 p x s n k W) (room : Int) (m : Int × Int × Int) (hno : ¬ ((x.n4 : Int) < room ∧ okC m = true)) :
    Calls Tryz.prog 74 #[.pointer (some ⟨p, 4, none⟩), .int .i64 room, .agg #[.int .i64 m.1, .int .i64 m.2.1, .int .i64 m.2.2], .func (.func 28) #[] #[]] W fun e w' => e = .returned (.bool false) ∧ RAt w0 p x s n k w' ∧ Below W.heap.size W w' := by
  have HR0 := hide (h.low (low_alloc W (.cells #[.int .i64 m.1, .int .i64 m.2.1, .int .i64 m.2.2] 57)))
  clear h
  have c0 : (W.alloc (.cells #[.int .i64 m.1, .int .i64 m.2.1, .int .i64 m.2.2] 57)).cell? ⟨p, 4, none⟩ = some (.slice x.a4 x.n4 x.c4) := HR0.out.cell 4
  by_cases hroom : (x.n4 : Int) < room
  · have hok : okC m = false := by cases he : okC m with | false => rfl | true => exact absurd ⟨hroom, he⟩ hno
    have hr1 : ¬ room ≤ (x.n4 : Int) := by omega
    have K := rightClass_any m (W.alloc (.cells #[.int .i64 m.1, .int .i64 m.2.1, .int .i64 m.2.2] 57))
    rw [hok] at K
    clear hok hno
    go_enter Tryz.func74, Tryz.ntmps74
    go_wp2_with fail
    refine K.mono ?_
    rintro e w1 ⟨rfl, hb1⟩
    have HR1 := hide (HR0.out.low (hb1))
    have HBB := hide ((low_alloc W _).trans (hb1.mono (low_alloc W _).size))
    clear hb1
    go_wp2
    go_ret
    exact ⟨rfl, HR1.out, HBB.out⟩
  · have hr1 : room ≤ (x.n4 : Int) := by omega
    go_enter Tryz.func74, Tryz.ntmps74
    go_wp2
    go_ret
    exact ⟨rfl, HR0.out, low_alloc W _⟩

theorem info_C : (Tryz.prog.info? 57).map (fun i => (i.zero, i.size, i.bytes)) = some (some (.agg #[.int .i64 0, .int .i64 0, .int .i64 0]), 3, 24) := by kernel_rfl
theorem one_C (m : Int × Int × Int) : ∀ u ∈ eC m, u.oneCell' = true := by
  intro u hu
  simp only [eC, List.mem_cons, List.not_mem_nil, or_false] at hu
  rcases hu with rfl | rfl | rfl <;> rfl

set_option maxHeartbeats 8000000 in
set_option maxRecDepth 20000 in
theorem addClass_yes (w0 : World) (p : Nat) (x : Sv) (s : Sp) (n k : Nat) (W : World) (h : RAt w0 p x s n k W) (room : Int) (m : Int × Int × Int) (hroom : (x.n4 : Int) < room) (hrm : room ≤ 1000) (hok : okC m = true) :
    Calls Tryz.prog 74 #[.pointer (some ⟨p, 4, none⟩), .int .i64 room, .agg #[.int .i64 m.1, .int .i64 m.2.1, .int .i64 m.2.2], .func (.func 28) #[] #[]] W fun e w' => e = .returned (.bool true) ∧ (∃ x', RAt w0 p x' { s with classes := s.classes ++ [m] } n k w') ∧ ∀ q, q < W.heap.size → q ≠ p → some q ≠ (Value.slice x.a4 x.n4 x.c4).ownBlock → w'.heap[q]? = W.heap[q]? := by
  have HR0 := hide (h.low (low_alloc W (.cells #[.int .i64 m.1, .int .i64 m.2.1, .int .i64 m.2.2] 57)))
  clear h
  have c0 : (W.alloc (.cells #[.int .i64 m.1, .int .i64 m.2.1, .int .i64 m.2.2] 57)).cell? ⟨p, 4, none⟩ = some (.slice x.a4 x.n4 x.c4) := HR0.out.cell 4
  have hr1 : ¬ room ≤ (x.n4 : Int) := by omega
  have hbx : (W.alloc (.cells #[.int .i64 m.1, .int .i64 m.2.1, .int .i64 m.2.2] 57)).heap[W.heap.size]? = some (.cells #[.int .i64 m.1, .int .i64 m.2.1, .int .i64 m.2.2] 57 (0, 0)) := heap_alloc_new W _
  have K := rightClass_any m (W.alloc (.cells #[.int .i64 m.1, .int .i64 m.2.1, .int .i64 m.2.2] 57))
  rw [hok] at K
  obtain ⟨i0, hii, hz0, hz1, hz2⟩ := info_parts info_C
  have HBX := hide hbx
  have hlt0 : W.heap.size < (W.alloc (.cells #[.int .i64 m.1, .int .i64 m.2.1, .int .i64 m.2.2] 57)).heap.size := by simp
  clear hok hbx
  go_enter Tryz.func74, Tryz.ntmps74
  go_wp2_with fail
  refine K.mono ?_
  rintro e w1 ⟨rfl, hb1⟩
  have HR1 := hide (HR0.out.low (hb1))
  have HFR := hide (fun (q : Nat) (hq : q < W.heap.size) => (hb1.block q (by simp; omega)).trans (Below.heap_alloc W (.cells #[.int .i64 m.1, .int .i64 m.2.1, .int .i64 m.2.2] 57) q hq))
  have hs1 : W.heap.size ≤ w1.heap.size := Nat.le_trans (low_alloc W _).size hb1.size
  have hbx1 : w1.heap[W.heap.size]? = some (.cells #[.int .i64 m.1, .int .i64 m.2.1, .int .i64 m.2.2] 57 (0, 0)) := by rw [hb1.block _ hlt0]; exact HBX.out
  have b0 : w1.cell? ⟨W.heap.size, 0, none⟩ = some (.int .i64 m.1) := by simp [World.cell?, hbx1]
  have b1 : w1.cell? ⟨W.heap.size, 1, none⟩ = some (.int .i64 m.2.1) := by simp [World.cell?, hbx1]
  have b2 : w1.cell? ⟨W.heap.size, 2, none⟩ = some (.int .i64 m.2.2) := by simp [World.cell?, hbx1]
  have c1 : w1.cell? ⟨p, 4, none⟩ = some (.slice x.a4 x.n4 x.c4) := HR1.out.cell 4
  have f1 := HR1.out.free 4
  have tlt := HR1.out.lt
  have hown1 := HR1.out.m4.own
  have hs0 : w0.heap.size ≤ w1.heap.size := HR1.out.bel.size
  have hpne : some p ≠ (Value.slice x.a4 x.n4 x.c4).ownBlock := fun e => HR1.out.m4.ne HR1.out.blk (by decide) e.symm
  have hbne : W.heap.size < w1.heap.size := Nat.lt_of_lt_of_le hlt0 hb1.size
  have hlo := low_alloc w1 (.cells #[.int .i64 m.1, .int .i64 m.2.1, .int .i64 m.2.2] 57)
  have HR2 := hide ((HR1.out.low hlo).low (below_drew (Below.refl _ _)))
  clear hb1 K HR0 HBX hlo hbx1 c0 hlt0
  go_wp2
  go_region_law ((refine step_append_lies _ (by rfl) _ _ _ (by rfl) w0.heap.size 57 i0 _ 3 24 Tryz.underlying25 hii hz0 hz1 hz2 (by rfl) (by omega) _ x.n4 (flat eC s.classes) (by rfl) (by first | exact (hown1.alloc _).drew | exact hown1.drew.alloc _) _ 1 _ (eC m) (by rfl) (by rfl) (by first | exact World.news_of_block (heap_alloc_new w1 _) | exact World.news_of_block (heap_alloc_new w1.drew _)) (one_C m) (by omega) (by unfold maxLen; omega) (by omega) (by simp; omega) (w1.heap.size + 1) (by simp) ?_; intro g cap1 w3 hown hgrow hat hlt3; have e1 : w3.cell? ⟨p, 4, none⟩ = some (.slice x.a4 x.n4 x.c4) := (hgrow.cell_far ⟨p, 4, none⟩ (by simp; omega) hpne).trans (by first | exact (cell_old w1 _ tlt).trans c1 | exact (cell_old w1.drew _ tlt).trans c1); have ef : w3.frozen? ⟨p, 4, none⟩ = false := (hgrow.frozen_far ⟨p, 4, none⟩ (by simp; omega) hpne).trans (by first | exact (frozen_old w1 _ tlt).trans f1 | exact (frozen_old w1.drew _ tlt).trans f1)))
  all_goals
    have hgrow' : (w1.alloc (.cells #[.int .i64 m.1, .int .i64 m.2.1, .int .i64 m.2.2] 57)).drew.grownBy w3 (Value.slice x.a4 x.n4 x.c4).ownBlock := hgrow
    have HRF := hide (RAt.addClass m HR2.out hgrow' hown)
    have HFF := hide (fun (q : Nat) (hq : q < W.heap.size) (hp : q ≠ p) (ho : some q ≠ (Value.slice x.a4 x.n4 x.c4).ownBlock) => (Below.heap_setCell w3 ⟨p, 4, none⟩ (.slice (some ⟨g, 0, none⟩) (x.n4 + 1 : Nat) cap1) q (fun e => hp e)).trans ((hgrow'.block q (by simp; omega) ho).trans ((Below.heap_alloc w1 (.cells #[.int .i64 m.1, .int .i64 m.2.1, .int .i64 m.2.2] 57) q (by omega)).trans (HFR.out q hq))))
    clear hgrow hgrow' hown hat
    go_wp2
    go_ret
    exact ⟨rfl, ⟨_, HRF.out⟩, HFF.out⟩

set_option maxHeartbeats 4000000 in
set_option maxRecDepth 20000 in
theorem addJoin_no (w0 : World) (p : Nat) (x : Sv) (s : Sp) (n k : Nat) (W : World) (h : RAt w0 p x s n k W) (room : Int) (m : Int × Int) (hno : ¬ ((x.n5 : Int) < room ∧ okJ m = true)) :
    Calls Tryz.prog 75 #[.pointer (some ⟨p, 5, none⟩), .int .i64 room, .agg #[.int .i64 m.1, .int .i64 m.2], .func (.func 30) #[] #[]] W fun e w' => e = .returned (.bool false) ∧ RAt w0 p x s n k w' ∧ Below W.heap.size W w' := by
  have HR0 := hide (h.low (low_alloc W (.cells #[.int .i64 m.1, .int .i64 m.2] 58)))
  clear h
  have c0 : (W.alloc (.cells #[.int .i64 m.1, .int .i64 m.2] 58)).cell? ⟨p, 5, none⟩ = some (.slice x.a5 x.n5 x.c5) := HR0.out.cell 5
  by_cases hroom : (x.n5 : Int) < room
  · have hok : okJ m = false := by cases he : okJ m with | false => rfl | true => exact absurd ⟨hroom, he⟩ hno
    have hr1 : ¬ room ≤ (x.n5 : Int) := by omega
    have K := rightJoin_any m (W.alloc (.cells #[.int .i64 m.1, .int .i64 m.2] 58))
    rw [hok] at K
    clear hok hno
    go_enter Tryz.func75, Tryz.ntmps75
    go_wp2_with fail
    refine K.mono ?_
    rintro e w1 ⟨rfl, hb1⟩
    have HR1 := hide (HR0.out.low (hb1))
    have HBB := hide ((low_alloc W _).trans (hb1.mono (low_alloc W _).size))
    clear hb1
    go_wp2
    go_ret
    exact ⟨rfl, HR1.out, HBB.out⟩
  · have hr1 : room ≤ (x.n5 : Int) := by omega
    go_enter Tryz.func75, Tryz.ntmps75
    go_wp2
    go_ret
    exact ⟨rfl, HR0.out, low_alloc W _⟩

theorem info_J : (Tryz.prog.info? 58).map (fun i => (i.zero, i.size, i.bytes)) = some (some (.agg #[.int .i64 0, .int .i64 0]), 2, 16) := by kernel_rfl
theorem one_J (m : Int × Int) : ∀ u ∈ eM m, u.oneCell' = true := by
  intro u hu
  simp only [eM, List.mem_cons, List.not_mem_nil, or_false] at hu
  rcases hu with rfl | rfl <;> rfl

set_option maxHeartbeats 8000000 in
set_option maxRecDepth 20000 in
theorem addJoin_yes (w0 : World) (p : Nat) (x : Sv) (s : Sp) (n k : Nat) (W : World) (h : RAt w0 p x s n k W) (room : Int) (m : Int × Int) (hroom : (x.n5 : Int) < room) (hrm : room ≤ 1000) (hok : okJ m = true) :
    Calls Tryz.prog 75 #[.pointer (some ⟨p, 5, none⟩), .int .i64 room, .agg #[.int .i64 m.1, .int .i64 m.2], .func (.func 30) #[] #[]] W fun e w' => e = .returned (.bool true) ∧ (∃ x', RAt w0 p x' { s with joins := s.joins ++ [m] } n k w') ∧ ∀ q, q < W.heap.size → q ≠ p → some q ≠ (Value.slice x.a5 x.n5 x.c5).ownBlock → w'.heap[q]? = W.heap[q]? := by
  have HR0 := hide (h.low (low_alloc W (.cells #[.int .i64 m.1, .int .i64 m.2] 58)))
  clear h
  have c0 : (W.alloc (.cells #[.int .i64 m.1, .int .i64 m.2] 58)).cell? ⟨p, 5, none⟩ = some (.slice x.a5 x.n5 x.c5) := HR0.out.cell 5
  have hr1 : ¬ room ≤ (x.n5 : Int) := by omega
  have hbx : (W.alloc (.cells #[.int .i64 m.1, .int .i64 m.2] 58)).heap[W.heap.size]? = some (.cells #[.int .i64 m.1, .int .i64 m.2] 58 (0, 0)) := heap_alloc_new W _
  have K := rightJoin_any m (W.alloc (.cells #[.int .i64 m.1, .int .i64 m.2] 58))
  rw [hok] at K
  obtain ⟨i0, hii, hz0, hz1, hz2⟩ := info_parts info_J
  have HBX := hide hbx
  have hlt0 : W.heap.size < (W.alloc (.cells #[.int .i64 m.1, .int .i64 m.2] 58)).heap.size := by simp
  clear hok hbx
  go_enter Tryz.func75, Tryz.ntmps75
  go_wp2_with fail
  refine K.mono ?_
  rintro e w1 ⟨rfl, hb1⟩
  have HR1 := hide (HR0.out.low (hb1))
  have HFR := hide (fun (q : Nat) (hq : q < W.heap.size) => (hb1.block q (by simp; omega)).trans (Below.heap_alloc W (.cells #[.int .i64 m.1, .int .i64 m.2] 58) q hq))
  have hs1 : W.heap.size ≤ w1.heap.size := Nat.le_trans (low_alloc W _).size hb1.size
  have hbx1 : w1.heap[W.heap.size]? = some (.cells #[.int .i64 m.1, .int .i64 m.2] 58 (0, 0)) := by rw [hb1.block _ hlt0]; exact HBX.out
  have b0 : w1.cell? ⟨W.heap.size, 0, none⟩ = some (.int .i64 m.1) := by simp [World.cell?, hbx1]
  have b1 : w1.cell? ⟨W.heap.size, 1, none⟩ = some (.int .i64 m.2) := by simp [World.cell?, hbx1]
  have c1 : w1.cell? ⟨p, 5, none⟩ = some (.slice x.a5 x.n5 x.c5) := HR1.out.cell 5
  have f1 := HR1.out.free 5
  have tlt := HR1.out.lt
  have hown1 := HR1.out.m5.own
  have hs0 : w0.heap.size ≤ w1.heap.size := HR1.out.bel.size
  have hpne : some p ≠ (Value.slice x.a5 x.n5 x.c5).ownBlock := fun e => HR1.out.m5.ne HR1.out.blk (by decide) e.symm
  have hbne : W.heap.size < w1.heap.size := Nat.lt_of_lt_of_le hlt0 hb1.size
  have hlo := low_alloc w1 (.cells #[.int .i64 m.1, .int .i64 m.2] 58)
  have HR2 := hide ((HR1.out.low hlo).low (below_drew (Below.refl _ _)))
  clear hb1 K HR0 HBX hlo hbx1 c0 hlt0
  go_wp2
  go_region_law ((refine step_append_lies _ (by rfl) _ _ _ (by rfl) w0.heap.size 58 i0 _ 2 16 Tryz.underlying26 hii hz0 hz1 hz2 (by rfl) (by omega) _ x.n5 (flat eM s.joins) (by rfl) (by first | exact (hown1.alloc _).drew | exact hown1.drew.alloc _) _ 1 _ (eM m) (by rfl) (by rfl) (by first | exact World.news_of_block (heap_alloc_new w1 _) | exact World.news_of_block (heap_alloc_new w1.drew _)) (one_J m) (by omega) (by unfold maxLen; omega) (by omega) (by simp; omega) (w1.heap.size + 1) (by simp) ?_; intro g cap1 w3 hown hgrow hat hlt3; have e1 : w3.cell? ⟨p, 5, none⟩ = some (.slice x.a5 x.n5 x.c5) := (hgrow.cell_far ⟨p, 5, none⟩ (by simp; omega) hpne).trans (by first | exact (cell_old w1 _ tlt).trans c1 | exact (cell_old w1.drew _ tlt).trans c1); have ef : w3.frozen? ⟨p, 5, none⟩ = false := (hgrow.frozen_far ⟨p, 5, none⟩ (by simp; omega) hpne).trans (by first | exact (frozen_old w1 _ tlt).trans f1 | exact (frozen_old w1.drew _ tlt).trans f1)))
  all_goals
    have hgrow' : (w1.alloc (.cells #[.int .i64 m.1, .int .i64 m.2] 58)).drew.grownBy w3 (Value.slice x.a5 x.n5 x.c5).ownBlock := hgrow
    have HRF := hide (RAt.addJoin m HR2.out hgrow' hown)
    have HFF := hide (fun (q : Nat) (hq : q < W.heap.size) (hp : q ≠ p) (ho : some q ≠ (Value.slice x.a5 x.n5 x.c5).ownBlock) => (Below.heap_setCell w3 ⟨p, 5, none⟩ (.slice (some ⟨g, 0, none⟩) (x.n5 + 1 : Nat) cap1) q (fun e => hp e)).trans ((hgrow'.block q (by simp; omega) ho).trans ((Below.heap_alloc w1 (.cells #[.int .i64 m.1, .int .i64 m.2] 58) q (by omega)).trans (HFR.out q hq))))
    clear hgrow hgrow' hown hat
    go_wp2
    go_ret
    exact ⟨rfl, ⟨_, HRF.out⟩, HFF.out⟩
end Go.Proofs.YteiinkhdgppgbaaGreatDoor
