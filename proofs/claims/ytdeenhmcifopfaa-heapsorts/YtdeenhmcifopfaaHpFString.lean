/- Contracts of a heap of string: New, Len, Push, Peek, Pop, Clear. -/
import Derived.Test.YtdeenhmcifopfaaHpEString
import Derived.Deep.RegionLaw
namespace Go.Proofs.Ytdeenhmcifopfaa.Hstring
open Go.RowKit Go.Proofs.Ytdeenhmcifopfaa
set_option linter.unusedVariables false
set_option linter.unusedSimpArgs false
attribute [local go_sem ↓] Go.wp_at_zero Go.wp_at_succ

theorem cell_old (w : World) (o : Obj) {b off : Nat} (hb : b < w.heap.size) : (w.alloc o).cell? ⟨b, off, none⟩ = w.cell? ⟨b, off, none⟩ := bcell ((Below.refl _ _).alloc (Nat.le_refl _) o) hb
theorem frozen_old (w : World) (o : Obj) {b off : Nat} (hb : b < w.heap.size) : (w.alloc o).frozen? ⟨b, off, none⟩ = w.frozen? ⟨b, off, none⟩ := bfrozen ((Below.refl _ _).alloc (Nat.le_refl _) o) hb

theorem new_any (w : World) :
    Calls Try.prog 40 #[] w fun e w' => ∃ p, e = .returned (.pointer (some ⟨p, 0, none⟩)) ∧ HAt 90 92 w.heap.size p (.slice none 0 0) 0 [] w' ∧ Below w.heap.size w w' := by
  go_enter Try.func40, Try.ntmps40
  go_wp2
  go_ret
  refine ⟨_, rfl, ⟨heap_alloc_new w _, World.ownsRow_nil _ _ _ _, by simp [Value.ownBlock], Nat.le_refl _, fun a ha => by cases ha⟩, (Below.refl _ _).alloc (Nat.le_refl _) _⟩

theorem len_nil (w : World) : Calls Try.prog 22 #[.pointer none] w fun e w' => e = .returned (.int .i64 0) ∧ w' = w := by
  go_enter Try.func22, Try.ntmps22
  go_wp2
  go_ret
  exact ⟨rfl, rfl⟩

theorem len_any (base p : Nat) (v : Value) (tn : Int) (l : List It) (w : World) (h : HAt 90 92 base p v tn l w) :
    Calls Try.prog 22 #[.pointer (some ⟨p, 0, none⟩)] w fun e w' => e = .returned (.int .i64 l.length) ∧ w' = w := by
  obtain ⟨ao, cap, rfl, _⟩ := h.form
  have hp0 := h.cell0
  obtain ⟨n, hln⟩ : ∃ n, l.length = n := ⟨_, rfl⟩
  rw [hln] at hp0
  have HL := hide hln
  clear hln h
  go_enter Try.func22, Try.ntmps22
  go_wp2
  go_ret
  exact ⟨by rw [HL.out]; rfl, rfl⟩

set_option maxHeartbeats 1000000 in
theorem peek_none (base p : Nat) (v : Value) (tn : Int) (w : World) (h : HAt 90 92 base p v tn [] w) :
    Calls Try.prog 21 #[.pointer (some ⟨p, 0, none⟩)] w fun e w' => e = .returned (.tuple #[.string ⟨#[]⟩, .int .i64 0, .int .i64 0, .bool false]) ∧ w' = w := by
  have HLn := hide (len_any base p v tn [] w h)
  go_enter Try.func21, Try.ntmps21
  go_wp2_with fail
  refine (unhide HLn).mono ?_
  rintro e w' ⟨rfl, hw⟩
  subst hw
  go_wp2
  (try simp only [Exit.inBlock, Exit.then])
  exact bodyPost_ret (v := .tuple #[.string ⟨#[]⟩, .int .i64 0, .int .i64 0, .bool false]) (by simp [results, Try.results21, go_sem]) rfl ⟨rfl, rfl⟩

set_option maxHeartbeats 1000000 in
theorem peek_nil (w : World) :
    Calls Try.prog 21 #[.pointer none] w fun e w' => e = .returned (.tuple #[.string ⟨#[]⟩, .int .i64 0, .int .i64 0, .bool false]) ∧ w' = w := by
  have HLn := hide (len_nil w)
  go_enter Try.func21, Try.ntmps21
  go_wp2_with fail
  refine (unhide HLn).mono ?_
  rintro e w' ⟨rfl, hw⟩
  subst hw
  go_wp2
  (try simp only [Exit.inBlock, Exit.then])
  exact bodyPost_ret (v := .tuple #[.string ⟨#[]⟩, .int .i64 0, .int .i64 0, .bool false]) (by simp [results, Try.results21, go_sem]) rfl ⟨rfl, rfl⟩

set_option maxRecDepth 20000 in
set_option maxHeartbeats 4000000 in
theorem peek_some (base p : Nat) (v : Value) (tn : Int) (l : List It) (w : World) (h : HAt 90 92 base p v tn l w) (h0 : 0 < l.length) :
    Calls Try.prog 21 #[.pointer (some ⟨p, 0, none⟩)] w fun e w' => e = .returned (.tuple #[(gi l 0).x, .int .i64 (gi l 0).r, .int .i64 (gi l 0).p, .bool true]) ∧ Below w.heap.size w w' := by
  have HLn := hide (len_any base p v tn l w h)
  obtain ⟨g, cap, rfl, hg, hbg, hgp, hc1, hc2⟩ := h.pos h0
  obtain ⟨j0, j1, j2, j3⟩ := h.at (show 0 < l.length by omega)
  simp only [Nat.zero_mul, Nat.zero_add] at j0 j1 j2 j3
  have hp0 := h.cell0
  obtain ⟨a, ha⟩ : ∃ a, gi l 0 = a := ⟨_, rfl⟩
  rw [ha] at j0 j1 j2 j3 ⊢
  have hone : a.x.oneCell' = true := by rw [← ha]; exact h.one _ (gi_mem l (by omega))
  have sa : ∀ (W : World) (ad : Addr) (m : Mode), Sem.run Try.prog (store ad a.x m) W = stored Try.prog W ad a.x m := fun W ad m => run_store _ W ad _ m hone
  have hne : ((l.length : Int) == 0) = false := by simp; intro e; simp [e] at h0
  have hl1 : (0 : Int) < (l.length : Int) := by omega
  clear h ha
  go_enter Try.func21, Try.ntmps21
  go_wp2_with fail
  refine (unhide HLn).mono ?_
  rintro e w' ⟨rfl, hw⟩
  have hw2 := hw.symm
  clear hw
  subst hw2
  go_wp2
  go_region
  go_wp2
  (try simp only [Exit.inBlock, Exit.then])
  exact bodyPost_ret (v := .tuple #[a.x, .int .i64 a.r, .int .i64 a.p, .bool true]) (by simp [results, Try.results21, go_sem]) rfl ⟨rfl, ((Below.refl _ _).alloc (Nat.le_refl _) _).drew⟩

set_option maxHeartbeats 1000000 in
theorem pop_nil (w : World) :
    Calls Try.prog 20 #[.pointer none] w fun e w' => e = .returned (.tuple #[.string ⟨#[]⟩, .int .i64 0, .int .i64 0, .bool false]) ∧ w' = w := by
  have HLn := hide (peek_nil w)
  go_enter Try.func20, Try.ntmps20
  go_wp2_with fail
  refine (unhide HLn).mono ?_
  rintro e w' ⟨rfl, hw⟩
  subst hw
  go_wp2
  (try simp only [Exit.inBlock, Exit.then])
  exact bodyPost_ret (v := .tuple #[.string ⟨#[]⟩, .int .i64 0, .int .i64 0, .bool false]) (by simp [results, Try.results20, go_sem]) rfl ⟨rfl, rfl⟩

set_option maxHeartbeats 1000000 in
theorem pop_none (base p : Nat) (v : Value) (tn : Int) (w : World) (h : HAt 90 92 base p v tn [] w) :
    Calls Try.prog 20 #[.pointer (some ⟨p, 0, none⟩)] w fun e w' => e = .returned (.tuple #[.string ⟨#[]⟩, .int .i64 0, .int .i64 0, .bool false]) ∧ w' = w := by
  have HLn := hide (peek_none base p v tn w h)
  go_enter Try.func20, Try.ntmps20
  go_wp2_with fail
  refine (unhide HLn).mono ?_
  rintro e w' ⟨rfl, hw⟩
  subst hw
  go_wp2
  (try simp only [Exit.inBlock, Exit.then])
  exact bodyPost_ret (v := .tuple #[.string ⟨#[]⟩, .int .i64 0, .int .i64 0, .bool false]) (by simp [results, Try.results20, go_sem]) rfl ⟨rfl, rfl⟩

set_option maxHeartbeats 1000000 in
theorem pop_some (base p : Nat) (v : Value) (tn : Int) (l : List It) (w : World) (h : HAt 90 92 base p v tn l w) (hHp : Hp l) (h0 : 0 < l.length) (hn : l.length ≤ 1000000) :
    Calls Try.prog 20 #[.pointer (some ⟨p, 0, none⟩)] w fun e w' => e = .returned (.tuple #[(gi l 0).x, .int .i64 (gi l 0).r, .int .i64 (gi l 0).p, .bool true]) ∧ ∃ v' l', HAt 90 92 base p v' tn l' w' ∧ Hp l' ∧ l'.Perm l.tail ∧ Fr p v w w' ∧ v'.ownBlock = v.ownBlock := by
  have HLn := hide (peek_some base p v tn l w h h0)
  obtain ⟨a, ha⟩ : ∃ a, gi l 0 = a := ⟨_, rfl⟩
  rw [ha] at HLn ⊢
  clear ha
  go_enter Try.func20, Try.ntmps20
  go_wp2_with fail
  refine (unhide HLn).mono ?_
  rintro e w1 ⟨rfl, hb⟩
  have h1 := h.kept hb
  go_wp2_with fail
  refine (takeTop_any base p v tn l w1 h1 hHp h0 hn).mono ?_
  rintro e w2 ⟨rfl, v', l', hH, hH2, hP, hF, hv⟩
  go_wp2
  (try simp only [Exit.inBlock, Exit.then])
  exact bodyPost_ret (v := .tuple #[a.x, .int .i64 a.r, .int .i64 a.p, .bool true]) (by simp [results, Try.results20, go_sem]) rfl ⟨rfl, v', l', hH, hH2, hP, (Fr.ofBelow hb).trans' hF, hv⟩

theorem push_nil (r q : Int) (x : Value) (w : World) :
    Calls Try.prog 18 #[.pointer none, .int .i64 r, .int .i64 q, x] w fun e w' => e = .returned (.tuple #[]) ∧ w' = w := by
  go_enter Try.func18, Try.ntmps18
  go_wp2
  (try simp only [Exit.inBlock, Exit.then])
  refine bodyPost_ret (results_none rfl _ _ _) rfl ?_
  exact ⟨rfl, rfl⟩

theorem clear_nil (w : World) :
    Calls Try.prog 19 #[.pointer none] w fun e w' => e = .returned (.tuple #[]) ∧ w' = w := by
  go_enter Try.func19, Try.ntmps19
  go_wp2
  (try simp only [Exit.inBlock, Exit.then])
  refine bodyPost_ret (results_none rfl _ _ _) rfl ?_
  exact ⟨rfl, rfl⟩

set_option maxRecDepth 20000 in
set_option maxHeartbeats 4000000 in
theorem push_any (base p : Nat) (v : Value) (tn : Int) (l : List It) (w : World) (h : HAt 90 92 base p v tn l w) (hHp : Hp l) (hn : l.length ≤ 900000) (ht : 0 ≤ tn ∧ tn ≤ 1000000000) (r q : Int) (xz : ByteArray) (hbase : base ≤ w.heap.size) :
    Calls Try.prog 18 #[.pointer (some ⟨p, 0, none⟩), .int .i64 r, .int .i64 q, (.string xz)] w fun e w' => e = .returned (.tuple #[]) ∧ ∃ v' l', HAt 90 92 base p v' (tn + 1) l' w' ∧ Hp l' ∧ l'.Perm (⟨r, q, tn, (.string xz)⟩ :: l) ∧ Fr p v w w' ∧ Nw w v v' := by
  obtain ⟨i0, hi, hz0, hz1, hz2⟩ := info_parts info_item
  obtain ⟨ao, cap, rfl, hv1, hv2, hv3, hv4⟩ := h.form
  have hp0 := h.cell0
  have hp1 := h.cell1
  have hfp := h.fr
  have hlt := h.lt
  obtain ⟨n, hln⟩ : ∃ n, l.length = n := ⟨_, rfl⟩
  rw [hln] at hp0 h hn hv3 ⊢
  have hrow := h.row
  rw [hln] at hrow
  have H := hide h
  have HL := hide hln
  have hl4 : (It.cells ⟨r, q, tn, (.string xz)⟩).length = 1 * 4 := rfl
  have hone4 : ∀ u ∈ It.cells ⟨r, q, tn, (.string xz)⟩, u.oneCell' = true := by
    intro u hu
    simp only [It.cells, List.mem_cons, List.not_mem_nil, or_false] at hu
    rcases hu with rfl | rfl | rfl | rfl
    · rfl
    · rfl
    · rfl
    · rfl
  have hpne : some p ≠ (Value.slice ao n cap).ownBlock := fun e => H.out.ne e.symm
  have hq0 : w.heap.size ≠ p := by omega
  have hq1 : p ≠ w.heap.size := by omega
  clear h hln hv1 hv2
  go_enter Try.func18, Try.ntmps18
  go_wp2
  go_region_law ((refine step_append_lies _ (by rfl) _ _ _ (by rfl) base 92 i0 _ 4 40 Try.underlying88 hi hz0 hz1 hz2 (by rfl) (by omega) _ n (flat l) (by rfl) (by first | exact (hrow.alloc _).drew | exact hrow.drew.alloc _) _ 1 _ (It.cells ⟨r, q, tn, (.string xz)⟩) (by rfl) hl4 (by first | exact World.news_of_block (heap_alloc_new w _) | exact World.news_of_block (heap_alloc_new w.drew _)) hone4 (by omega) (by unfold maxLen; omega) (by omega) (by simp; omega) (w.heap.size + 1) (by simp) ?_; intro g cap1 w1 hown1 hgrow hat hlt1; have hc1 : w1.cell? ⟨p, 0, none⟩ = some (.slice ao n cap) := (hgrow.cell_far ⟨p, 0, none⟩ (by simp; omega) hpne).trans (by first | exact (cell_old w _ hlt).trans hp0 | exact (cell_old w.drew _ hlt).trans hp0); have hc2 : w1.cell? ⟨p, 1, none⟩ = some (.int .i64 tn) := (hgrow.cell_far ⟨p, 1, none⟩ (by simp; omega) hpne).trans (by first | exact (cell_old w _ hlt).trans hp1 | exact (cell_old w.drew _ hlt).trans hp1); have hf1 : w1.frozen? ⟨p, 0, none⟩ = false := (hgrow.frozen_far ⟨p, 0, none⟩ (by simp; omega) hpne).trans (by first | exact (frozen_old w _ hlt).trans (hfp 0) | exact (frozen_old w.drew _ hlt).trans (hfp 0)); have hf2 : w1.frozen? ⟨p, 1, none⟩ = false := (hgrow.frozen_far ⟨p, 1, none⟩ (by simp; omega) hpne).trans (by first | exact (frozen_old w _ hlt).trans (hfp 1) | exact (frozen_old w.drew _ hlt).trans (hfp 1))))
  all_goals
    obtain ⟨hH1, hF1, hN1⟩ := H.out.pushed HL.out ⟨r, q, tn, (.string xz)⟩ rfl _ hown1 hgrow hat (tn + 1)
    have HRI := hHp.pushed ⟨r, q, tn, (.string xz)⟩
    rw [HL.out] at HRI
    clear hown1 hgrow hat
    go_wp2_with fail
    refine (rise_any base p _ (tn + 1) (l ++ [⟨r, q, tn, (.string xz)⟩]) _ hH1 n HRI (by simp [HL.out]; omega)).mono ?_
    rintro e w2 ⟨rfl, l', hH2, hHp2, hP2, hF2⟩
    go_wp2
    go_end0
    exact ⟨rfl, _, l', hH2, hHp2, hP2.trans List.perm_append_comm, hF1.trans hN1 hF2, hN1⟩

end Go.Proofs.Ytdeenhmcifopfaa.Hstring
