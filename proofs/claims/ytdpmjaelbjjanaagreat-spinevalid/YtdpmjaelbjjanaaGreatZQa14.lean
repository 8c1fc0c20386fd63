/- Contract of package token: Add. Contract of package token: Add: the errors. Contract of package token: Add: a token more. Contracts of package token: Add as a whole, New. -/
import Derived.Test.YtdpmjaelbjjanaaGreatZQa13
import Derived.BigRegion
import Derived.Deep.RegionLaw
import Derived.Deep.DrawnRows
namespace Go.Proofs.YtdpmjaelbjjanaaGreat
open Go.RowKit Go.Maps
set_option linter.unusedVariables false
set_option linter.unusedSimpArgs false
attribute [local go_sem ↓] Go.wp_at_zero Go.wp_at_succ

section
variable {F : List Nat} {p : Nat} {v0 v1 : Value} {b2 b3 : Nat} {tx : List ByteArray} {mg : List (Int × Int)} {lg : Int} {w : World}

/-- What is left of Add behind enter: the merge, too. -/
theorem TAt.merged (h : TAt F p v0 v1 b2 b3 tx mg lg w) (m : Int × Int) (o : Obj) {g cap1 : Nat} {w1 : World} (hown : w1.ownsRow 0 77 2 (.slice (some ⟨g, 0, none⟩) (mg.length + 1) cap1) (mg.length + 1) (fl2 mg ++ fl2 [m])) (hgrow : (w.alloc o).drew.grownBy w1 v1.ownBlock) (hat : v1.ownBlock = some g ∨ g = w.heap.size + 1)
    {w2 w3 : World} (hw2 : w2 = (w1.setCell ⟨p, 1, none⟩ (.slice (some ⟨g, 0, none⟩) (mg.length + 1) cap1)).drew) (hm3 : MapK Tryz.prog 77 3 256 w3 b3 (mg.map kp ++ [kp m])) (hg3 : w2.grownBy w3 (some b3)) :
    TAt (g :: F) p v0 (.slice (some ⟨g, 0, none⟩) (mg.length + 1) cap1) b2 b3 tx (mg ++ [m]) lg w3 ∧ FrL F w w3 ∧ NwL w F (g :: F) := by
  have hlt := h.lt
  have hsz : (w.alloc o).drew.heap.size = w.heap.size + 1 := by simp
  have hold : ∀ k, k < w.heap.size → (w.alloc o).drew.heap[k]? = w.heap[k]? := fun k hk => Below.heap_alloc w o k hk
  have hF1 : FrL F w w1 := ⟨hgrow.os, hgrow.tape, hgrow.output, by have := hgrow.size; omega, fun k hk hF => (hgrow.block k (by omega) (fun e => hF (h.f1 k e.symm))).trans (hold k hk)⟩
  have hst1 : w1.heap[p]? = some (.cells #[v0, v1, .map (some b2), .map (some b3), .int .i64 lg] 145 (0, 0)) := ((hgrow.block p (by omega) (fun e => h.pne1 e.symm)).trans (hold p hlt)).trans h.st
  have hst2 : w2.heap[p]? = some (.cells #[v0, .slice (some ⟨g, 0, none⟩) (mg.length + 1) cap1, .map (some b2), .map (some b3), .int .i64 lg] 145 (0, 0)) := by
    rw [hw2]
    show (w1.setCell ⟨p, 1, none⟩ _).heap[p]? = _
    rw [heap_setCell_same w1 p 1 _ _ _ hst1]; rfl
  have hF2 : FrL F w w2 := by rw [hw2]; exact (hF1.set h.fp _).drew
  have hst3 : w3.heap[p]? = some (.cells #[v0, .slice (some ⟨g, 0, none⟩) (mg.length + 1) cap1, .map (some b2), .map (some b3), .int .i64 lg] 145 (0, 0)) := (hg3.block p (by have := (Array.getElem?_eq_some_iff.1 hst2).1; exact this) (fun e => h.pb3 (Option.some.inj e))).trans hst2
  have hF3 : FrL F w w3 := hF2.trans' (FrL.ofGrown hg3 (fun k e => by cases e; exact h.f3))
  have hgp : g ≠ p := by
    rcases hat with e | e
    · intro e2; exact h.pne1 (by rw [e, e2])
    · omega
  have hgb : g ≠ b3 := by
    rcases hat with e | e
    · intro e2; exact row_ne_map h.r1 h.m3.isMap (by rw [e, e2])
    · have := h.m3.lt; omega
  have hgl : g < w1.heap.size := (hown.lt g rfl).2
  have hz2 : w2.heap.size = w1.heap.size := by rw [hw2]; simp
  have two : ∀ k, k ≠ p → w2.heap[k]? = w1.heap[k]? := by
    intro k hk
    rw [hw2]
    show (w1.setCell ⟨p, 1, none⟩ _).heap[k]? = _
    exact heap_setCell_other _ _ _ _ hk
  have other : ∀ k, k < w.heap.size → k ≠ p → k ≠ b3 → v1.ownBlock ≠ some k → w3.heap[k]? = w.heap[k]? := by
    intro k hk h1 h2 h3
    rw [hg3.block k (by rw [hz2]; have := hF1.size; omega) (by simpa using h2), two k h1, hgrow.block k (by omega) (fun e => h3 e.symm), hold k hk]
  refine ⟨⟨hst3, ?_, ?_, ?_, ?_, h.ne, List.mem_cons_of_mem _ h.fp, List.mem_cons_of_mem _ h.f2, List.mem_cons_of_mem _ h.f3, fun k e => List.mem_cons_of_mem _ (h.f0 k e), fun k e => ?_, ?_⟩, hF3, ?_⟩
  · rcases h.r0.2 with hn | ⟨g1, c1, cur1, e1, hb, hg, rest⟩
    · exact ⟨h.r0.1, .inl hn⟩
    · subst e1
      have h1 := (h.r0.lt g1 rfl).2
      refine ⟨h.r0.1, .inr ⟨g1, c1, cur1, rfl, hb, ?_, rest⟩⟩
      rw [other g1 h1 (fun e => h.pne0 (by simp [Value.ownBlock, e])) (fun e => row_ne_map h.r0 h.m3.isMap (by simp [Value.ownBlock, e])) (fun e => h.ne01 g1 rfl e)]
      exact hg
  · have hl : (mg ++ [m]).length = mg.length + 1 := by simp
    rw [hl, fl2_append]
    rcases hown.2 with ⟨h0, _⟩ | ⟨g', cap', cur, hvv, hb, hg, rest⟩
    · cases h0
    · simp only [Value.slice.injEq, Option.some.injEq, Addr.mk.injEq, and_true, true_and] at hvv
      obtain ⟨rfl, rfl⟩ := hvv
      refine ⟨hown.1, .inr ⟨g, cap1, cur, rfl, hb, ?_, rest⟩⟩
      rw [hg3.block g (by rw [hz2]; exact hgl) (by simpa using hgb), two g hgp]
      exact hg
  · exact h.m2.keep (other b2 h.m2.lt (Ne.symm h.pb2) h.ne (row_ne_map h.r1 h.m2.isMap))
  · rw [List.map_append]
    exact hm3
  · simp [Value.ownBlock] at e
    rw [← e]; exact List.mem_cons_self ..
  · intro k hk
    rcases List.mem_cons.1 hk with rfl | hk
    · have := hg3.size; omega
    · exact Nat.lt_of_lt_of_le (h.flt k hk) hF3.size
  · intro k hk
    rcases List.mem_cons.1 hk with rfl | hk
    · rcases hat with e | e
      · exact Or.inl (h.f1 _ e)
      · exact Or.inr (by omega)
    · exact Or.inl hk

theorem TAt.merge_map (h : TAt F p v0 v1 b2 b3 tx mg lg w) (g cap1 : Nat) {o : Obj} {w1 : World} (hgrow : (w.alloc o).drew.grownBy w1 v1.ownBlock) : MapK Tryz.prog 77 3 256 (w1.setCell ⟨p, 1, none⟩ (.slice (some ⟨g, 0, none⟩) (mg.length + 1) cap1)).drew b3 (mg.map kp) ∧ (w1.setCell ⟨p, 1, none⟩ (.slice (some ⟨g, 0, none⟩) (mg.length + 1) cap1)).cell? ⟨p, 3, none⟩ = some (.map (some b3)) := by
  have hlt := h.m3.lt
  have hpl := h.lt
  constructor
  · refine h.m3.keep ?_
    show (w1.setCell ⟨p, 1, none⟩ _).heap[b3]? = _
    rw [heap_setCell_other _ _ _ _ (Ne.symm h.pb3), hgrow.block b3 (by simp; omega) (fun e => row_ne_map h.r1 h.m3.isMap e.symm)]
    exact Below.heap_alloc w o b3 hlt
  · have hst1 : w1.heap[p]? = some (.cells #[v0, v1, .map (some b2), .map (some b3), .int .i64 lg] 145 (0, 0)) := ((hgrow.block p (by simp; omega) (fun e => h.pne1 e.symm)).trans (Below.heap_alloc w o p hpl)).trans h.st
    have hst2 := heap_setCell_same w1 p 1 _ _ (.slice (some ⟨g, 0, none⟩) (mg.length + 1) cap1) hst1
    simp [World.cell?, hst2]
end

end Go.Proofs.YtdpmjaelbjjanaaGreat

namespace Go.Proofs.YtdpmjaelbjjanaaGreat
open Go.RowKit Go.Maps
set_option linter.unusedVariables false
set_option linter.unusedSimpArgs false
attribute [local go_sem ↓] Go.wp_at_zero Go.wp_at_succ

def two (i e : Int) : Value := .tuple #[.int .i64 i, .int .i64 e]
theorem low1 (w : World) (o : Obj) : Below w.heap.size w (w.alloc o) := (Below.refl _ _).alloc (Nat.le_refl _) _

section
variable {F : List Nat} {p : Nat} {v0 v1 : Value} {b2 b3 : Nat} {tx : List ByteArray} {mg : List (Int × Int)} {lg : Int} {w : World}

set_option maxRecDepth 20000 in
set_option maxHeartbeats 2000000 in
theorem add_id (h : TAt F p v0 v1 b2 b3 tx mg lg w) (a b : Int) (hid : (a < 0 ∨ (tx.length : Int) ≤ a) ∨ (b < 0 ∨ (tx.length : Int) ≤ b)) :
    Calls Tryz.prog 48 #[.pointer (some ⟨p, 0, none⟩), .agg #[.int .i64 a, .int .i64 b]] w fun e w' => e = .returned (two 0 4) ∧ Below w.heap.size w w' := by
  have hT := h.keptB (low1 w (.cells #[.int .i64 a, .int .i64 b] 77))
  have HL := hide (tlen_any hT)
  have HT := hide hT
  clear hT
  by_cases ha : a < 0 ∨ (tx.length : Int) ≤ a
  · by_cases hb : b < 0 ∨ (tx.length : Int) ≤ b
    · go_enter Tryz.func48, Tryz.ntmps48
      go_wp2_with fail
      refine (tbytes_none a _ tx.length _ HL ha).mono ?_
      rintro e w1 ⟨rfl, hw⟩
      subst hw
      go_wp2_with fail
      refine (tbytes_none b _ tx.length _ HL hb).mono ?_
      rintro e w1 ⟨rfl, hw⟩
      subst hw
      go_wp2
      (try simp only [Exit.inBlock, Exit.then])
      exact bodyPost_ret (v := two 0 4) (by simp [two, results, Tryz.results48, go_sem]) rfl ⟨rfl, low1 _ _⟩
    · obtain ⟨i, rfl⟩ := Int.eq_ofNat_of_zero_le (show 0 ≤ b by omega)
      go_enter Tryz.func48, Tryz.ntmps48
      go_wp2_with fail
      refine (tbytes_none a _ tx.length _ HL ha).mono ?_
      rintro e w1 ⟨rfl, hw⟩
      subst hw
      go_wp2_with fail
      refine (tbytes_any HT.out i (by omega)).mono ?_
      rintro e w1 ⟨rfl, hw⟩
      subst hw
      go_wp2
      (try simp only [Exit.inBlock, Exit.then])
      exact bodyPost_ret (v := two 0 4) (by simp [two, results, Tryz.results48, go_sem]) rfl ⟨rfl, low1 _ _⟩
  · have hb : b < 0 ∨ (tx.length : Int) ≤ b := by omega
    obtain ⟨i, rfl⟩ := Int.eq_ofNat_of_zero_le (show 0 ≤ a by omega)
    go_enter Tryz.func48, Tryz.ntmps48
    go_wp2_with fail
    refine (tbytes_any HT.out i (by omega)).mono ?_
    rintro e w1 ⟨rfl, hw⟩
    subst hw
    go_wp2_with fail
    refine (tbytes_none b _ tx.length _ HL hb).mono ?_
    rintro e w1 ⟨rfl, hw⟩
    subst hw
    go_wp2
    (try simp only [Exit.inBlock, Exit.then])
    exact bodyPost_ret (v := two 0 4) (by simp [two, results, Tryz.results48, go_sem]) rfl ⟨rfl, low1 _ _⟩

set_option maxRecDepth 20000 in
set_option maxHeartbeats 4000000 in
theorem add_long (h : TAt F p v0 v1 b2 b3 tx mg lg w) (i j : Nat) (hi : i < tx.length) (hj : j < tx.length) (hzi : (gs tx i).size ≤ 64) (hzj : (gs tx j).size ≤ 64) (s : ByteArray) (hs : gs tx i ++ gs tx j = s) (hl : 64 < s.size) :
    Calls Tryz.prog 48 #[.pointer (some ⟨p, 0, none⟩), .agg #[.int .i64 i, .int .i64 j]] w fun e w' => e = .returned (two 0 3) ∧ Below w.heap.size w w' := by
  have hT := h.keptB (low1 w (.cells #[.int .i64 i, .int .i64 j] 77))
  have HT := hide hT
  obtain ⟨ao0, cap0, hv0⟩ := row_form hT.r0
  have hc0 := hT.cells.1
  rw [hv0] at hc0
  clear hT
  have hl2 : (64 : Int) < (s.size : Int) := by omega
  go_enter Tryz.func48, Tryz.ntmps48
  go_wp2_with fail
  refine (tbytes_any HT.out i hi).mono ?_
  rintro e w1 ⟨rfl, hw⟩
  subst hw
  go_wp2_with fail
  refine (tbytes_any HT.out j hj).mono ?_
  rintro e w1 ⟨rfl, hw⟩
  subst hw
  go_wp2
  (try simp only [Exit.inBlock, Exit.then])
  exact bodyPost_ret (v := two 0 3) (by simp [two, results, Tryz.results48, go_sem]) rfl ⟨rfl, low1 _ _⟩

set_option maxRecDepth 20000 in
set_option maxHeartbeats 4000000 in
theorem add_full (h : TAt F p v0 v1 b2 b3 tx mg lg w) (i j : Nat) (hi : i < tx.length) (hj : j < tx.length) (hzi : (gs tx i).size ≤ 64) (hzj : (gs tx j).size ≤ 64) (s : ByteArray) (hs : gs tx i ++ gs tx j = s) (hl : s.size ≤ 64) (hf : 1000 ≤ tx.length) :
    Calls Tryz.prog 48 #[.pointer (some ⟨p, 0, none⟩), .agg #[.int .i64 i, .int .i64 j]] w fun e w' => e = .returned (two 0 5) ∧ Below w.heap.size w w' := by
  have hT := h.keptB (low1 w (.cells #[.int .i64 i, .int .i64 j] 77))
  have HT := hide hT
  obtain ⟨ao0, cap0, hv0⟩ := row_form hT.r0
  have hc0 := hT.cells.1
  rw [hv0] at hc0
  clear hT
  have hl2 : ¬ (64 : Int) < (s.size : Int) := by omega
  have hf2 : (1000 : Int) ≤ (tx.length : Int) := by omega
  go_enter Tryz.func48, Tryz.ntmps48
  go_wp2_with fail
  refine (tbytes_any HT.out i hi).mono ?_
  rintro e w1 ⟨rfl, hw⟩
  subst hw
  go_wp2_with fail
  refine (tbytes_any HT.out j hj).mono ?_
  rintro e w1 ⟨rfl, hw⟩
  subst hw
  go_wp2
  (try simp only [Exit.inBlock, Exit.then])
  exact bodyPost_ret (v := two 0 5) (by simp [two, results, Tryz.results48, go_sem]) rfl ⟨rfl, low1 _ _⟩

set_option maxRecDepth 20000 in
set_option maxHeartbeats 4000000 in
theorem add_twice (h : TAt F p v0 v1 b2 b3 tx mg lg w) (i j : Nat) (hi : i < tx.length) (hj : j < tx.length) (hzi : (gs tx i).size ≤ 64) (hzj : (gs tx j).size ≤ 64) (s : ByteArray) (hs : gs tx i ++ gs tx j = s) (hl : s.size ≤ 64) (hf : tx.length < 1000) (k : Nat) (hk : k < tx.length) (he : gs tx k = s) :
    Calls Tryz.prog 48 #[.pointer (some ⟨p, 0, none⟩), .agg #[.int .i64 i, .int .i64 j]] w fun e w' => e = .returned (two 0 10) ∧ Below w.heap.size w w' := by
  have hT := h.keptB (low1 w (.cells #[.int .i64 i, .int .i64 j] 77))
  have HT := hide hT
  obtain ⟨ao0, cap0, hv0⟩ := row_form hT.r0
  have hc0 := hT.cells.1
  rw [hv0] at hc0
  clear hT
  have hl2 : ¬ (64 : Int) < (s.size : Int) := by omega
  have hf2 : ¬ (1000 : Int) ≤ (tx.length : Int) := by omega
  have HE := hide he
  clear he
  go_enter Tryz.func48, Tryz.ntmps48
  go_wp2_with fail
  refine (tbytes_any HT.out i hi).mono ?_
  rintro e w1 ⟨rfl, hw⟩
  subst hw
  go_wp2_with fail
  refine (tbytes_any HT.out j hj).mono ?_
  rintro e w1 ⟨rfl, hw⟩
  subst hw
  go_wp2_with fail
  refine (tfind_any HT.out k hk s (by unfold maxLen; omega) HE.out).mono ?_
  rintro e w1 ⟨rfl, hw⟩
  subst hw
  go_wp2
  (try simp only [Exit.inBlock, Exit.then])
  exact bodyPost_ret (v := two 0 10) (by simp [two, results, Tryz.results48, go_sem]) rfl ⟨rfl, low1 _ _⟩

end

end Go.Proofs.YtdpmjaelbjjanaaGreat

namespace Go.Proofs.YtdpmjaelbjjanaaGreat
open Go.RowKit Go.Maps
set_option linter.unusedVariables false
set_option linter.unusedSimpArgs false
attribute [local go_sem ↓] Go.wp_at_zero Go.wp_at_succ

section
variable {F : List Nat} {p : Nat} {v0 v1 : Value} {b2 b3 : Nat} {tx : List ByteArray} {mg : List (Int × Int)} {lg : Int} {w : World}

set_option maxRecDepth 20000 in
set_option maxHeartbeats 8000000 in
theorem add_ok (h : TAt F p v0 v1 b2 b3 tx mg lg w) (i j : Nat) (hi : i < tx.length) (hj : j < tx.length) (hzi : (gs tx i).size ≤ 64) (hzj : (gs tx j).size ≤ 64) (s : ByteArray) (hs : gs tx i ++ gs tx j = s) (hl : s.size ≤ 64) (hf : tx.length < 1000) (hn : s ∉ tx)
    (hlen : tx.length = 256 + mg.length) (hg : ∀ x ∈ mg, wfM x) (hnm : ((i : Int), (j : Int)) ∉ mg) (hlg : 0 ≤ lg ∧ lg ≤ 1000) (lg' : Int) (hlg' : lg' = if lg ≤ s.size then (s.size : Int) else lg) :
    Calls Tryz.prog 48 #[.pointer (some ⟨p, 0, none⟩), .agg #[.int .i64 i, .int .i64 j]] w fun e w' => e = .returned (two tx.length 0) ∧ ∃ F' v0' v1', TAt F' p v0' v1' b2 b3 (tx ++ [s]) (mg ++ [((i : Int), (j : Int))]) lg' w' ∧ FrL F w w' ∧ NwL w F F' := by
  have hlow := low1 w (.cells #[.int .i64 i, .int .i64 j] 77)
  have hT := h.keptB hlow
  have HT := hide hT
  obtain ⟨ao0, cap0, hv0⟩ := row_form hT.r0
  have hc0 := hT.cells.1
  rw [hv0] at hc0
  have hlt := h.lt
  have hbF : w.heap.size ∉ F := fun e => by have := h.flt _ e; omega
  have hbox : (w.alloc (.cells #[.int .i64 i, .int .i64 j] 77)).heap[w.heap.size]? = some (.cells #[.int .i64 i, .int .i64 j] 77 (0, 0)) := heap_alloc_new w _
  have HEN := hide (enter_any hT s (by omega) hn (by omega) hlg lg' hlg')
  have hl2 : ¬ (64 : Int) < (s.size : Int) := by omega
  have hf2 : ¬ (1000 : Int) ≤ (tx.length : Int) := by omega
  have HLEN := hide hlen
  have HLG := hide hlg'
  have hwm : wfM ((i : Int), (j : Int)) := ⟨WalkArith.wf_i64 (by omega), WalkArith.wf_i64 (by omega)⟩
  have hkn : kp ((i : Int), (j : Int)) ∉ mg.map kp := fun e => hnm (kp_mem hwm hg e)
  obtain ⟨i0, hii, hz0, hz1, hz2⟩ := info_parts info_merge
  clear hT hlen hlg' hnm
  go_enter Tryz.func48, Tryz.ntmps48
  go_wp2_with fail
  refine (tbytes_any HT.out i hi).mono ?_
  rintro e w1 ⟨rfl, hw⟩
  subst hw
  go_wp2_with fail
  refine (tbytes_any HT.out j hj).mono ?_
  rintro e w1 ⟨rfl, hw⟩
  subst hw
  go_wp2_with fail
  refine (tfind_none HT.out s (by unfold maxLen; omega) hn).mono ?_
  rintro e w1 ⟨rfl, hw⟩
  subst hw
  go_wp2_with fail
  refine (unhide HEN).mono ?_
  rintro e w2 ⟨rfl, F2, v2, hT2, hFr2, hN2⟩
  have hbox2 : w2.heap[w.heap.size]? = some (.cells #[.int .i64 i, .int .i64 j] 77 (0, 0)) := (hFr2.block _ (by simp) hbF).trans hbox
  have bc0 : w2.cell? ⟨w.heap.size, 0, none⟩ = some (.int .i64 i) := by simp [World.cell?, hbox2]
  have bc1 : w2.cell? ⟨w.heap.size, 1, none⟩ = some (.int .i64 j) := by simp [World.cell?, hbox2]
  obtain ⟨ao1, cap1', hv1⟩ := row_form hT2.r1
  subst hv1
  have hr1 := hT2.r1
  have tc1 := hT2.cells.2.1
  have tc3 := hT2.cells.2.2.2.1
  have tfp := hT2.fr
  have tlt := hT2.lt
  have hbz2 : w.heap.size < w2.heap.size := by have := hFr2.size; simp at this; omega
  have hpne1 : some p ≠ (Value.slice ao1 mg.length cap1').ownBlock := fun e => hT2.pne1 e.symm
  have hbne1 : some w.heap.size ≠ (Value.slice ao1 mg.length cap1').ownBlock := fun e => hbF ((HT.out.f1 w.heap.size (by first | exact e.symm | skip)))
  have hpb : p ≠ w.heap.size := by omega
  have hbp : w.heap.size ≠ p := by omega
  have HT2 := hide hT2
  clear hT2 hbox hbox2
  go_wp2
  go_region_law ((refine step_append_lies _ (by rfl) _ _ _ (by rfl) 0 77 i0 _ 2 16 Tryz.underlying32 hii hz0 hz1 hz2 (by rfl) (by omega) _ mg.length (fl2 mg) (by rfl) (by first | exact (hr1.alloc _).drew | exact hr1.drew.alloc _) _ 1 _ (fl2 [((i : Int), (j : Int))]) (by rfl) (by rfl) (by first | exact World.news_of_block (heap_alloc_new w2 _) | exact World.news_of_block (heap_alloc_new w2.drew _)) (fl2_one _) (by omega) (by unfold maxLen; have := HLEN.out; omega) (by have := HLEN.out; omega) (by omega) (w2.heap.size + 1) (by simp) ?_; intro g cap1 w3 hown hgrow hat hlt3; have e1 : w3.cell? ⟨p, 1, none⟩ = some (.slice ao1 mg.length cap1') := (hgrow.cell_far ⟨p, 1, none⟩ (by simp; omega) hpne1).trans (by first | exact (cell_old w2 _ tlt).trans tc1 | exact (cell_old w2.drew _ tlt).trans tc1); have ef : w3.frozen? ⟨p, 1, none⟩ = false := (hgrow.frozen_far ⟨p, 1, none⟩ (by simp; omega) hpne1).trans (by first | exact (frozen_old w2 _ tlt).trans (tfp 1) | exact (frozen_old w2.drew _ tlt).trans (tfp 1))))
  all_goals
    have hgrow' : (w2.alloc (.cells #[.int .i64 i, .int .i64 j] 77)).drew.grownBy w3 (Value.slice ao1 mg.length cap1').ownBlock := hgrow
    have hat' : (Value.slice ao1 mg.length cap1').ownBlock = some g ∨ g = w2.heap.size + 1 := hat
    clear hgrow hat
    obtain ⟨hmk, hc3⟩ := HT2.out.merge_map g cap1 hgrow'
    obtain ⟨w5, hrun, hm5, hg5⟩ := hmk.put keyM Tryz.underlying143 Tryz.underlying3 (kp_key hwm) hkn (by rw [List.length_map]; unfold maxLen; have := HLEN.out; omega) (v := (tx.length : Int)) (by rw [List.length_map, HLEN.out]; omega) (WalkArith.wf_i64 (by omega))
    unfold mv at hrun
    have b0 : w3.cell? ⟨w.heap.size, 0, none⟩ = some (.int .i64 i) := (hgrow'.cell_far ⟨w.heap.size, 0, none⟩ (by simp; omega) hbne1).trans ((cell_old w2 _ hbz2).trans bc0)
    have b1 : w3.cell? ⟨w.heap.size, 1, none⟩ = some (.int .i64 j) := (hgrow'.cell_far ⟨w.heap.size, 1, none⟩ (by simp; omega) hbne1).trans ((cell_old w2 _ hbz2).trans bc1)
    obtain ⟨hTf, hFf, hNf⟩ := HT2.out.merged ((i : Int), (j : Int)) _ hown hgrow' hat' rfl hm5 hg5
    have HTF := hide hTf
    have HFF := hide hFf
    have HNF := hide hNf
    clear hTf hFf hNf hm5 hg5 hmk hown hgrow' hat'
    go_wp2
    go_region
    all_goals
      go_wp2
      (try simp only [Exit.inBlock, Exit.then])
      refine bodyPost_ret (v := two tx.length 0) (by simp [two, results, Tryz.results48, go_sem]) rfl ?_
      have hN0 : NwL w F F2 := by
        intro k hk
        rcases hN2 k hk with h1 | h1
        · exact Or.inl h1
        · exact Or.inr (by simp at h1; omega)
      have hz0 : w.heap.size ≤ w2.heap.size := by omega
      first
      | exact ⟨rfl, _, _, _, HTF.out, ((FrL.ofBelow hlow).trans' hFr2).trans hN0 HFF.out, hN0.trans hz0 HNF.out⟩
      | exact ⟨rfl, _, ⟨_, _, HTF.out⟩, ((FrL.ofBelow hlow).trans' hFr2).trans hN0 HFF.out, hN0.trans hz0 HNF.out⟩
end

end Go.Proofs.YtdpmjaelbjjanaaGreat

namespace Go.Proofs.YtdpmjaelbjjanaaGreat
open Go.RowKit Go.Maps
set_option linter.unusedVariables false
set_option linter.unusedSimpArgs false

def nextT (tx : List ByteArray) (m : Int × Int) : List ByteArray := if addC tx m = 0 then tx ++ [addS tx m] else tx
def nextM (tx : List ByteArray) (mg : List (Int × Int)) (m : Int × Int) : List (Int × Int) := if addC tx m = 0 then mg ++ [m] else mg
theorem Tok.next {tx : List ByteArray} {mg : List (Int × Int)} (h : Tok tx mg) (m : Int × Int) : Tok (nextT tx m) (nextM tx mg m) := by
  unfold nextT nextM
  by_cases hc : addC tx m = 0
  · rw [if_pos hc, if_pos hc]; exact h.add hc
  · rw [if_neg hc, if_neg hc]; exact h

section
variable {F : List Nat} {p : Nat} {v0 v1 : Value} {b2 b3 : Nat} {tx : List ByteArray} {mg : List (Int × Int)} {w : World}

theorem add_any (h : TAt F p v0 v1 b2 b3 tx mg (lgs tx) w) (hk : Tok tx mg) (m : Int × Int) :
    Calls Tryz.prog 48 #[.pointer (some ⟨p, 0, none⟩), .agg #[.int .i64 m.1, .int .i64 m.2]] w fun e w' => e = .returned (two (if addC tx m = 0 then tx.length else 0) (addC tx m)) ∧ ∃ F' v0' v1', TAt F' p v0' v1' b2 b3 (nextT tx m) (nextM tx mg m) (lgs (nextT tx m)) w' ∧ FrL F w w' ∧ NwL w F F' := by
  have same : ∀ (c : Int), addC tx m = c → c ≠ 0 → ∀ e w', (e = Ending.returned (two 0 c) ∧ Below w.heap.size w w') → (e = .returned (two (if addC tx m = 0 then tx.length else 0) (addC tx m)) ∧ ∃ F' v0' v1', TAt F' p v0' v1' b2 b3 (nextT tx m) (nextM tx mg m) (lgs (nextT tx m)) w' ∧ FrL F w w' ∧ NwL w F F') := by
    rintro c hc hne e w' ⟨rfl, hb⟩
    have hn : addC tx m ≠ 0 := by rw [hc]; exact hne
    rw [if_neg hn, hc]
    unfold nextT nextM
    rw [if_neg hn, if_neg hn]
    exact ⟨rfl, F, v0, v1, h.keptB hb, FrL.ofBelow hb, NwL.refl _ _⟩
  by_cases h1 : m.1 < 0 ∨ (tx.length : Int) ≤ m.1 ∨ m.2 < 0 ∨ (tx.length : Int) ≤ m.2
  · exact (add_id h m.1 m.2 (by omega)).mono (same 4 (by unfold addC; rw [if_pos h1]) (by omega))
  · obtain ⟨i, hi⟩ := Int.eq_ofNat_of_zero_le (show 0 ≤ m.1 by omega)
    obtain ⟨j, hj⟩ := Int.eq_ofNat_of_zero_le (show 0 ≤ m.2 by omega)
    have hil : i < tx.length := by omega
    have hjl : j < tx.length := by omega
    have hS : addS tx m = gs tx i ++ gs tx j := by unfold addS; rw [hi, hj]; rfl
    have hC : addC tx m = if 64 < (addS tx m).size then 3 else if 1000 ≤ tx.length then 5 else if (addS tx m).data.toList ∈ tx.map (fun t => t.data.toList) then 10 else 0 := by
      unfold addC
      rw [if_neg h1]
      rfl
    have hzi := hk.sz i hil
    have hzj := hk.sz j hjl
    rw [hi, hj]
    by_cases h2 : 64 < (addS tx m).size
    · exact (add_long h i j hil hjl hzi hzj _ hS.symm h2).mono (same 3 (by rw [hC, if_pos h2]) (by omega))
    · rw [if_neg h2] at hC
      by_cases h3 : 1000 ≤ tx.length
      · exact (add_full h i j hil hjl hzi hzj _ hS.symm (by omega) h3).mono (same 5 (by rw [hC, if_pos h3]) (by omega))
      · rw [if_neg h3] at hC
        by_cases h4 : addS tx m ∈ tx
        · obtain ⟨k, hkl, hke⟩ := gs_mem.1 h4
          exact (add_twice h i j hil hjl hzi hzj _ hS.symm (by omega) (by omega) k hkl hke).mono (same 10 (by rw [hC, if_pos (data_mem.2 h4)]) (by omega))
        · rw [if_neg (fun e => h4 (data_mem.1 e))] at hC
          have hm : ((i : Int), (j : Int)) = m := by cases m; simp at hi hj; simp [hi, hj]
          have hlg := hk.lg0
          refine (add_ok h i j hil hjl hzi hzj _ hS.symm (by omega) (by omega) h4 hk.len hk.wf (by rw [hm]; exact hk.not_mem h4) (by omega) _ (lgs_snoc tx (addS tx m))).mono ?_
          rintro e w' ⟨rfl, F', v0', v1', hT, hF, hN⟩
          rw [hm] at hT
          unfold nextT nextM
          rw [if_pos hC, if_pos hC, if_pos hC, hC]
          exact ⟨rfl, F', v0', v1', hT, hF, hN⟩
end

/-- The merges that came in lie at ao. -/
def ReadsM (w : World) (ao : Option Addr) (n : Nat) (M : List (Int × Int)) : Prop :=
  M.length = n ∧ (n = 0 ∨ ∃ b off, ao = some ⟨b, off, none⟩ ∧ ∀ i, i < n → w.cell? ⟨b, off + i * 2, none⟩ = some (.int .i64 (gm M i).1) ∧ w.cell? ⟨b, off + i * 2 + 1, none⟩ = some (.int .i64 (gm M i).2))
theorem ReadsM.kept {w w' : World} {ao : Option Addr} {n : Nat} {M : List (Int × Int)} (h : ReadsM w ao n M) (hb : Below w.heap.size w w') : ReadsM w' ao n M := by
  refine ⟨h.1, ?_⟩
  rcases h.2 with h | ⟨b, off, rfl, hc⟩
  · exact Or.inl h
  · exact Or.inr ⟨b, off, rfl, fun i hi => ⟨(hb.cell (World.block_lt_of_cell? w _ (hc i hi).1)).trans (hc i hi).1, (hb.cell (World.block_lt_of_cell? w _ (hc i hi).2)).trans (hc i hi).2⟩⟩
theorem ReadsM.at {w : World} {ao : Option Addr} {n : Nat} {M : List (Int × Int)} (h : ReadsM w ao n M) {i : Nat} (hi : i < n) :
    ∃ b off, ao = some ⟨b, off, none⟩ ∧ b < w.heap.size ∧ w.cell? ⟨b, off + i * 2, none⟩ = some (.int .i64 (gm M i).1) ∧ w.cell? ⟨b, off + i * 2 + 1, none⟩ = some (.int .i64 (gm M i).2) := by
  rcases h.2 with h | ⟨b, off, rfl, hc⟩
  · omega
  · exact ⟨b, off, rfl, World.block_lt_of_cell? w _ (hc i hi).1, hc i hi⟩

/-- The table behind the first k merges. -/
def stT (M : List (Int × Int)) : Nat → List ByteArray × List (Int × Int)
  | 0 => (tb 256, [])
  | k + 1 => (nextT (stT M k).1 (gm M k), nextM (stT M k).1 (stT M k).2 (gm M k))
theorem stT_tok (M : List (Int × Int)) (k : Nat) : Tok (stT M k).1 (stT M k).2 := by
  induction k with
  | zero => exact tok_begin
  | succ k ih => exact ih.next _

set_option maxRecDepth 20000 in
set_option maxHeartbeats 4000000 in
theorem new_any (ao : Option Addr) (n cap : Nat) (M : List (Int × Int)) (w : World) (hM : ReadsM w ao n M) (hn : n ≤ 1000000) :
    Calls Tryz.prog 19 #[.slice ao n cap] w fun e w' =>
      ((∃ k : Nat, k < n ∧ (∀ j, j < k → addC (stT M j).1 (gm M j) = 0) ∧ addC (stT M k).1 (gm M k) ≠ 0 ∧ e = .returned (.tuple #[.pointer none, .int .i64 k, .int .i64 (addC (stT M k).1 (gm M k))])) ∨
       ((∀ j, j < n → addC (stT M j).1 (gm M j) = 0) ∧ ∃ p F v0 v1 b2 b3, e = .returned (.tuple #[.pointer (some ⟨p, 0, none⟩), .int .i64 n, .int .i64 0]) ∧ TAt F p v0 v1 b2 b3 (stT M n).1 (stT M n).2 (lgs (stT M n).1) w' ∧ (∀ k ∈ F, w.heap.size ≤ k))) ∧ Below w.heap.size w w' := by
  go_enter Tryz.func19, Tryz.ntmps19
  go_wp2_with fail
  refine (ofBytes_any w).mono ?_
  rintro e w1 ⟨p, F, v0, b2, b3, rfl, hT, hFb, hB⟩
  go_wp2
  go_loopw [13] (fun i wr => ∃ (k : Nat) (F : List Nat) (v0 v1 : Value), i = .int .i64 k ∧ k ≤ n ∧ Hid (∀ j, j < k → addC (stT M j).1 (gm M j) = 0) ∧ TAt F p v0 v1 b2 b3 (stT M k).1 (stT M k).2 (lgs (stT M k).1) wr ∧ (∀ k ∈ F, w.heap.size ≤ k) ∧ Below w.heap.size w wr) (fun i _ => n - (intOf i).toNat)
  case atStart => exact ⟨0, F, v0, _, rfl, by omega, hide (fun j hj => by omega), by rw [show lgs (stT M 0).1 = 1 from lgs_tb 255]; exact hT, hFb, hB⟩
  case round =>
    obtain ⟨k, F, v0, v1, rfl, hk, hOK, hT, hFb, hB⟩ := hrel
    by_cases hlt : k < n
    · have hA1 := hM.kept hB
      obtain ⟨b, off, rfl, hbw, k0, k1⟩ := hA1.at hlt
      have hk0 : (0 : Int) ≤ (k : Int) := by omega
      have hk1 : (k : Int) < (n : Int) := by omega
      have htok := stT_tok M k
      have HST := hide (show stT M (k + 1) = (nextT (stT M k).1 (gm M k), nextM (stT M k).1 (stT M k).2 (gm M k)) from rfl)
      have hba : Below wr.heap.size wr (wr.alloc (.cells #[.int .i64 (gm M k).1, .int .i64 (gm M k).2] 77)) := low1 _ _
      have HAD := hide (add_any (hT.keptB hba) htok (gm M k))
      have HT := hide hT
      generalize hmk : gm M k = m at k0 k1 HAD HST hba
      have HMK := hide hmk
      clear hmk hT hA1 htok
      generalize htx : (stT M k).1 = tx at HAD HST
      generalize hmg : (stT M k).2 = mg at HAD HST
      have HTX := hide htx
      have HMG := hide hmg
      clear htx hmg
      go_wp2_with fail
      refine (unhide HAD).mono ?_
      rintro e w2 ⟨rfl, F2, v2, v3, hT2, hFr2, hN2⟩
      have hB2 := (hB.trans (hba.mono hB.size)).trans (hFr2.below (by have := hba.size; have := hB.size; omega) hFb)
      have hFb2 : ∀ k ∈ F2, w.heap.size ≤ k := by
        intro q hq
        rcases hN2 q hq with h1 | h1
        · exact hFb q h1
        · have := hba.size; have := hB.size; omega
      unfold two
      by_cases hc : addC tx m = 0
      · rw [if_pos hc, hc]
        have HC := hide hc
        have HT2 := hide hT2
        clear hc hT2
        go_wp2
        go_roundw
        case rel =>
          refine ⟨k + 1, F2, v2, v3, by go_num, by omega, hide (fun j hj => ?_), ?_, hFb2, hB2⟩
          · by_cases e : j = k
            · rw [e, HMK.out, HTX.out]; exact HC.out
            · exact hOK.out j (by omega)
          · rw [HST.out]; exact HT2.out
        case measure => simp [intOf]; omega
      · have hcb : (addC tx m != 0) = true := by simpa using hc
        rw [if_neg hc]
        have HC := hide hc
        clear hc
        go_wp2
        (try simp only [Exit.inBlock, Exit.then])
        refine bodyPost_ret (v := .tuple #[.pointer none, .int .i64 k, .int .i64 (addC tx m)]) (by simp [results, Tryz.results19, go_sem]) rfl ?_
        exact ⟨Or.inl ⟨k, hlt, hOK.out, by rw [HTX.out, HMK.out]; exact HC.out, by rw [HTX.out, HMK.out]⟩, hB2⟩
    · obtain rfl : n = k := by omega
      go_wp2
      (try simp only [Exit.inBlock, Exit.then])
      refine bodyPost_ret (v := .tuple #[.pointer (some ⟨p, 0, none⟩), .int .i64 n, .int .i64 0]) (by simp [results, Tryz.results19, go_sem]) rfl ?_
      exact ⟨Or.inr ⟨hOK.out, p, F, v0, v1, b2, b3, rfl, hT, hFb⟩, hB⟩

end Go.Proofs.YtdpmjaelbjjanaaGreat
