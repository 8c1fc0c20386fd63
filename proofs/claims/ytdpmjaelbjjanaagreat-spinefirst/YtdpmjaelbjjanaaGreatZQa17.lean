/- Contracts of a heap of pairs: New, Len, Push, Peek, Pop, Clear. Contracts of a heap of pairs: Push. -/
import Derived.Test.YtdpmjaelbjjanaaGreatZQa16
import Derived.Deep.RegionLaw
namespace Go.Proofs.YtdpmjaelbjjanaaGreat.Hq
open Go.RowKit Go.Proofs.YtdpmjaelbjjanaaGreat
set_option linter.unusedVariables false
set_option linter.unusedSimpArgs false
attribute [local go_sem ↓] Go.wp_at_zero Go.wp_at_succ

theorem cell_old (w : World) (o : Obj) {b off : Nat} (hb : b < w.heap.size) : (w.alloc o).cell? ⟨b, off, none⟩ = w.cell? ⟨b, off, none⟩ := bcell ((Below.refl _ _).alloc (Nat.le_refl _) o) hb
theorem frozen_old (w : World) (o : Obj) {b off : Nat} (hb : b < w.heap.size) : (w.alloc o).frozen? ⟨b, off, none⟩ = w.frozen? ⟨b, off, none⟩ := bfrozen ((Below.refl _ _).alloc (Nat.le_refl _) o) hb

theorem new_any (w : World) :
    Calls Tryz.prog 162 #[] w fun e w' => ∃ p, e = .returned (.pointer (some ⟨p, 0, none⟩)) ∧ HAt 267 279 w.heap.size p (.slice none 0 0) 0 [] w' ∧ Below w.heap.size w w' := by
  go_enter Tryz.func162, Tryz.ntmps162
  go_wp2
  go_ret
  refine ⟨_, rfl, ⟨heap_alloc_new w _, World.ownsRow_nil _ _ _ _, by simp [Value.ownBlock], Nat.le_refl _⟩, (Below.refl _ _).alloc (Nat.le_refl _) _⟩

theorem len_any (base p : Nat) (v : Value) (tn : Int) (l : List It) (w : World) (h : HAt 267 279 base p v tn l w) :
    Calls Tryz.prog 184 #[.pointer (some ⟨p, 0, none⟩)] w fun e w' => e = .returned (.int .i64 l.length) ∧ w' = w := by
  obtain ⟨ao, cap, rfl, _⟩ := h.form
  have hp0 := h.cell0
  obtain ⟨n, hln⟩ : ∃ n, l.length = n := ⟨_, rfl⟩
  rw [hln] at hp0
  have HL := hide hln
  clear hln h
  go_enter Tryz.func184, Tryz.ntmps184
  go_wp2
  go_ret
  exact ⟨by rw [HL.out]; rfl, rfl⟩

def Z4 : Value := .agg #[.int .i64 0, .int .i64 0, .int .i64 0, .int .i64 0]
def V4 (a : It) : Value := .agg #[.int .i64 a.x1, .int .i64 a.x2, .int .i64 a.x3, .int .i64 a.x4]
theorem low1 (w : World) (o : Obj) : Below w.heap.size w (w.alloc o) := (Below.refl _ _).alloc (Nat.le_refl _) o

set_option maxRecDepth 20000 in
set_option maxHeartbeats 1000000 in
theorem peek_none (base p : Nat) (v : Value) (tn : Int) (w : World) (h : HAt 267 279 base p v tn [] w) :
    Calls Tryz.prog 173 #[.pointer (some ⟨p, 0, none⟩)] w fun e w' => e = .returned (.tuple #[Z4, .int .i64 0, .int .i64 0, .bool false]) ∧ Below w.heap.size w w' := by
  have hl := low1 w (.cells #[.int .i64 0, .int .i64 0, .int .i64 0, .int .i64 0] 251)
  have HLn := hide (len_any base p v tn [] _ (h.kept hl))
  go_enter Tryz.func173, Tryz.ntmps173
  go_wp2_with fail
  refine (unhide HLn).mono ?_
  rintro e w' ⟨rfl, hw⟩
  subst hw
  go_wp2
  (try simp only [Exit.inBlock, Exit.then])
  refine bodyPost_ret (v := .tuple #[Z4, .int .i64 0, .int .i64 0, .bool false]) (by simp [Z4, results, Tryz.results173, go_sem]) rfl ⟨rfl, ?_⟩
  repeat' (first | exact hl | refine Below.setCell ?_ ?_ _ | refine Below.alloc ?_ ?_ _ | exact Nat.le_refl _ | simp)

set_option maxRecDepth 20000 in
set_option maxHeartbeats 4000000 in
theorem peek_some (base p : Nat) (v : Value) (tn : Int) (l : List It) (w : World) (h : HAt 267 279 base p v tn l w) (h0 : 0 < l.length) :
    Calls Tryz.prog 173 #[.pointer (some ⟨p, 0, none⟩)] w fun e w' => e = .returned (.tuple #[V4 (gi l 0), .int .i64 (gi l 0).r, .int .i64 (gi l 0).p, .bool true]) ∧ Below w.heap.size w w' := by
  have hl := low1 w (.cells #[.int .i64 0, .int .i64 0, .int .i64 0, .int .i64 0] 251)
  have hx : (w.alloc (.cells #[.int .i64 0, .int .i64 0, .int .i64 0, .int .i64 0] 251)).heap[w.heap.size]? = some (.cells #[.int .i64 0, .int .i64 0, .int .i64 0, .int .i64 0] 251 (0, 0)) := heap_alloc_new w _
  have h1 := h.kept hl
  have hzz : w.heap.size < (w.alloc (.cells #[.int .i64 0, .int .i64 0, .int .i64 0, .int .i64 0] 251)).heap.size := by simp
  have HLn := hide (len_any base p v tn l _ h1)
  obtain ⟨g, cap, rfl, hg, hbg, hgp, hc1, hc2⟩ := h1.pos h0
  obtain ⟨j0, j1, j2, j3, j4, j5, j6⟩ := h1.at (show 0 < l.length by omega)
  simp only [Nat.zero_mul, Nat.zero_add] at j0 j1 j2 j3 j4 j5 j6
  have hp0 := h1.cell0
  obtain ⟨a, ha⟩ : ∃ a, gi l 0 = a := ⟨_, rfl⟩
  rw [ha] at j0 j1 j2 j3 j4 j5 j6 ⊢
  have hne : ((l.length : Int) == 0) = false := by simp; intro e; simp [e] at h0
  have hl1 : (0 : Int) < (l.length : Int) := by omega
  have hpl := h1.lt
  clear h ha h1
  go_enter Tryz.func173, Tryz.ntmps173
  go_wp2_with fail
  refine (unhide HLn).mono ?_
  rintro e w' ⟨rfl, hw⟩
  clear HLn
  generalize w.alloc (.cells #[.int .i64 0, .int .i64 0, .int .i64 0, .int .i64 0] 251) = w0 at *
  have hw2 := hw.symm
  clear hw
  subst hw2
  have r0 : w0.cell? ⟨w.heap.size, 0, none⟩ = some (.int .i64 0) := by simp [World.cell?, hx]
  have r1 : w0.cell? ⟨w.heap.size, 1, none⟩ = some (.int .i64 0) := by simp [World.cell?, hx]
  have r2 : w0.cell? ⟨w.heap.size, 2, none⟩ = some (.int .i64 0) := by simp [World.cell?, hx]
  have r3 : w0.cell? ⟨w.heap.size, 3, none⟩ = some (.int .i64 0) := by simp [World.cell?, hx]
  have rf : ∀ q, w0.frozen? ⟨w.heap.size, q, none⟩ = false := fun q => by simp [World.frozen?, hx]
  have n1 : w.heap.size ≠ w0.heap.size := by omega
  have n2 : w0.heap.size ≠ w.heap.size := by omega
  clear hx
  go_wp2
  go_region
  go_wp2
  (try simp only [Exit.inBlock, Exit.then])
  have e0 : ∀ o, (World.alloc ((((w0.setCell ⟨w.heap.size, 0, none⟩ (.int .i64 a.x1)).setCell ⟨w.heap.size, 1, none⟩ (.int .i64 a.x2)).setCell ⟨w.heap.size, 2, none⟩ (.int .i64 a.x3)).setCell ⟨w.heap.size, 3, none⟩ (.int .i64 a.x4)) o).cell? ⟨w.heap.size, 0, none⟩ = some (.int .i64 a.x1) := fun o => (cell_old _ o (by simpa using hzz)).trans (by simp [go_sem, r0, r1, r2, r3])
  have e1 : ∀ o, (World.alloc ((((w0.setCell ⟨w.heap.size, 0, none⟩ (.int .i64 a.x1)).setCell ⟨w.heap.size, 1, none⟩ (.int .i64 a.x2)).setCell ⟨w.heap.size, 2, none⟩ (.int .i64 a.x3)).setCell ⟨w.heap.size, 3, none⟩ (.int .i64 a.x4)) o).cell? ⟨w.heap.size, 1, none⟩ = some (.int .i64 a.x2) := fun o => (cell_old _ o (by simpa using hzz)).trans (by simp [go_sem, r0, r1, r2, r3])
  have e2 : ∀ o, (World.alloc ((((w0.setCell ⟨w.heap.size, 0, none⟩ (.int .i64 a.x1)).setCell ⟨w.heap.size, 1, none⟩ (.int .i64 a.x2)).setCell ⟨w.heap.size, 2, none⟩ (.int .i64 a.x3)).setCell ⟨w.heap.size, 3, none⟩ (.int .i64 a.x4)) o).cell? ⟨w.heap.size, 2, none⟩ = some (.int .i64 a.x3) := fun o => (cell_old _ o (by simpa using hzz)).trans (by simp [go_sem, r0, r1, r2, r3])
  have e3 : ∀ o, (World.alloc ((((w0.setCell ⟨w.heap.size, 0, none⟩ (.int .i64 a.x1)).setCell ⟨w.heap.size, 1, none⟩ (.int .i64 a.x2)).setCell ⟨w.heap.size, 2, none⟩ (.int .i64 a.x3)).setCell ⟨w.heap.size, 3, none⟩ (.int .i64 a.x4)) o).cell? ⟨w.heap.size, 3, none⟩ = some (.int .i64 a.x4) := fun o => (cell_old _ o (by simpa using hzz)).trans (by simp [go_sem, r0, r1, r2, r3])
  refine bodyPost_ret (v := .tuple #[V4 a, .int .i64 a.r, .int .i64 a.p, .bool true]) (by simp [V4, results, Tryz.results173, go_sem, e0, e1, e2, e3]) rfl ⟨rfl, ?_⟩
  have hz := hl.size
  repeat' (first | exact hl | refine Below.drew ?_ | refine Below.setCell ?_ ?_ _ | refine Below.alloc ?_ ?_ _ | exact Nat.le_refl _ | omega | simp)

set_option maxRecDepth 20000 in
set_option maxHeartbeats 1000000 in
theorem pop_none (base p : Nat) (v : Value) (tn : Int) (w : World) (h : HAt 267 279 base p v tn [] w) :
    Calls Tryz.prog 164 #[.pointer (some ⟨p, 0, none⟩)] w fun e w' => e = .returned (.tuple #[Z4, .int .i64 0, .int .i64 0, .bool false]) ∧ Below w.heap.size w w' := by
  have hl := low1 w (.cells #[.int .i64 0, .int .i64 0, .int .i64 0, .int .i64 0] 251)
  have hx : (w.alloc (.cells #[.int .i64 0, .int .i64 0, .int .i64 0, .int .i64 0] 251)).heap[w.heap.size]? = some (.cells #[.int .i64 0, .int .i64 0, .int .i64 0, .int .i64 0] 251 (0, 0)) := heap_alloc_new w _
  have hzz : w.heap.size < (w.alloc (.cells #[.int .i64 0, .int .i64 0, .int .i64 0, .int .i64 0] 251)).heap.size := by simp
  have HLn := hide (peek_none base p v tn _ (h.kept hl))
  clear h
  go_enter Tryz.func164, Tryz.ntmps164
  go_wp2_with fail
  refine (unhide HLn).mono ?_
  rintro e w1 ⟨rfl, hb⟩
  clear HLn
  generalize w.alloc (.cells #[.int .i64 0, .int .i64 0, .int .i64 0, .int .i64 0] 251) = w0 at *
  have hx1 := (hb.block _ hzz).trans hx
  have hz := hb.size
  have hx2 : ∀ o, (w1.alloc o).heap[w.heap.size]? = some (.cells #[.int .i64 0, .int .i64 0, .int .i64 0, .int .i64 0] 251 (0, 0)) := fun o => (Below.heap_alloc w1 o _ (by omega)).trans hx1
  have rr : ∀ o q, q < 4 → (w1.alloc o).cell? ⟨w.heap.size, q, none⟩ = some (.int .i64 0) := fun o q hq => by
    rcases (show q = 0 ∨ q = 1 ∨ q = 2 ∨ q = 3 by omega) with rfl | rfl | rfl | rfl <;> simp [World.cell?, hx2]
  have r0 := fun o => rr o 0 (by omega)
  have r1 := fun o => rr o 1 (by omega)
  have r2 := fun o => rr o 2 (by omega)
  have r3 := fun o => rr o 3 (by omega)
  have rf : ∀ o q, (w1.alloc o).frozen? ⟨w.heap.size, q, none⟩ = false := fun o q => by simp [World.frozen?, hx2]
  have n1 : w.heap.size ≠ w1.heap.size := by omega
  have n2 : w1.heap.size ≠ w.heap.size := by omega
  clear hx hx1 hx2 rr
  unfold Z4
  go_wp2
  (try simp only [Exit.inBlock, Exit.then])
  refine bodyPost_ret (v := .tuple #[Z4, .int .i64 0, .int .i64 0, .bool false]) (by simp [Z4, results, Tryz.results164, go_sem, r0, r1, r2, r3, rf]) rfl ⟨rfl, ?_⟩
  have hb2 := hl.trans (hb.mono hl.size)
  have hz2 := hb2.size
  repeat' (first | exact hb2 | refine Below.setCell ?_ ?_ _ | refine Below.alloc ?_ ?_ _ | exact Nat.le_refl _ | omega | simp)

set_option maxRecDepth 20000 in
set_option maxHeartbeats 2000000 in
theorem pop_some (base p : Nat) (v : Value) (tn : Int) (l : List It) (w : World) (h : HAt 267 279 base p v tn l w) (hHp : Hp l) (h0 : 0 < l.length) (hn : l.length ≤ 1000000) :
    Calls Tryz.prog 164 #[.pointer (some ⟨p, 0, none⟩)] w fun e w' => e = .returned (.tuple #[V4 (gi l 0), .int .i64 (gi l 0).r, .int .i64 (gi l 0).p, .bool true]) ∧ ∃ v' l', HAt 267 279 base p v' tn l' w' ∧ Hp l' ∧ l'.Perm l.tail ∧ Fr p v w w' ∧ v'.ownBlock = v.ownBlock := by
  have hl := low1 w (.cells #[.int .i64 0, .int .i64 0, .int .i64 0, .int .i64 0] 251)
  have hx : (w.alloc (.cells #[.int .i64 0, .int .i64 0, .int .i64 0, .int .i64 0] 251)).heap[w.heap.size]? = some (.cells #[.int .i64 0, .int .i64 0, .int .i64 0, .int .i64 0] 251 (0, 0)) := heap_alloc_new w _
  have hzz : w.heap.size < (w.alloc (.cells #[.int .i64 0, .int .i64 0, .int .i64 0, .int .i64 0] 251)).heap.size := by simp
  have hp0 := h.lt
  have hv0 : ∀ k, v.ownBlock = some k → k < w.heap.size := fun k e => (h.row.lt k e).2
  have h1 := h.kept hl
  have HLn := hide (peek_some base p v tn l _ h1 h0)
  obtain ⟨a, ha⟩ : ∃ a, gi l 0 = a := ⟨_, rfl⟩
  rw [ha] at HLn ⊢
  clear ha h
  go_enter Tryz.func164, Tryz.ntmps164
  go_wp2_with fail
  refine (unhide HLn).mono ?_
  rintro e w1 ⟨rfl, hb⟩
  clear HLn
  unfold V4
  generalize w.alloc (.cells #[.int .i64 0, .int .i64 0, .int .i64 0, .int .i64 0] 251) = w0 at *
  have hz := hb.size
  have hl2 := low1 w1 (.cells #[.int .i64 a.x1, .int .i64 a.x2, .int .i64 a.x3, .int .i64 a.x4] 251)
  have h2 := (h1.kept hb).kept hl2
  have hx2 := (hl2.block _ (by omega)).trans ((hb.block _ hzz).trans hx)
  have hy2 : (w1.alloc (.cells #[.int .i64 a.x1, .int .i64 a.x2, .int .i64 a.x3, .int .i64 a.x4] 251)).heap[w1.heap.size]? = some (.cells #[.int .i64 a.x1, .int .i64 a.x2, .int .i64 a.x3, .int .i64 a.x4] 251 (0, 0)) := heap_alloc_new w1 _
  have hB2 := (hl.trans (hb.mono hl.size)).trans (hl2.mono (hl.trans (hb.mono hl.size)).size)
  have hzw : w1.heap.size < (w1.alloc (.cells #[.int .i64 a.x1, .int .i64 a.x2, .int .i64 a.x3, .int .i64 a.x4] 251)).heap.size := by simp
  go_wp2_with fail
  generalize w1.alloc (.cells #[.int .i64 a.x1, .int .i64 a.x2, .int .i64 a.x3, .int .i64 a.x4] 251) = w2 at *
  refine (takeTop_any base p v tn l w2 h2 hHp h0 hn).mono ?_
  rintro e w3 ⟨rfl, v', l', hH, hH2, hP, hF, hv⟩
  have hx3 : w3.heap[w.heap.size]? = some (.cells #[.int .i64 0, .int .i64 0, .int .i64 0, .int .i64 0] 251 (0, 0)) := (hF.block _ (by omega) (by omega) (fun e => by have := hv0 _ e.symm; omega)).trans hx2
  have hy3 : w3.heap[w1.heap.size]? = some (.cells #[.int .i64 a.x1, .int .i64 a.x2, .int .i64 a.x3, .int .i64 a.x4] 251 (0, 0)) := (hF.block _ (by omega) (by omega) (fun e => by have := hv0 _ e.symm; omega)).trans hy2
  have rr : ∀ q, q < 4 → w3.cell? ⟨w.heap.size, q, none⟩ = some (.int .i64 0) := fun q hq => by
    rcases (show q = 0 ∨ q = 1 ∨ q = 2 ∨ q = 3 by omega) with rfl | rfl | rfl | rfl <;> simp [World.cell?, hx3]
  have r0 := rr 0 (by omega)
  have r1 := rr 1 (by omega)
  have r2 := rr 2 (by omega)
  have r3 := rr 3 (by omega)
  have rf : ∀ q, w3.frozen? ⟨w.heap.size, q, none⟩ = false := fun q => by simp [World.frozen?, hx3]
  have s0 : w3.cell? ⟨w1.heap.size, 0, none⟩ = some (.int .i64 a.x1) := by simp [World.cell?, hy3]
  have s1 : w3.cell? ⟨w1.heap.size, 1, none⟩ = some (.int .i64 a.x2) := by simp [World.cell?, hy3]
  have s2 : w3.cell? ⟨w1.heap.size, 2, none⟩ = some (.int .i64 a.x3) := by simp [World.cell?, hy3]
  have s3 : w3.cell? ⟨w1.heap.size, 3, none⟩ = some (.int .i64 a.x4) := by simp [World.cell?, hy3]
  have n1 : w.heap.size ≠ w1.heap.size := by omega
  have n2 : w1.heap.size ≠ w.heap.size := by omega
  have HB := hide hB2
  have HH := hide (And.intro hH (And.intro hH2 (And.intro hP (And.intro hF hv))))
  clear rr hx hx2 hy2 hx3 hy3 h1 h2 hb hl hl2 hB2 hH hH2 hP hF hv
  go_wp2
  (try simp only [Exit.inBlock, Exit.then])
  obtain ⟨hH, hH2, hP, hF, hv⟩ := HH.out
  refine bodyPost_ret (v := .tuple #[V4 a, .int .i64 a.r, .int .i64 a.p, .bool true]) (by simp [V4, results, Tryz.results164, go_sem, r0, r1, r2, r3, rf]) rfl ?_
  have hS : Fr p v w3 ((((w3.setCell ⟨w.heap.size, 0, none⟩ (.int .i64 a.x1)).setCell ⟨w.heap.size, 1, none⟩ (.int .i64 a.x2)).setCell ⟨w.heap.size, 2, none⟩ (.int .i64 a.x3)).setCell ⟨w.heap.size, 3, none⟩ (.int .i64 a.x4)) → True := fun _ => trivial
  have hne1 : p ≠ w.heap.size := by omega
  have hne2 : ∀ k, v'.ownBlock = some k → k ≠ w.heap.size := fun k e => by have := hv0 k (hv ▸ e); omega
  have key : ∀ (W : World) (q : Nat) (u : Value), HAt 267 279 base p v' tn l' W → HAt 267 279 base p v' tn l' (W.setCell ⟨w.heap.size, q, none⟩ u) := by
    intro W q u hW
    have hg : W.grownBy (W.setCell ⟨w.heap.size, q, none⟩ u) (some w.heap.size) := ⟨rfl, rfl, rfl, by simp, fun k hk hne => heap_setCell_other W ⟨w.heap.size, q, none⟩ k u (fun e => hne (by simp [e]))⟩
    exact ⟨(hg.block p hW.lt (by simp; exact hne1)).trans hW.st, hW.row.kept hg (Or.inr (fun e => hne2 _ e rfl)), hW.ne, hW.bp⟩
  refine ⟨rfl, v', l', key _ _ _ (key _ _ _ (key _ _ _ (key _ _ _ hH))), hH2, hP, ?_, hv⟩
  have hB := HB.out
  have hz3 := hF.size
  refine ⟨hF.os.trans hB.os, hF.tape.trans hB.tape, hF.output.trans hB.output, by have := hB.size; simp; omega, fun k hk hkp hkv => ?_⟩
  rw [heap_setCell_other _ _ _ _ (by simp; omega), heap_setCell_other _ _ _ _ (by simp; omega), heap_setCell_other _ _ _ _ (by simp; omega), heap_setCell_other _ _ _ _ (by simp; omega)]
  exact (hF.block k (by have := hB.size; omega) hkp hkv).trans (hB.block k hk)

end Go.Proofs.YtdpmjaelbjjanaaGreat.Hq

namespace Go.Proofs.YtdpmjaelbjjanaaGreat.Hq
open Go.RowKit Go.Proofs.YtdpmjaelbjjanaaGreat
set_option linter.unusedVariables false
set_option linter.unusedSimpArgs false
attribute [local go_sem ↓] Go.wp_at_zero Go.wp_at_succ

set_option maxRecDepth 20000 in
set_option maxHeartbeats 4000000 in
theorem push_any (base p : Nat) (v : Value) (tn : Int) (l : List It) (w : World) (h : HAt 267 279 base p v tn l w) (hHp : Hp l) (hn : l.length ≤ 900000) (ht : 0 ≤ tn ∧ tn ≤ 1000000000) (r q : Int) (y1 y2 y3 y4 : Int) (hbase : base ≤ w.heap.size) :
    Calls Tryz.prog 172 #[.pointer (some ⟨p, 0, none⟩), .int .i64 r, .int .i64 q, .agg #[.int .i64 y1, .int .i64 y2, .int .i64 y3, .int .i64 y4]] w fun e w' => e = .returned (.tuple #[]) ∧ ∃ v' l', HAt 267 279 base p v' (tn + 1) l' w' ∧ Hp l' ∧ l'.Perm (⟨r, q, tn, y1, y2, y3, y4⟩ :: l) ∧ Fr p v w w' ∧ Nw w v v' := by
  have hl := low1 w (.cells #[.int .i64 y1, .int .i64 y2, .int .i64 y3, .int .i64 y4] 251)
  have hx : (w.alloc (.cells #[.int .i64 y1, .int .i64 y2, .int .i64 y3, .int .i64 y4] 251)).heap[w.heap.size]? = some (.cells #[.int .i64 y1, .int .i64 y2, .int .i64 y3, .int .i64 y4] 251 (0, 0)) := heap_alloc_new w _
  have hzz : w.heap.size < (w.alloc (.cells #[.int .i64 y1, .int .i64 y2, .int .i64 y3, .int .i64 y4] 251)).heap.size := by simp
  have h1 := h.kept hl
  clear h
  generalize hW0 : w.alloc (.cells #[.int .i64 y1, .int .i64 y2, .int .i64 y3, .int .i64 y4] 251) = w0 at *
  have bx0 : w0.cell? ⟨w.heap.size, 0, none⟩ = some (.int .i64 y1) := by simp [World.cell?, hx]
  have bx1 : w0.cell? ⟨w.heap.size, 1, none⟩ = some (.int .i64 y2) := by simp [World.cell?, hx]
  have bx2 : w0.cell? ⟨w.heap.size, 2, none⟩ = some (.int .i64 y3) := by simp [World.cell?, hx]
  have bx3 : w0.cell? ⟨w.heap.size, 3, none⟩ = some (.int .i64 y4) := by simp [World.cell?, hx]
  have hbase0 : base ≤ w0.heap.size := by omega
  obtain ⟨i0, hi, hz0, hz1, hz2⟩ := info_parts info_item
  obtain ⟨ao, cap, rfl, hv1, hv2, hv3, hv4⟩ := h1.form
  have hp0 := h1.cell0
  have hp1 := h1.cell1
  have hfp := h1.fr
  have hlt := h1.lt
  obtain ⟨n, hln⟩ : ∃ n, l.length = n := ⟨_, rfl⟩
  rw [hln] at hp0 h1 hn hv3 ⊢
  have hrow := h1.row
  rw [hln] at hrow
  have H := hide h1
  have HL := hide hln
  have hl4 : (It.cells ⟨r, q, tn, y1, y2, y3, y4⟩).length = 1 * 7 := rfl
  have hone4 : ∀ u ∈ It.cells ⟨r, q, tn, y1, y2, y3, y4⟩, u.oneCell' = true := by
    intro u hu
    simp only [It.cells, List.mem_cons, List.not_mem_nil, or_false] at hu
    rcases hu with rfl | rfl | rfl | rfl | rfl | rfl | rfl <;> rfl
  have hpne : some p ≠ (Value.slice ao n cap).ownBlock := fun e => H.out.ne e.symm
  have hq0 : w0.heap.size ≠ p := by omega
  have hq1 : p ≠ w0.heap.size := by omega
  clear h1 hln hv1 hv2 hx
  go_enter Tryz.func172, Tryz.ntmps172
  go_wp2
  clear hW0
  go_region_law ((refine step_append_lies _ (by rfl) _ _ _ (by rfl) base 279 i0 _ 7 56 Tryz.underlying265 hi hz0 hz1 hz2 (by rfl) (by omega) _ n (flat l) (by rfl) (by first | exact (hrow.alloc _).drew | exact hrow.drew.alloc _) _ 1 _ (It.cells ⟨r, q, tn, y1, y2, y3, y4⟩) (by rfl) hl4 (by first | exact World.news_of_block (heap_alloc_new w0 _) | exact World.news_of_block (heap_alloc_new w0.drew _)) hone4 (by omega) (by unfold maxLen; omega) (by omega) (by simp; omega) (w0.heap.size + 1) (by simp) ?_; intro g cap1 w1 hown1 hgrow hat hlt1; have hc1 : w1.cell? ⟨p, 0, none⟩ = some (.slice ao n cap) := (hgrow.cell_far ⟨p, 0, none⟩ (by simp; omega) hpne).trans (by first | exact (cell_old w0 _ hlt).trans hp0 | exact (cell_old w0.drew _ hlt).trans hp0); have hc2 : w1.cell? ⟨p, 1, none⟩ = some (.int .i64 tn) := (hgrow.cell_far ⟨p, 1, none⟩ (by simp; omega) hpne).trans (by first | exact (cell_old w0 _ hlt).trans hp1 | exact (cell_old w0.drew _ hlt).trans hp1); have hf1 : w1.frozen? ⟨p, 0, none⟩ = false := (hgrow.frozen_far ⟨p, 0, none⟩ (by simp; omega) hpne).trans (by first | exact (frozen_old w0 _ hlt).trans (hfp 0) | exact (frozen_old w0.drew _ hlt).trans (hfp 0)); have hf2 : w1.frozen? ⟨p, 1, none⟩ = false := (hgrow.frozen_far ⟨p, 1, none⟩ (by simp; omega) hpne).trans (by first | exact (frozen_old w0 _ hlt).trans (hfp 1) | exact (frozen_old w0.drew _ hlt).trans (hfp 1))))
  all_goals
    obtain ⟨hH1, hF1, hN1⟩ := H.out.pushed HL.out ⟨r, q, tn, y1, y2, y3, y4⟩ _ hown1 hgrow hat (tn + 1)
    have HRI := hHp.pushed ⟨r, q, tn, y1, y2, y3, y4⟩
    rw [HL.out] at HRI
    clear hown1 hgrow hat
    go_wp2_with fail
    refine (rise_any base p _ (tn + 1) (l ++ [⟨r, q, tn, y1, y2, y3, y4⟩]) _ hH1 n HRI (by simp [HL.out]; omega)).mono ?_
    rintro e w2 ⟨rfl, l', hH2, hHp2, hP2, hF2⟩
    go_wp2
    go_end0
    exact ⟨rfl, _, l', hH2, hHp2, hP2.trans List.perm_append_comm, (Fr.ofBelow hl).trans (Nw.refl _ _) (hF1.trans hN1 hF2), (Nw.refl w _).trans hl.size hN1⟩

end Go.Proofs.YtdpmjaelbjjanaaGreat.Hq
