/- A step in a trie, that makes what isn't there. -/
import Derived.Test.YtadbffphmmkljaaTrA
namespace Go.Proofs.Ytadbffphmmkljaa
open Go.RowKit Go.Maps
set_option linter.unusedVariables false
set_option linter.unusedSimpArgs false

theorem look_none (c : UInt8) (w : World) : (Instr.lookup 55 (.map none) (.int .u8 (c.toNat : Int)) false).run Try.prog w = .ok (.pointer none) w := by
  have hk := keyB.check w true (kB_key c)
  rcases keyB.find w (kB_key c) [] (by simp) with ⟨h1, _⟩ | ⟨j, e0, _, h2, _⟩
  · simp [Instr.lookup, h1, run_underlying Try.underlying55, hk, zeroP, Result.andThen]
  · simp at h2
section
variable {B r : Nat} {bk mp : List UInt8 → Option Nat} {U : List UInt8 → Nat} {I : List UInt8 → Option Nat} {N C : Nat} {W W' : World}
/-- Whatever map a node has. -/
theorem TS.look (h : TS B r bk mp U I N C W) (t : List UInt8) (c : UInt8) : (Instr.lookup 55 (.map (mp t)) (.int .u8 (c.toNat : Int)) false).run Try.prog W = .ok (pN (bk (t ++ [c]))) W := by
  cases e : mp t with
  | none => rw [look_none, h.noM t e c]; rfl
  | some mb => exact (h.map t mb e).look c
end
/-- What comes of a step. -/
def StP (B r : Nat) (bk : List UInt8 → Option Nat) (U : List UInt8 → Nat) (I : List UInt8 → Option Nat) (N C : Nat) (t : List UInt8) (c : UInt8) (w : World) (e : Ending) (w' : World) : Prop :=
  ∃ bk' mp' b', e = .returned (.tuple #[.pointer (some ⟨b', 0, none⟩), .bool (bk (t ++ [c])).isNone]) ∧ TS B r bk' mp' U I (N + 1) C w' ∧ bk' (t ++ [c]) = some b' ∧ (∀ s, s ≠ t ++ [c] → bk' s = bk s) ∧ Below B w w'

set_option maxRecDepth 20000 in
theorem tstep_any {B r : Nat} {bk mp : List UInt8 → Option Nat} {U : List UInt8 → Nat} {I : List UInt8 → Option Nat} {N C : Nat} {w : World} (h : TS B r bk mp U I N C w) (hB : B ≤ w.heap.size) (hN : N < 1000000) {t : List UInt8} {b : Nat} (ht : bk t = some b) (c : UInt8) (hU : bk (t ++ [c]) = none → U (t ++ [c]) = 0 ∧ I (t ++ [c]) = none) :
    Calls Try.prog 32 #[.pointer (some ⟨b, 0, none⟩), .int .u8 (c.toNat : Int)] w (StP B r bk U I N C t c w) := by
  have hn := h.node t b ht
  have hlk := h.look t c
  have c3 := hn.c3
  have HS := hide h
  cases hc : bk (t ++ [c]) with
  | some b' =>
    have HP : Hid (StP B r bk U I N C t c w (.returned (.tuple #[.pointer (some ⟨b', 0, none⟩), .bool false])) w) := hide ⟨bk, mp, b', by rw [hc]; rfl, h.congr (fun _ _ => rfl) (fun _ _ => rfl) (by omega), hc, fun _ _ => rfl, Below.refl _ _⟩
    rw [hc] at hlk
    replace hlk : (Instr.lookup 55 (.map (mp t)) (.int .u8 (c.toNat : Int)) false).run Try.prog w = .ok (.pointer (some ⟨b', 0, none⟩)) w := hlk
    clear h hn hU HS
    generalize mp t = m at *
    go_enter Try.func32, Try.ntmps32
    go_wp2
    go_ret2
    exact HP.out
  | none =>
    obtain ⟨hU0, hI0⟩ := hU hc
    rw [hc] at hlk
    replace hlk : (Instr.lookup 55 (.map (mp t)) (.int .u8 (c.toNat : Int)) false).run Try.prog w = .ok (.pointer none) w := hlk
    cases hm : mp t with
    | some mb =>
      have hb0 := hn.lt
      have hl := Mk.low1 w (.cells #[.int .i64 0, .int .i64 0, .bool false, .map none] 57)
      have hnew := heap_alloc_new w (.cells #[.int .i64 0, .int .i64 0, .bool false, .map none] 57)
      have hM := (h.map t mb hm).keep (hl.block mb (h.map t mb hm).lt)
      obtain ⟨w2, hup, hM2, hg⟩ := hM.put hN c w.heap.size
      have hz : (w.alloc (.cells #[.int .i64 0, .int .i64 0, .bool false, .map none] 57)).heap.size = w.heap.size + 1 := by simp
      have hmb := (h.map t mb hm).lt
      have hq : w2.heap[w.heap.size]? = some (.cells #[.int .i64 0, .int .i64 0, .bool false, .map none] 57 (0, 0)) := by
        rw [hg.block w.heap.size (by rw [hz]; omega) (by simp; omega)]
        exact hnew
      have hT := h.newNode (W' := w2) hB hm hc hU0 hI0 (NdA.of hq) (by have := hg.size; omega) (fun k hk hkm => by rw [hg.block k (by rw [hz]; omega) (by simp; omega)]; exact hl.block k hk) hM2
      have hmlow := h.low t mb (Or.inr hm)
      have HP : Hid (StP B r bk U I N C t c w (.returned (.tuple #[.pointer (some ⟨w.heap.size, 0, none⟩), .bool true])) w2) := hide ⟨_, _, w.heap.size, by rw [hc]; rfl, hT, by simp, fun s hs => if_neg hs, (hl.mono hB).trans ⟨hg.os, hg.tape, hg.output, hg.size, fun k hk => hg.block k (by rw [hz]; omega) (by simp; omega)⟩⟩
      have c3' : (w.alloc (.cells #[.int .i64 0, .int .i64 0, .bool false, .map none] 57)).cell? ⟨b, 3, none⟩ = some (.map (some mb)) := by
        rw [World.cell?_alloc_past _ _ _ hb0, c3, hm]
      rw [hm] at hlk c3
      clear h hn hU HS hl hnew hM hM2 hg hz hq hT hmlow
      go_enter Try.func32, Try.ntmps32
      have heq : (binOp .eql 55 (.map (some mb)) (.map none)).run Try.prog w = .ok (.bool false) w := by kernel_rfl
      go_wp2
      go_ret2
      exact HP.out
    | none =>
      have hb0 := hn.lt
      have hT1 := h.newMap hB ht hm
      have hz1 : ((w.setCell ⟨b, 3, none⟩ (.map (some w.heap.size))).alloc (.map #[] 0)).heap.size = w.heap.size + 1 := by simp
      have hB1 : Below B w ((w.setCell ⟨b, 3, none⟩ (.map (some w.heap.size))).alloc (.map #[] 0)) := by
        have hlow := h.low t b (Or.inl ht)
        have h1 : Below B w (w.setCell ⟨b, 3, none⟩ (.map (some w.heap.size))) := ⟨rfl, rfl, rfl, by simp, fun k hk => set_other w b 3 _ (by omega)⟩
        exact h1.trans ((Mk.low1 _ _).mono (by simp; exact hB))
      have c3' : ((w.setCell ⟨b, 3, none⟩ (.map (some w.heap.size))).alloc (.map #[] 0)).cell? ⟨b, 3, none⟩ = some (.map (some w.heap.size)) := by
        have := (hT1.node t b ht).c3
        rwa [if_pos rfl] at this
      generalize hw1 : (w.setCell ⟨b, 3, none⟩ (.map (some w.heap.size))).alloc (.map #[] 0) = w1 at *
      have hl := Mk.low1 w1 (.cells #[.int .i64 0, .int .i64 0, .bool false, .map none] 57)
      have hnew := heap_alloc_new w1 (.cells #[.int .i64 0, .int .i64 0, .bool false, .map none] 57)
      have hM0 := hT1.map t w.heap.size (if_pos rfl)
      have hmb := hM0.lt
      have hM := hM0.keep (hl.block _ hmb)
      obtain ⟨w2, hup, hM2, hg⟩ := hM.put hN c w1.heap.size
      have hz : (w1.alloc (.cells #[.int .i64 0, .int .i64 0, .bool false, .map none] 57)).heap.size = w1.heap.size + 1 := by simp
      have hq : w2.heap[w1.heap.size]? = some (.cells #[.int .i64 0, .int .i64 0, .bool false, .map none] 57 (0, 0)) := by
        rw [hg.block w1.heap.size (by rw [hz]; omega) (by simp; omega)]
        exact hnew
      have hT := hT1.newNode (W' := w2) (by omega) (if_pos rfl) hc hU0 hI0 (NdA.of hq) (by have := hg.size; omega) (fun k hk hkm => by rw [hg.block k (by rw [hz]; omega) (by simp; omega)]; exact hl.block k hk) hM2
      have HP : Hid (StP B r bk U I N C t c w (.returned (.tuple #[.pointer (some ⟨w1.heap.size, 0, none⟩), .bool true])) w2) := hide ⟨_, _, w1.heap.size, by rw [hc]; rfl, hT, by simp, fun s hs => if_neg hs, hB1.trans ((hl.mono (by omega)).trans ⟨hg.os, hg.tape, hg.output, hg.size, fun k hk => hg.block k (by rw [hz]; omega) (by simp; omega)⟩)⟩
      have hz3 : w.frozen? ⟨b, 3, none⟩ = false := hn.fz 3
      have c3a : (w1.alloc (.cells #[.int .i64 0, .int .i64 0, .bool false, .map none] 57)).cell? ⟨b, 3, none⟩ = some (.map (some w.heap.size)) := by
        rw [World.cell?_alloc_past _ _ _ (by omega)]; exact c3'
      rw [hm] at hlk c3
      have heq : (binOp .eql 55 (.map none) (.map none)).run Try.prog w = .ok (.bool true) w := by kernel_rfl
      clear h hn hU HS hl hnew hM hM2 hg hz hq hT hT1 hM0 hmb hB1
      go_enter Try.func32, Try.ntmps32
      have hmm := @run_makeMap Try.prog
      rw [hz1] at hup HP
      go_wp2
      go_ret2
      exact HP.out
end Go.Proofs.Ytadbffphmmkljaa
