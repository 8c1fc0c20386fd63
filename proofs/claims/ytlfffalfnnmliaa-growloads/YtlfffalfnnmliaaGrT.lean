/- Texts in memory, for tables that are told by their bytes; the law's Texts and few. -/
import Derived.Test.YtlfffalfnnmliaaGrM
import Derived.Test.YtlfffalfnnmliaaTkR
import Derived.BigQuiet
import Derived.Lib.AppendZeros
import Derived.Deep.AppendLies
import Derived.Laws.OwnMore
namespace Go.Proofs.Ytlfffalfnnmliaa
open Go.RowKit
set_option linter.unusedVariables false
set_option linter.unusedSimpArgs false

theorem info_textG : (Try.prog.info? 9).map (fun i => (i.zero, i.size, i.bytes)) = some (some (.string ⟨#[]⟩), 1, 16) := by kernel_rfl
/-- Texts that are read. -/
def RdT (w : World) (ao : Option Addr) (n : Nat) (l : List ByteArray) : Prop := l.length = n ∧ (n = 0 ∨ ∃ b off, ao = some ⟨b, off, none⟩ ∧ b < w.heap.size ∧ ∀ i, i < n → w.cell? ⟨b, off + i, none⟩ = some (.string (gT l i)))
theorem RdT.kept {w w' : World} {ao : Option Addr} {n : Nat} {l : List ByteArray} (h : RdT w ao n l) (hb : Below w.heap.size w w') : RdT w' ao n l := by
  refine ⟨h.1, ?_⟩
  rcases h.2 with h0 | ⟨b, off, rfl, hlt, hc⟩
  · exact Or.inl h0
  · exact Or.inr ⟨b, off, rfl, Nat.lt_of_lt_of_le hlt hb.size, fun i hi => (hb.cell hlt).trans (hc i hi)⟩
theorem RdT.take {w : World} {ao : Option Addr} {n : Nat} {l : List ByteArray} (h : RdT w ao n l) {m : Nat} (hm : m ≤ n) : RdT w ao m (l.take m) := by
  refine ⟨by rw [List.length_take, h.1]; omega, ?_⟩
  rcases h.2 with h0 | ⟨b, off, rfl, hlt, hc⟩
  · exact Or.inl (by omega)
  · refine Or.inr ⟨b, off, rfl, hlt, fun i hi => ?_⟩
    rw [hc i (by omega)]
    congr 2
    unfold gT
    rw [List.getD_eq_getElem?_getD, List.getD_eq_getElem?_getD, List.getElem?_take_of_lt hi]

set_option maxRecDepth 20000 in
set_option maxHeartbeats 4000000 in
/-- The same texts twice. -/
theorem texts_same (w : World) (a1 a2 : Option Addr) (n c1 c2 : Nat) (l : List ByteArray) (ha : RdT w a1 n l) (hb : RdT w a2 n l) (hn : n ≤ 1000000) :
    Calls Try.prog 15 #[.slice a1 n c1, .slice a2 n c2] w fun e w' => e = .returned (.bool true) ∧ Below w.heap.size w w' := by
  have HA := hide ha
  have HB := hide hb
  clear ha hb
  go_enter Try.func15, Try.ntmps15
  go_wp2
  go_loopw [5] (fun i wr => ∃ (k : Nat), i = .int .i64 k ∧ k ≤ n ∧ Hid (Below w.heap.size w wr)) (fun i _ => n - (intOf i).toNat)
  case atStart => exact ⟨0, rfl, Nat.zero_le _, hide (Below.refl _ _)⟩
  case round =>
    obtain ⟨k, rfl, hk, HBl⟩ := hrel
    by_cases hlt : k < n
    · have hk0 : (0 : Int) ≤ (k : Int) := by omega
      have hk1 : (k : Int) < (n : Int) := by omega
      rcases (HA.out.kept HBl.out).2 with h0 | ⟨b, off, rfl, hgl, hc⟩
      · omega
      rcases (HB.out.kept HBl.out).2 with h0 | ⟨b', off', rfl, hgl', hc'⟩
      · omega
      have c0 := hc k hlt
      have c0' := hc' k hlt
      clear hc hc'
      generalize gT l k = x at *
      go_wp2
      go_quiet (fail)
      have HD : Hid (Below w.heap.size w (wr.drewN nq)) := hide (HBl.out.trans ⟨rfl, rfl, rfl, Nat.le_refl _, fun _ _ => rfl⟩)
      clear c0 c0'
      generalize wr.drewN nq = wd at *
      go_wp2
      exact ⟨⟨k + 1, by go_num, by omega, HD⟩, by simp [intOf]; omega⟩
    · obtain rfl : k = n := by omega
      go_wp2
      go_ret
      exact ⟨rfl, HBl.out⟩

/-- A text more. -/
theorem appS (w : World) (base : Nat) (ao : Option Addr) (n cap : Nat) (l : List ByteArray) (x : ByteArray) (h : w.ownsRow base 9 1 (.slice ao n cap) n (l.map Value.string)) (hn : n ≤ 1000000) (hb : base ≤ w.heap.size) :
    ∃ g cap1 w1, (Builtin.append_ #[22, 22] 22 #[.slice ao n cap, .slice (some ⟨w.heap.size, 0, none⟩) 1 1]).run Try.prog (w.alloc (.cells #[.string x] 9)) = .ok (.slice (some ⟨g, 0, none⟩) (n + 1) cap1) w1 ∧ w1.ownsRow base 9 1 (.slice (some ⟨g, 0, none⟩) (n + 1) cap1) (n + 1) ((l ++ [x]).map Value.string) ∧ Below base w w1 := by
  obtain ⟨i0, hi, hz0, hz1, hz2⟩ := info_parts info_textG
  obtain ⟨g, cap1, w1, hrun, hown, hgrow, _, _⟩ := run_append_lies (P := Try.prog) (w.alloc (.cells #[.string x] 9)) 22 22 base 9 i0 _ 1 16 Try.underlying22 hi hz0 hz1 hz2 rfl (by omega) (.slice ao n cap) n (l.map Value.string) (h.alloc _) ⟨w.heap.size, 0, none⟩ 1 1 [.string x] rfl (World.news_of_block (heap_alloc_new w _)) (by simp [Value.oneCell']) (by omega) (by unfold maxLen; omega) (by omega) (by simp; omega) (w.heap.size + 1) (by simp)
  have e : (l ++ [x]).map Value.string = l.map Value.string ++ [.string x] := by simp
  refine ⟨g, cap1, w1, hrun, by rw [e]; exact hown, ?_⟩
  have h1 : Below base w (w.alloc (.cells #[.string x] 9)) := ((Below.refl _ _).alloc (Nat.le_refl _) _).mono hb
  exact h1.trans ⟨hgrow.os, hgrow.tape, hgrow.output, hgrow.size, fun k hk => hgrow.block k (by simp; omega) (fun e => by have := (h.lt k e.symm).1; omega)⟩
theorem RdT.row {w : World} {base : Nat} {ao : Option Addr} {n cap : Nat} {l : List ByteArray} (h : w.ownsRow base 9 1 (.slice ao n cap) n (l.map Value.string)) (hl : l.length = n) : RdT w ao n l := by
  refine ⟨hl, ?_⟩
  rcases Nat.eq_zero_or_pos n with h0 | h0
  · exact Or.inl h0
  obtain ⟨g, cap', e, hb, hg⟩ := h.form h0
  simp only [Value.slice.injEq] at e
  obtain ⟨rfl, -, rfl⟩ := e
  refine Or.inr ⟨g, 0, rfl, hg, fun i hi => ?_⟩
  rw [Nat.zero_add, h.cellAt i (by omega)]
  have : i < l.length := by omega
  simp [gT, this]

/-- Few texts, and none is long. -/
def fewP (l : List ByteArray) : Prop := l.length ≤ 40 ∧ ∀ x ∈ l, x.size ≤ 100
set_option maxRecDepth 20000 in
set_option maxHeartbeats 4000000 in
theorem few_any (w : World) (ao : Option Addr) (n cap : Nat) (l : List ByteArray) (h : RdT w ao n l) (hn : n ≤ 9223372036854775807) :
    Calls Try.prog 9 #[.slice ao n cap] w fun e w' => ((e = .returned (.bool true) ∧ fewP l) ∨ (e = .returned (.bool false) ∧ ¬ fewP l)) ∧ w' = w := by
  have HL := hide h.1
  have HR := hide h
  clear h
  go_enter Try.func9, Try.ntmps9
  go_wp2
  go_loop [3] (fun i => ∃ (k : Nat), i = .int .i64 k ∧ k ≤ n ∧ Hid (∀ j, j < k → (gT l j).size ≤ 100)) (fun i => n - (intOf i).toNat)
  case atStart => exact ⟨0, rfl, Nat.zero_le _, hide (fun j hj => by omega)⟩
  case round =>
    obtain ⟨k, rfl, hk, HK⟩ := hrel
    by_cases hlt : k < n
    · have hk0 : (0 : Int) ≤ (k : Int) := by omega
      have hk1 : (k : Int) < (n : Int) := by omega
      rcases HR.out.2 with h0 | ⟨b, off, rfl, hbl, hcc⟩
      · omega
      have c0 := hcc k hlt
      have HM : Hid (gT l k ∈ l) := hide (by unfold gT; rw [List.getD_eq_getElem?_getD, List.getElem?_eq_getElem (by rw [HL.out]; exact hlt)]; exact List.getElem_mem _)
      have HN : Hid ((gT l k).size ≤ 100 → ∀ j, j < k + 1 → (gT l j).size ≤ 100) := hide (fun h j hj => by by_cases e : j = k; · { rw [e]; exact h }; · { exact HK.out j (by omega) })
      clear hcc
      generalize gT l k = x at *
      by_cases hx : 100 < x.size
      · have hx1 : (100 : Int) < (x.size : Int) := by omega
        go_wp2
        go_ret
        exact ⟨Or.inr ⟨rfl, fun h => by have := h.2 _ HM.out; omega⟩, rfl⟩
      · have hx1 : ¬ (100 : Int) < (x.size : Int) := by omega
        have HF := hide (HN.out (by omega))
        go_wp2
        go_round
        case rel => exact ⟨k + 1, by go_num, by omega, HF⟩
        case measure => simp [intOf]; omega
    · obtain rfl : k = n := by omega
      have HALL : Hid (∀ x ∈ l, x.size ≤ 100) := hide (fun x hx => by
        obtain ⟨j, hj, e⟩ := List.getElem_of_mem hx
        have := HK.out j (by rw [← HL.out]; exact hj)
        unfold gT at this
        rw [List.getD_eq_getElem?_getD, List.getElem?_eq_getElem hj] at this
        rw [← e]
        exact this)
      by_cases h40 : k ≤ 40
      · have h1 : (k : Int) ≤ 40 := by omega
        go_wp2
        go_ret
        exact ⟨Or.inl ⟨by simp [h40], by rw [HL.out]; exact h40, HALL.out⟩, rfl⟩
      · have h1 : ¬ (k : Int) ≤ 40 := by omega
        go_wp2
        go_ret
        exact ⟨Or.inr ⟨by first | (simp; done) | (simp; omega), fun h => h40 (by rw [← HL.out]; exact h.1)⟩, rfl⟩

end Go.Proofs.Ytlfffalfnnmliaa
