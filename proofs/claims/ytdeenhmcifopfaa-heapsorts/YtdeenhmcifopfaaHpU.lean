/- Contract of a heap of int: Drain. -/
import Derived.Test.YtdeenhmcifopfaaHpR
namespace Go.Proofs.Ytdeenhmcifopfaa
open Go.RowKit
set_option linter.unusedVariables false
set_option linter.unusedSimpArgs false

theorem info_int : (Try.prog.info? 3).map (fun i => (i.zero, i.size, i.bytes)) = some (some (.int .i64 0), 1, 8) := by kernel_rfl
def sliceLen : Value → Nat
  | .slice _ n _ => n
  | _ => 0

/-- None is less than one ahead of it. -/
def Sorted (L : List It) : Prop := L.Pairwise fun a b => ltB b a = false

theorem Sorted.snoc {L : List It} (h : Sorted L) (a : It) (hl : ∀ b ∈ L, ltB a b = false) : Sorted (L ++ [a]) := by
  unfold Sorted
  rw [List.pairwise_append]
  exact ⟨h, List.pairwise_singleton _ _, fun b hb c hc => by rw [List.mem_singleton.1 hc]; exact hl b hb⟩

theorem cons_tail (l : List It) (h : 0 < l.length) : l = gi l 0 :: l.tail := by
  cases l with
  | nil => simp at h
  | cons a r => simp [gi]

theorem Fr.grownNew {p : Nat} {v : Value} {w wr w3 : World} {row : Option Nat} (hF : Fr p v w wr) (hg : wr.grownBy w3 row) (hr : ∀ k, row = some k → w.heap.size ≤ k) : Fr p v w w3 :=
  ⟨hg.os.trans hF.os, hg.tape.trans hF.tape, hg.output.trans hF.output, Nat.le_trans hF.size hg.size, fun k hk hp hv => (hg.block k (Nat.lt_of_lt_of_le hk hF.size) (fun e => by have := hr k e.symm; omega)).trans (hF.block k hk hp hv)⟩

set_option maxRecDepth 20000 in
set_option maxHeartbeats 8000000 in
theorem drain_any (base p : Nat) (v : Value) (tn : Int) (l : List It) (w : World) (h : HAt 82 86 base p v tn l w) (hHp : Hp l) (hn : l.length ≤ 1000000) (hx : ∀ a ∈ l, ∃ z, a.x = .int .i64 z) :
    Calls Try.prog 17 #[.pointer (some ⟨p, 0, none⟩)] w fun e w' => ∃ nv v' L, e = .returned nv ∧ L.Perm l ∧ Sorted L ∧ w'.ownsRow w.heap.size 3 1 nv L.length (L.map It.x) ∧ HAt 82 86 base p v' tn [] w' ∧ Fr p v w w' := by
  obtain ⟨i0, hi, hz0, hz1, hz2⟩ := info_parts info_int
  go_enter Try.func17, Try.ntmps17
  go_wp2
  go_loopw [3] (fun c wr => ∃ (ao : Option Addr) (cap : Nat) (v1 : Value) (L l1 : List It), c = .slice ao L.length cap ∧ HAt 82 86 base p v1 tn l1 wr ∧ Hp l1 ∧ (L ++ l1).Perm l ∧ Sorted L ∧ (∀ a ∈ L, ∀ b ∈ l1, ltB b a = false) ∧ wr.ownsRow w.heap.size 3 1 (.slice ao L.length cap) L.length (L.map It.x) ∧ v1.ownBlock = v.ownBlock ∧ Fr p v w wr) (fun c _ => l.length - sliceLen c)
  case atStart => exact ⟨none, 0, v, [], l, rfl, h, hHp, List.Perm.refl _, List.Pairwise.nil, fun a ha => (by cases ha), World.ownsRow_nil _ _ _ _, rfl, Fr.refl _ _ _⟩
  case round =>
    obtain ⟨ao, cap, v1, L, l1, rfl, hH, hO, hP, hS, hLe, hrow, hv, hF⟩ := hrel
    have HLen := hide (show L.length + l1.length = l.length by rw [← hP.length_eq, List.length_append])
    have HLn := hide (Hint.len_any base p v1 tn l1 wr hH)
    have hsep : Sep p v1 (.slice ao L.length cap) := by
      refine ⟨fun e => ?_, fun k hk e => ?_⟩
      · have := (hrow.lt p e).1; have := h.lt; omega
      · have := (hrow.lt k hk).1; rw [hv] at e; have := (h.own_lt k e).2; omega
    by_cases h0 : 0 < l1.length
    · obtain ⟨g, cap1, hve, hg, hbg, hgp, hc1, hc2⟩ := hH.pos h0
      subst hve
      obtain ⟨j0, j1, j2, j3⟩ := hH.at h0
      simp only [Nat.zero_mul, Nat.zero_add] at j0 j1 j2 j3
      have hp0 := hH.cell0
      obtain ⟨z, hz⟩ := hx (gi l1 0) (hP.mem_iff.1 (List.mem_append_right _ (gi_mem l1 h0)))
      rw [hz] at j3
      have hl1 : (0 : Int) < (l1.length : Int) := by omega
      have HH := hide hH
      have HR := hide hrow
      have hLb : L.length ≤ 1000000 := by have := HLen.out; omega
      have hws : w.heap.size ≤ wr.heap.size := hF.size
      have HZ := hide hz
      clear hz j0 j1 j2 hH
      go_wp2_with (first | (go_at_call 16; refine (unhide HLn).mono ?_; rintro e w' ⟨rfl, hw⟩; have hw2 := hw.symm; clear hw; subst hw2) | (at_builtin; refine wpList_append_lies _ rfl _ _ _ rfl w.heap.size 3 i0 _ 1 8 Try.underlying37 hi hz0 hz1 hz2 rfl (by omega) _ L.length (L.map It.x) rfl (HR.out.alloc _) _ 1 _ [.int .i64 z] rfl rfl (World.news_of_block (heap_alloc_new wr _)) (by simp [Value.oneCell']) (by omega) (by unfold maxLen; omega) (by omega) (by simp; omega) (wr.heap.size + 1) (by simp) ?_; intro g3 cap3 w3 hown3 hgrow3 hat3 hlt3))
      have hgrow : (wr.alloc (.cells #[.int .i64 z] 3)).grownBy w3 (Value.slice ao L.length cap).ownBlock := hgrow3
      have hat : (Value.slice ao L.length cap).ownBlock = some g3 ∨ g3 = wr.heap.size + 1 := hat3
      have hba : Below wr.heap.size wr (wr.alloc (.cells #[.int .i64 z] 3)) := (Below.refl _ _).alloc (Nat.le_refl _) _
      have hH3 := (HH.out.kept hba).grown hgrow hsep.1 hsep.2
      have hF3 : Fr p v w w3 := (hF.trans' (Fr.ofBelow hba)).grownNew hgrow (fun k e => (hrow.lt k e).1)
      have hsep3 : Sep p (.slice (some ⟨g, 0, none⟩) l1.length cap1) (.slice (some ⟨g3, 0, none⟩) (L.length + 1) cap3) := by
        refine ⟨fun e => ?_, fun k hk e => ?_⟩
        · have := (hown3.lt p e).1; have := h.lt; omega
        · have := (hown3.lt k hk).1; rw [hv] at e; have := (h.own_lt k e).2; omega
      have hct := cons_tail l1 h0
      have HLP : Hid ((L ++ [gi l1 0] ++ l1.tail).Perm l) := by
        rw [List.append_assoc, List.singleton_append, ← hct]
        exact hide hP
      have hS3 := hS.snoc (gi l1 0) (fun b hb => hLe b hb _ (gi_mem l1 h0))
      have hLe3 : ∀ a ∈ L ++ [gi l1 0], ∀ b ∈ l1.tail, ltB b a = false := by
        intro a ha b hb
        have hb1 : b ∈ l1 := List.mem_of_mem_tail hb
        rcases List.mem_append.1 ha with ha | ha
        · exact hLe a ha b hb1
        · rw [List.mem_singleton.1 ha]; exact hO.least b hb1
      have HOW : Hid (w3.ownsRow w.heap.size 3 1 (.slice (some ⟨g3, 0, none⟩) (L.length + 1) cap3) (L ++ [gi l1 0]).length ((L ++ [gi l1 0]).map It.x)) := by
        rw [List.map_append, List.length_append, List.map_singleton, HZ.out]
        exact hide hown3
      clear hgrow3 hat3 hown3 hgrow hat hba hct
      refine (Hint.takeTop_any base p _ tn l1 w3 hH3 hO h0 (by have := HLen.out; omega)).mono ?_
      rintro e w4 ⟨rfl, v4, l4, hH4, hO4, hP4, hF4, hv4⟩
      have hrow4 := row_fr HOW.out hF4 hsep3
      go_wp2
      go_roundw
      case rel =>
        refine ⟨some ⟨g3, 0, none⟩, cap3, v4, L ++ [gi l1 0], l4, by simp, hH4, hO4, (List.Perm.append_left _ hP4).trans HLP.out, hS3, fun a ha b hb => hLe3 a ha b (hP4.mem_iff.1 hb), by simpa using hrow4, hv4.trans hv, hF3.trans (Or.inl hv) hF4⟩
      case measure => simp [sliceLen]; have := HLen.out; omega
    · have he : l1 = [] := List.eq_nil_of_length_eq_zero (by omega)
      subst he
      go_wp2_with fail
      refine (unhide HLn).mono ?_
      rintro e w' ⟨rfl, hw⟩
      have hw2 := hw.symm
      clear hw
      subst hw2
      go_wp2
      go_ret
      exact ⟨_, v1, L, rfl, by simpa using hP, hS, hrow, hH, hF⟩

end Go.Proofs.Ytdeenhmcifopfaa
