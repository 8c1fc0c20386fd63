/- Contracts: kindOf, follows, the reader's head. Contracts: the numbers, the token and the special token that words tell. Contracts: the token and the special token that words tell; the reader's head. Contract: the reader's head. Contract: the reader's take. Contract: the reader's take, classes and joins. Contract: the reader's take: tokens, special tokens, the first line, none. Contract: the reader's read. Contract: spec.Parse. -/
import Derived.Test.YteonoccefpkcgaaGreatDoorQk11
import Derived.Test.YteonoccefpkcgaaGreatDoorQk13
import Derived.Deep.RegionHeld3
import Derived.Test.YteonoccefpkcgaaGreatDoorQk8
import Derived.BigRegion
namespace Go.Proofs.YteonoccefpkcgaaGreatDoor.Wf
open Go.RowKit
set_option linter.unusedVariables false
set_option linter.unusedSimpArgs false

theorem kind_hit (f : List UInt8) (k : Nat) (hk : k < 6) (h0 : ∀ j, j < k → (nameB j).data.toList ≠ f) (h1 : (nameB k).data.toList = f) : kindL f = k := by
  subst h1
  have hs : k = 0 ∨ k = 1 ∨ k = 2 ∨ k = 3 ∨ k = 4 ∨ k = 5 := by omega
  rcases hs with rfl | rfl | rfl | rfl | rfl | rfl <;> decide
theorem kind_none (f : List UInt8) (h0 : ∀ j, j < 6 → (nameB j).data.toList ≠ f) : kindL f = 6 := by
  unfold kindL
  rw [if_neg (fun e => h0 0 (by omega) e.symm), if_neg (fun e => h0 1 (by omega) e.symm), if_neg (fun e => h0 2 (by omega) e.symm), if_neg (fun e => h0 3 (by omega) e.symm), if_neg (fun e => h0 4 (by omega) e.symm), if_neg (fun e => h0 5 (by omega) e.symm)]
theorem toList_beq {a b : ByteArray} : (a.toList == b.toList) = true ↔ a.data.toList = b.data.toList := by
  rw [beq_iff_eq, ByteArray.toList_eq, ByteArray.toList_eq]

set_option maxHeartbeats 4000000 in
set_option maxRecDepth 20000 in
theorem kindOf_any (f : ByteArray) (w : World) (hE : Env w) :
    Calls Tryz.prog 115 #[.string f] w fun e w' => e = .returned (.int .i64 (kindL f.data.toList)) ∧ w' = w := by
  have c0 := hE.names 0 (by omega)
  have c1 := hE.names 1 (by omega)
  have c2 := hE.names 2 (by omega)
  have c3 := hE.names 3 (by omega)
  have c4 := hE.names 4 (by omega)
  have c5 := hE.names 5 (by omega)
  obtain ⟨z, hz⟩ : ∃ z, kindL f.data.toList = z := ⟨_, rfl⟩
  rw [hz]
  have HZ := hide hz
  clear hE hz
  obtain ⟨N0, hN0⟩ : ∃ N, nameB 0 = N := ⟨_, rfl⟩
  rw [hN0] at c0
  have HN0 := hide hN0
  clear hN0
  obtain ⟨N1, hN1⟩ : ∃ N, nameB 1 = N := ⟨_, rfl⟩
  rw [hN1] at c1
  have HN1 := hide hN1
  clear hN1
  obtain ⟨N2, hN2⟩ : ∃ N, nameB 2 = N := ⟨_, rfl⟩
  rw [hN2] at c2
  have HN2 := hide hN2
  clear hN2
  obtain ⟨N3, hN3⟩ : ∃ N, nameB 3 = N := ⟨_, rfl⟩
  rw [hN3] at c3
  have HN3 := hide hN3
  clear hN3
  obtain ⟨N4, hN4⟩ : ∃ N, nameB 4 = N := ⟨_, rfl⟩
  rw [hN4] at c4
  have HN4 := hide hN4
  clear hN4
  obtain ⟨N5, hN5⟩ : ∃ N, nameB 5 = N := ⟨_, rfl⟩
  rw [hN5] at c5
  have HN5 := hide hN5
  clear hN5
  have i0 : ∀ w : World, (Instr.index 222 (.agg #[.string N0, .string N1, .string N2, .string N3, .string N4, .string N5]) (.int .i64 0)).run Tryz.prog w = .ok (.string N0) w := fun _ => by kernel_rfl
  have i1 : ∀ w : World, (Instr.index 222 (.agg #[.string N0, .string N1, .string N2, .string N3, .string N4, .string N5]) (.int .i64 1)).run Tryz.prog w = .ok (.string N1) w := fun _ => by kernel_rfl
  have i2 : ∀ w : World, (Instr.index 222 (.agg #[.string N0, .string N1, .string N2, .string N3, .string N4, .string N5]) (.int .i64 2)).run Tryz.prog w = .ok (.string N2) w := fun _ => by kernel_rfl
  have i3 : ∀ w : World, (Instr.index 222 (.agg #[.string N0, .string N1, .string N2, .string N3, .string N4, .string N5]) (.int .i64 3)).run Tryz.prog w = .ok (.string N3) w := fun _ => by kernel_rfl
  have i4 : ∀ w : World, (Instr.index 222 (.agg #[.string N0, .string N1, .string N2, .string N3, .string N4, .string N5]) (.int .i64 4)).run Tryz.prog w = .ok (.string N4) w := fun _ => by kernel_rfl
  have i5 : ∀ w : World, (Instr.index 222 (.agg #[.string N0, .string N1, .string N2, .string N3, .string N4, .string N5]) (.int .i64 5)).run Tryz.prog w = .ok (.string N5) w := fun _ => by kernel_rfl
  go_enter Tryz.func115, Tryz.ntmps115
  go_wp2
  go_loopw [6] (fun i wr => ∃ (k : Nat), i = .int .i64 k ∧ k ≤ 6 ∧ Hid (∀ j, j < k → (nameB j).data.toList ≠ f.data.toList) ∧ wr = w) (fun i _ => 6 - (intOf i).toNat)
  case atStart => exact ⟨0, rfl, Nat.zero_le _, hide (fun j hj => by omega), rfl⟩
  case round =>
    obtain ⟨k, rfl, hk, HN, rfl⟩ := hrel
    have hks : k = 0 ∨ k = 1 ∨ k = 2 ∨ k = 3 ∨ k = 4 ∨ k = 5 ∨ k = 6 := by omega
    rcases hks with rfl | rfl | rfl | rfl | rfl | rfl | rfl
    · cases hq : (N0.toList == f.toList) with
      | true =>
        have HQ := hide (show z = 0 by rw [← HZ.out]; exact kind_hit _ 0 (by omega) HN.out (by rw [HN0.out]; exact toList_beq.1 hq))
        go_wp2
        go_ret
        rw [HQ.out]
        exact ⟨rfl, rfl⟩
      | false =>
        have HQ := hide (show (nameB 0).data.toList ≠ f.data.toList by rw [HN0.out]; intro e; rw [toList_beq.2 e] at hq; cases hq)
        go_wp2
        exact ⟨⟨1, by go_num, by omega, hide (fun j hj => by rcases Nat.lt_succ_iff_lt_or_eq.1 hj with h | h; exact HN.out j h; rw [h]; exact HQ.out), (by first | trivial | rfl)⟩, by simp [intOf]⟩
    · cases hq : (N1.toList == f.toList) with
      | true =>
        have HQ := hide (show z = 1 by rw [← HZ.out]; exact kind_hit _ 1 (by omega) HN.out (by rw [HN1.out]; exact toList_beq.1 hq))
        go_wp2
        go_ret
        rw [HQ.out]
        exact ⟨rfl, rfl⟩
      | false =>
        have HQ := hide (show (nameB 1).data.toList ≠ f.data.toList by rw [HN1.out]; intro e; rw [toList_beq.2 e] at hq; cases hq)
        go_wp2
        exact ⟨⟨2, by go_num, by omega, hide (fun j hj => by rcases Nat.lt_succ_iff_lt_or_eq.1 hj with h | h; exact HN.out j h; rw [h]; exact HQ.out), (by first | trivial | rfl)⟩, by simp [intOf]⟩
    · cases hq : (N2.toList == f.toList) with
      | true =>
        have HQ := hide (show z = 2 by rw [← HZ.out]; exact kind_hit _ 2 (by omega) HN.out (by rw [HN2.out]; exact toList_beq.1 hq))
        go_wp2
        go_ret
        rw [HQ.out]
        exact ⟨rfl, rfl⟩
      | false =>
        have HQ := hide (show (nameB 2).data.toList ≠ f.data.toList by rw [HN2.out]; intro e; rw [toList_beq.2 e] at hq; cases hq)
        go_wp2
        exact ⟨⟨3, by go_num, by omega, hide (fun j hj => by rcases Nat.lt_succ_iff_lt_or_eq.1 hj with h | h; exact HN.out j h; rw [h]; exact HQ.out), (by first | trivial | rfl)⟩, by simp [intOf]⟩
    · cases hq : (N3.toList == f.toList) with
      | true =>
        have HQ := hide (show z = 3 by rw [← HZ.out]; exact kind_hit _ 3 (by omega) HN.out (by rw [HN3.out]; exact toList_beq.1 hq))
        go_wp2
        go_ret
        rw [HQ.out]
        exact ⟨rfl, rfl⟩
      | false =>
        have HQ := hide (show (nameB 3).data.toList ≠ f.data.toList by rw [HN3.out]; intro e; rw [toList_beq.2 e] at hq; cases hq)
        go_wp2
        exact ⟨⟨4, by go_num, by omega, hide (fun j hj => by rcases Nat.lt_succ_iff_lt_or_eq.1 hj with h | h; exact HN.out j h; rw [h]; exact HQ.out), (by first | trivial | rfl)⟩, by simp [intOf]⟩
    · cases hq : (N4.toList == f.toList) with
      | true =>
        have HQ := hide (show z = 4 by rw [← HZ.out]; exact kind_hit _ 4 (by omega) HN.out (by rw [HN4.out]; exact toList_beq.1 hq))
        go_wp2
        go_ret
        rw [HQ.out]
        exact ⟨rfl, rfl⟩
      | false =>
        have HQ := hide (show (nameB 4).data.toList ≠ f.data.toList by rw [HN4.out]; intro e; rw [toList_beq.2 e] at hq; cases hq)
        go_wp2
        exact ⟨⟨5, by go_num, by omega, hide (fun j hj => by rcases Nat.lt_succ_iff_lt_or_eq.1 hj with h | h; exact HN.out j h; rw [h]; exact HQ.out), (by first | trivial | rfl)⟩, by simp [intOf]⟩
    · cases hq : (N5.toList == f.toList) with
      | true =>
        have HQ := hide (show z = 5 by rw [← HZ.out]; exact kind_hit _ 5 (by omega) HN.out (by rw [HN5.out]; exact toList_beq.1 hq))
        go_wp2
        go_ret
        rw [HQ.out]
        exact ⟨rfl, rfl⟩
      | false =>
        have HQ := hide (show (nameB 5).data.toList ≠ f.data.toList by rw [HN5.out]; intro e; rw [toList_beq.2 e] at hq; cases hq)
        go_wp2
        exact ⟨⟨6, by go_num, by omega, hide (fun j hj => by rcases Nat.lt_succ_iff_lt_or_eq.1 hj with h | h; exact HN.out j h; rw [h]; exact HQ.out), (by first | trivial | rfl)⟩, by simp [intOf]⟩
    · have HQ := hide (show z = 6 by rw [← HZ.out]; exact kind_none _ HN.out)
      go_wp2
      go_ret
      rw [HQ.out]
      exact ⟨rfl, rfl⟩

theorem follows_any (w0 : World) (p : Nat) (x : Sv) (s : Sp) (n k0 : Nat) (W : World) (h : RAt w0 p x s n k0 W) (hn : n ≤ 1000000) (k : Nat) (hk0 : k0 ≤ 10) (hk : k ≤ 10) :
    Calls Tryz.prog 116 #[.pointer (some ⟨p, 0, none⟩), .int .i64 k] W fun e w' => e = .returned (.bool (folL n k0 k)) ∧ w' = W := by
  have c6 : W.cell? ⟨p, 6, none⟩ = some (.int .i64 n) := h.cell 6
  have c7 : W.cell? ⟨p, 7, none⟩ = some (.int .i64 k0) := h.cell 7
  clear h
  unfold folL
  by_cases h0 : n = 0
  · subst h0
    rw [if_pos rfl]
    by_cases h1 : k = 0
    · subst h1
      go_enter Tryz.func116, Tryz.ntmps116
      go_wp2
      go_ret
      exact ⟨rfl, rfl⟩
    · have h2 : ¬ (k : Int) = 0 := by omega
      have h2b : ((k : Int) == 0) = false := by simpa using h1
      rw [decide_eq_false h1]
      go_enter Tryz.func116, Tryz.ntmps116
      go_wp2
      go_ret
      exact ⟨rfl, rfl⟩
  · rw [if_neg h0]
    have h3 : ¬ (n : Int) = 0 := by omega
    by_cases h1 : k = 0
    · subst h1
      go_enter Tryz.func116, Tryz.ntmps116
      go_wp2
      go_ret
      exact ⟨rfl, rfl⟩
    · have h2 : ¬ (k : Int) = 0 := by omega
      have h2b : ((k : Int) != 0) = true := by simpa using h1
      rw [decide_eq_true h1, Bool.true_and]
      by_cases h4 : k0 ≤ k
      · have h5 : (k0 : Int) ≤ (k : Int) := by omega
        rw [decide_eq_true h4]
        go_enter Tryz.func116, Tryz.ntmps116
        go_wp2
        go_ret
        exact ⟨rfl, rfl⟩
      · have h5 : ¬ (k0 : Int) ≤ (k : Int) := by omega
        rw [decide_eq_false h4]
        go_enter Tryz.func116, Tryz.ntmps116
        go_wp2
        go_ret
        exact ⟨rfl, rfl⟩
theorem rroom_any (w0 : World) (p : Nat) (x : Sv) (s : Sp) (n k0 : Nat) (W : World) (h : RAt w0 p x s n k0 W) (k : Int) :
    Calls Tryz.prog 144 #[.pointer (some ⟨p, 0, none⟩), .int .i64 k] W fun e w' => e = .returned (.int .i64 (roomI k s.ranked)) ∧ w' = W := by
  have c0 : W.cell? ⟨p, 0, none⟩ = some (.bool x.r) := h.cell 0
  have hr := h.r
  rw [hr] at c0
  have K := room_any k s.ranked W
  clear h hr
  generalize s.ranked = r at c0 K ⊢
  generalize roomI k r = z at K ⊢
  go_enter Tryz.func144, Tryz.ntmps144
  go_wp2_with fail
  refine K.mono ?_
  rintro e w1 ⟨rfl, rfl⟩
  go_wp2
  go_ret
  exact ⟨rfl, rfl⟩
end Go.Proofs.YteonoccefpkcgaaGreatDoor.Wf

namespace Go.Proofs.YteonoccefpkcgaaGreatDoor.Wf
open Go.RowKit
set_option linter.unusedVariables false
set_option linter.unusedSimpArgs false

def OwnZ (w : World) (g n : Nat) (zs : List Int) : Prop := zs.length = n ∧ w.heap[g]? = some (.cells (zs.map (Value.int .i64)).toArray 3 (0, 0))
theorem OwnZ.cell {w : World} {g n : Nat} {zs : List Int} (h : OwnZ w g n zs) (i : Nat) (hi : i < n) : w.cell? ⟨g, i, none⟩ = some (.int .i64 (zs.getD i 0)) := by
  rw [Lib.cell_of_heap h.2, List.getElem?_toArray, List.getElem?_map, List.getD_eq_getElem?_getD, List.getElem?_eq_getElem (show i < zs.length by rw [h.1]; exact hi)]
  rfl
theorem OwnZ.low {w w' : World} {g n : Nat} {zs : List Int} (h : OwnZ w g n zs) (hb : Below w.heap.size w w') : OwnZ w' g n zs := ⟨h.1, (hb.block g (Array.getElem?_eq_some_iff.1 h.2).1).trans h.2⟩
theorem OwnZ.stored {w : World} {g n : Nat} {zs : List Int} (h : OwnZ w g n zs) (j : Nat) (z : Int) : OwnZ (w.setCell ⟨g, j, none⟩ (.int .i64 z)) g n (zs.set j z) := by
  refine ⟨by rw [List.length_set, h.1], ?_⟩
  rw [set_block h.2 j (.int .i64 z)]
  congr 2
  rw [← Array.toList_inj]
  simp [List.map_set]
theorem OwnZ.reads {w : World} {g n : Nat} {zs : List Int} (h : OwnZ w g n zs) : Reads .i64 w (some ⟨g, 0, none⟩) n zs := by
  refine ⟨h.1, ?_⟩
  rcases Nat.eq_zero_or_pos n with h0 | h0
  · exact Or.inl h0
  · exact Or.inr ⟨g, 0, rfl, fun i hi => by rw [Nat.zero_add]; exact h.cell i hi⟩
theorem info_int : (Tryz.prog.info? 3).map (fun i => (i.zero, i.size, i.bytes)) = some (some (.int .i64 0), 1, 8) := by kernel_rfl
theorem setZ_step (zs : List Int) (k n : Nat) (h : k < n) (hl : zs.length = n) : (zs.take k ++ List.replicate (n - k) (0 : Int)).set k (zs.getD k 0) = zs.take (k + 1) ++ List.replicate (n - (k + 1)) 0 := by
  rw [List.take_succ_eq_append_getElem (by omega), show n - k = (n - (k + 1)) + 1 by omega, List.replicate_succ, List.append_assoc]
  have hlen : (zs.take k).length = k := by rw [List.length_take]; omega
  rw [List.set_append_right _ _ (by omega), hlen, Nat.sub_self, List.set_cons_zero]
  simp [List.getD_eq_getElem?_getD, List.getElem?_eq_getElem (show k < zs.length by omega)]
/-- The words' bytes. -/
def bl (ws : List ByteArray) : List (List UInt8) := ws.map (·.data.toList)
theorem allN_take (ws : List (List UInt8)) (k : Nat) (h : k < ws.length) (h1 : allN (ws.take k) = true) (h2 : (parseS (ws.getD k []) maxId).2 = true) : allN (ws.take (k + 1)) = true :=
  all_take (fun w => (parseS w maxId).2) ws [] k h h1 h2
theorem allN_not (ws : List (List UInt8)) (k : Nat) (h : k < ws.length) (h2 : (parseS (ws.getD k []) maxId).2 = false) : allN ws = false :=
  all_not (fun w => (parseS w maxId).2) ws [] k h h2

set_option maxHeartbeats 4000000 in
set_option maxRecDepth 20000 in
theorem numbersW_any (ao : Option Addr) (n cap : Nat) (ws : List ByteArray) (count : Nat) (w : World) (hE : Env w) (hR : ReadsS w ao n ws) (hws : ∀ s ∈ ws, s.size ≤ 1000000) (hc : count ≤ 1000) :
    Calls Tryz.prog 142 #[.slice ao n cap, .int .i64 count] w fun e w' => Below w.heap.size w w' ∧
      ((n = count ∧ allN (bl ws) = true ∧ e = .returned (.tuple #[.slice (some ⟨w.heap.size, 0, none⟩) count count, .bool true]) ∧ Reads .i64 w' (some ⟨w.heap.size, 0, none⟩) count (nums (bl ws)) ∧ w.heap.size < w'.heap.size) ∨
       (¬ (n = count ∧ allN (bl ws) = true) ∧ e = .returned (.tuple #[.slice none 0 0, .bool false]))) := by
  have HR := hide hR
  have HE := hide hE
  have HWS := hide hws
  clear hR hE hws
  by_cases hnc : n = count
  case neg =>
    have h1 : ((n : Int) != (count : Int)) = true := by simp; omega
    have HNC := hide hnc
    clear hnc
    go_enter Tryz.func142, Tryz.ntmps142
    go_wp2
    go_ret2
    exact ⟨Below.refl _ _, Or.inr ⟨fun h => HNC.out h.1, rfl⟩⟩
  subst hnc
  obtain ⟨w1, cur, hrun, hblk, hcur, hb1⟩ := run_make_block (P := Tryz.prog) w 26 3 Tryz.underlying26 (.int .i64 0) 8 info_int n (by omega) (by have : maxLen = 9223372036854775807 := rfl; omega)
  have hOZ : OwnZ w1 w.heap.size n (List.replicate n 0) := by
    refine ⟨List.length_replicate, ?_⟩
    rw [hblk]
    congr 2
    rw [← Array.toList_inj, hcur]
    simp only [madeCells]
    show (Array.map (fun x => (#[Value.int .i64 0] : Array Value)[x % 1]!) (Array.range n)).toList = _
    simp [Nat.mod_one, List.map_const']
  have HOZ := hide hOZ
  clear hblk hcur hOZ
  have h1 : ((n : Int) != (n : Int)) = false := by simp
  go_enter Tryz.func142, Tryz.ntmps142
  go_wp2
  clear hrun
  have hlen : (nums (bl ws)).length = n := by unfold nums bl; rw [List.length_map, List.length_map, HR.out.1]
  have HLN := hide hlen
  clear hlen
  go_loopw [19] (fun i wr => ∃ k : Nat, k ≤ n ∧ i = .int .i64 k ∧ Hid (allN ((bl ws).take k) = true) ∧ Hid (OwnZ wr w.heap.size n ((nums (bl ws)).take k ++ List.replicate (n - k) 0)) ∧ Below w.heap.size w wr) (fun i _ => n - (intOf i).toNat)
  case atStart => exact ⟨0, Nat.zero_le _, rfl, hide rfl, hide (by simpa using HOZ.out), hb1⟩
  case round =>
    obtain ⟨k, hk, rfl, HA, hO, hbel⟩ := hrel
    by_cases hlt : k < n
    · have hk0 : (0 : Int) ≤ (k : Int) := by omega
      have hk1 : (k : Int) < (n : Int) := by omega
      obtain ⟨b, off, rfl, hcell⟩ := HR.out.at hlt
      obtain ⟨s, hs⟩ : ∃ s, s = ws.getD k ⟨#[]⟩ := ⟨_, rfl⟩
      have hck := (bcell hbel (World.block_lt_of_cell? w _ (hcell k hlt))).trans (hcell k hlt)
      rw [← hs] at hck
      have hsz : s.size ≤ 1000000 := by
        rw [hs, List.getD_eq_getElem?_getD, List.getElem?_eq_getElem (by rw [HR.out.1]; exact hlt)]
        exact HWS.out _ (List.getElem_mem _)
      have HS := hide (show (bl ws).getD k [] = s.data.toList by
        rw [hs]; unfold bl
        simp [List.getD_eq_getElem?_getD, List.getElem?_map, List.getElem?_eq_getElem (show k < ws.length by rw [HR.out.1]; exact hlt)])
      have HS2 := hide (show (nums (bl ws)).getD k 0 = (parseS s.data.toList maxId).1 by
        rw [← HS.out]
        unfold nums
        simp [List.getD_eq_getElem?_getD, List.getElem?_map, List.getElem?_eq_getElem (show k < (bl ws).length by unfold bl; rw [List.length_map, HR.out.1]; exact hlt)])
      have hkb : k < (bl ws).length := by unfold bl; rw [List.length_map, HR.out.1]; exact hlt
      have HKB := hide hkb
      have hE2 := HE.out.kept hbel
      have K := parse_any s maxId wr hsz hE2.tens hE2.errs
      unfold maxId at K
      clear hs hcell hE2 hkb
      obtain ⟨q, hq⟩ : ∃ q, parseS s.data.toList maxId = q := ⟨_, rfl⟩
      have HQ := hide hq
      unfold maxId at hq
      rw [hq] at K
      clear hq
      obtain ⟨z, ok⟩ := q
      cases ok with
      | false =>
        go_wp2_with fail
        refine K.mono ?_
        rintro e w2 ⟨rfl, hb2⟩
        have HB2 := hide (hbel.trans (hb2.mono hbel.size))
        have HN := hide (allN_not (bl ws) k HKB.out (by rw [HS.out, HQ.out]))
        clear K hb2
        go_wp2
        go_ret2
        exact ⟨HB2.out, Or.inr ⟨fun h => by rw [HN.out] at h; exact absurd h.2 (by decide), rfl⟩⟩
      | true =>
        go_wp2_with fail
        refine K.mono ?_
        rintro e w2 ⟨rfl, hb2⟩
        have hO2 := hO.out.low hb2
        have hcO := hO2.cell k hlt
        have hfO : w2.frozen? ⟨w.heap.size, k, none⟩ = false := Lib.frozen_of_heap hO2.2 k
        have HO3 := hide (hO2.stored k z)
        have HB3 := hide ((hbel.trans (hb2.mono hbel.size)).setCell (p := ⟨w.heap.size, k, none⟩) (Nat.le_refl _) (.int .i64 z))
        have HA3 := hide (allN_take (bl ws) k HKB.out HA.out (by rw [HS.out, HQ.out]))
        clear hO2 K hb2
        go_wp2
        first
          | (go_roundw
             case rel =>
               refine ⟨k + 1, by omega, by go_num, HA3, hide ?_, HB3.out⟩
               rw [← setZ_step (nums (bl ws)) k n hlt HLN.out, HS2.out, HQ.out]
               exact HO3.out
             case measure => simp [intOf]; omega)
          | (refine ⟨⟨k + 1, by omega, by go_num, HA3, hide ?_, HB3.out⟩, by simp [intOf]; omega⟩
             rw [← setZ_step (nums (bl ws)) k n hlt HLN.out, HS2.out, HQ.out]
             exact HO3.out)
    · have hkn : k = n := by omega
      subst hkn
      have HT : Hid (allN (bl ws) = true) := hide (by have := HA.out; rwa [List.take_of_length_le (by unfold bl; rw [List.length_map, HR.out.1]; exact Nat.le_refl _)] at this)
      have HO : Hid (OwnZ wr w.heap.size k (nums (bl ws))) := hide (by have := hO.out; rwa [Nat.sub_self, List.replicate_zero, List.append_nil, List.take_of_length_le (by rw [HLN.out]; exact Nat.le_refl _)] at this)
      clear hO hlt hk
      go_wp2
      go_ret2
      exact ⟨hbel, Or.inl ⟨trivial, HT.out, rfl, HO.out.reads, (Array.getElem?_eq_some_iff.1 HO.out.2).1⟩⟩
end Go.Proofs.YteonoccefpkcgaaGreatDoor.Wf

namespace Go.Proofs.YteonoccefpkcgaaGreatDoor.Wf
open Go.RowKit
set_option linter.unusedVariables false
set_option linter.unusedSimpArgs false

theorem one_word {ws : List ByteArray} (h : ws.length = 1) : ∃ s, ws = [s] := by
  match ws, h with
  | [s], _ => exact ⟨s, rfl⟩
theorem two_words {ws : List ByteArray} (h : ws.length = 2) : ∃ s t, ws = [s, t] := by
  match ws, h with
  | [s, t], _ => exact ⟨s, t, rfl⟩
set_option maxHeartbeats 4000000 in
set_option maxRecDepth 20000 in
theorem tokenW_any (ao : Option Addr) (n cap : Nat) (ws : List ByteArray) (w : World) (hR : ReadsS w ao n ws) (hws : ∀ s ∈ ws, s.size ≤ 1000000) :
    Calls Tryz.prog 145 #[.slice ao n cap] w fun e w' => Below w.heap.size w w' ∧
      ((∃ s, ws = [s] ∧ e = .returned (.tuple #[.string (unhexS s).1, .bool (unhexS s).2])) ∨ (n ≠ 1 ∧ e = .returned (.tuple #[.string ⟨#[]⟩, .bool false]))) := by
  by_cases hn : n = 1
  · subst hn
    obtain ⟨s, rfl⟩ := one_word hR.1
    obtain ⟨b, off, rfl, hc⟩ := hR.at (show 0 < 1 by omega)
    have c0 : w.cell? ⟨b, off, none⟩ = some (.string s) := hc 0 (by omega)
    have K := unhex_any s w (hws s List.mem_cons_self)
    clear hR hc hws
    obtain ⟨q, hq⟩ : ∃ q, unhexS s = q := ⟨_, rfl⟩
    rw [hq] at K
    have HQ := hide hq
    clear hq
    go_enter Tryz.func145, Tryz.ntmps145
    go_wp2_with fail
    refine K.mono ?_
    rintro e w1 ⟨rfl, hb1⟩
    go_wp2
    go_ret2
    exact ⟨hb1, Or.inl ⟨s, rfl, by rw [HQ.out]; rfl⟩⟩
  · have h1 : ((n : Int) != 1) = true := by simp; omega
    have HN := hide hn
    clear hn hR hws
    go_enter Tryz.func145, Tryz.ntmps145
    go_wp2
    go_ret2
    exact ⟨Below.refl _ _, Or.inr ⟨HN.out, rfl⟩⟩

set_option maxHeartbeats 4000000 in
set_option maxRecDepth 20000 in
theorem specialW_any (ao : Option Addr) (n cap : Nat) (ws : List ByteArray) (w : World) (hE : Env w) (hR : ReadsS w ao n ws) (hws : ∀ s ∈ ws, s.size ≤ 1000000) :
    Calls Tryz.prog 147 #[.slice ao n cap] w fun e w' => Below w.heap.size w w' ∧
      ((∃ s t, ws = [s, t] ∧ e = .returned (.tuple #[.agg #[.int .i64 (parseS s.data.toList maxId).1, .string (unhexS t).1], .bool ((parseS s.data.toList maxId).2 && (unhexS t).2)])) ∨ (n ≠ 2 ∧ e = .returned (.tuple #[.agg #[.int .i64 0, .string ⟨#[]⟩], .bool false]))) := by
  have hlo := low_alloc w (.cells #[.int .i64 0, .string ⟨#[]⟩] 57)
  have hblk : (w.alloc (.cells #[.int .i64 0, .string ⟨#[]⟩] 57)).heap[w.heap.size]? = some (.cells #[.int .i64 0, .string ⟨#[]⟩] 57 (0, 0)) := heap_alloc_new w _
  by_cases hn : n = 2
  · subst hn
    obtain ⟨s, t, rfl⟩ := two_words hR.1
    have hR0 := hR.kept hlo
    obtain ⟨b, off, rfl, hc⟩ := hR0.at (show 0 < 2 by omega)
    have hc0 : (w.alloc (.cells #[.int .i64 0, .string ⟨#[]⟩] 57)).cell? ⟨b, off, none⟩ = some (.string s) := hc 0 (by omega)
    have hc1 : (w.alloc (.cells #[.int .i64 0, .string ⟨#[]⟩] 57)).cell? ⟨b, off + 1, none⟩ = some (.string t) := hc 1 (by omega)
    have hE0 := hE.kept hlo
    have K := parse_any s maxId _ (hws s List.mem_cons_self) hE0.tens hE0.errs
    have HU := hide (fun W => unhex_any t W (hws t (List.mem_cons_of_mem _ List.mem_cons_self)))
    have hlt0 : w.heap.size < (w.alloc (.cells #[.int .i64 0, .string ⟨#[]⟩] 57)).heap.size := by simp
    obtain ⟨q, hq⟩ : ∃ q, parseS s.data.toList maxId = q := ⟨_, rfl⟩
    have HQ := hide hq
    rw [hq] at K
    unfold maxId at K
    obtain ⟨u, hu⟩ : ∃ u, unhexS t = u := ⟨_, rfl⟩
    have HUE := hide hu
    rw [hu] at HU
    have HBLK := hide hblk
    have HC1 := hide hc1
    clear hq hu hR hws hE hc hR0 hblk hE0 hc1
    obtain ⟨z, ok⟩ := q
    obtain ⟨us, uo⟩ := u
    go_enter Tryz.func147, Tryz.ntmps147
    go_wp2_with fail
    refine K.mono ?_
    rintro e w1 ⟨rfl, hb1⟩
    have d1 := (bcell hb1 (World.block_lt_of_cell? _ _ HC1.out)).trans HC1.out
    have hblk1 : w1.heap[w.heap.size]? = some (.cells #[.int .i64 0, .string ⟨#[]⟩] 57 (0, 0)) := by rw [hb1.block _ hlt0]; exact HBLK.out
    have hB1 := hlo.trans (hb1.mono hlo.size)
    have hlt1 := Nat.lt_of_lt_of_le hlt0 hb1.size
    clear K hb1 hc0 HC1 HBLK hlt0 hlo
    go_wp2_with fail
    refine (HU.out w1).mono ?_
    rintro e w2 ⟨rfl, hb2⟩
    have hblk2 : w2.heap[w.heap.size]? = some (.cells #[.int .i64 0, .string ⟨#[]⟩] 57 (0, 0)) := by rw [hb2.block _ hlt1]; exact hblk1
    have hB2 := hB1.trans (hb2.mono hB1.size)
    have e0 : w2.cell? ⟨w.heap.size, 0, none⟩ = some (.int .i64 0) := by rw [Lib.cell_of_heap hblk2]; rfl
    have e1 : w2.cell? ⟨w.heap.size, 1, none⟩ = some (.string ⟨#[]⟩) := by rw [Lib.cell_of_heap hblk2]; rfl
    have f0 : w2.frozen? ⟨w.heap.size, 0, none⟩ = false := Lib.frozen_of_heap hblk2 0
    have f1 : w2.frozen? ⟨w.heap.size, 1, none⟩ = false := Lib.frozen_of_heap hblk2 1
    have HB := hide (show Below w.heap.size w ((w2.setCell ⟨w.heap.size, 0, none⟩ (.int .i64 z)).setCell ⟨w.heap.size, 1, none⟩ (.string us)) from (hB2.setCell (p := ⟨w.heap.size, 0, none⟩) (Nat.le_refl _) _).setCell (p := ⟨w.heap.size, 1, none⟩) (Nat.le_refl _) _)
    have hblk4 := set_block (set_block hblk2 0 (.int .i64 z)) 1 (.string us)
    have g0 : ((w2.setCell ⟨w.heap.size, 0, none⟩ (.int .i64 z)).setCell ⟨w.heap.size, 1, none⟩ (.string us)).cell? ⟨w.heap.size, 0, none⟩ = some (.int .i64 z) := by rw [Lib.cell_of_heap hblk4]; rfl
    have g1 : ((w2.setCell ⟨w.heap.size, 0, none⟩ (.int .i64 z)).setCell ⟨w.heap.size, 1, none⟩ (.string us)).cell? ⟨w.heap.size, 1, none⟩ = some (.string us) := by rw [Lib.cell_of_heap hblk4]; rfl
    have HG := hide (And.intro g0 g1)
    clear d1 hblk1 hblk2 hblk4 hB1 hB2 hb2 hlt1 HU g0 g1
    cases ok with
    | false =>
      go_wp2
      obtain ⟨g0, g1⟩ := HG.out
      generalize (w2.setCell ⟨w.heap.size, 0, none⟩ (.int .i64 z)).setCell ⟨w.heap.size, 1, none⟩ (.string us) = w3 at *
      refine bodyPost_ret (v := .tuple #[.agg #[.int .i64 z, .string us], .bool false]) (by simp [results, Tryz.results147, go_sem, g0, g1]) rfl ?_
      exact ⟨HB.out, Or.inl ⟨s, t, rfl, by rw [HQ.out, HUE.out]; rfl⟩⟩
    | true =>
      go_wp2
      obtain ⟨g0, g1⟩ := HG.out
      generalize (w2.setCell ⟨w.heap.size, 0, none⟩ (.int .i64 z)).setCell ⟨w.heap.size, 1, none⟩ (.string us) = w3 at *
      refine bodyPost_ret (v := .tuple #[.agg #[.int .i64 z, .string us], .bool uo]) (by simp [results, Tryz.results147, go_sem, g0, g1]) rfl ?_
      exact ⟨HB.out, Or.inl ⟨s, t, rfl, by rw [HQ.out, HUE.out]; rfl⟩⟩
  · have h1 : ((n : Int) != 2) = true := by simp; omega
    have HN := hide hn
    clear hn hR hws
    go_enter Tryz.func147, Tryz.ntmps147
    go_wp2
    refine bodyPost_ret (v := .tuple #[.agg #[.int .i64 0, .string ⟨#[]⟩], .bool false]) (by simp [results, Tryz.results147, go_sem]) rfl ?_
    exact ⟨hlo, Or.inr ⟨HN.out, rfl⟩⟩
end Go.Proofs.YteonoccefpkcgaaGreatDoor.Wf

namespace Go.Proofs.YteonoccefpkcgaaGreatDoor.Wf
open Go.RowKit
set_option linter.unusedVariables false
set_option linter.unusedSimpArgs false

/-- What a line's taking leaves. -/
def TakeP (w0 : World) (p n k0 : Nat) (res : Option Sp) (e : Ending) (w' : World) : Prop := match res with
  | some s' => e = .returned (.bool true) ∧ ∃ x', RAt w0 p x' s' n k0 w'
  | none => e = .returned (.bool false) ∧ ∃ x' s', RAt w0 p x' s' n k0 w'
theorem TakeP.no {w0 : World} {p n k0 : Nat} {res : Option Sp} (hr : res = none) {x : Sv} {s : Sp} {w' : World} (h : RAt w0 p x s n k0 w') : TakeP w0 p n k0 res (.returned (.bool false)) w' := by
  subst hr
  exact ⟨rfl, x, s, h⟩
theorem TakeP.yes {w0 : World} {p n k0 : Nat} {res : Option Sp} {s' : Sp} (hr : res = some s') {x : Sv} {w' : World} (h : RAt w0 p x s' n k0 w') : TakeP w0 p n k0 res (.returned (.bool true)) w' := by
  subst hr
  exact ⟨rfl, x, h⟩
theorem toList_lit {a : ByteArray} {l : List UInt8} : (a.toList == l) = true ↔ a.data.toList = l := by
  rw [beq_iff_eq, ByteArray.toList_eq]
theorem take0_len (s : Sp) (ws : List (List UInt8)) (h : ws.length ≠ 1) : takeL s 0 ws = none := by
  match ws with
  | [] => rfl
  | [_] => exact absurd rfl h
  | _ :: _ :: _ => rfl

set_option maxHeartbeats 4000000 in
set_option maxRecDepth 20000 in
theorem rhead_any (w0 : World) (p : Nat) (x : Sv) (s : Sp) (n k0 : Nat) (W : World) (h : RAt w0 p x s n k0 W) (ao : Option Addr) (m cap : Nat) (ws : List ByteArray) (hR : ReadsS W ao m ws) (hbp : ∀ b off, ao = some ⟨b, off, none⟩ → b ≠ p) :
    Calls Tryz.prog 141 #[.pointer (some ⟨p, 0, none⟩), .slice ao m cap] W (TakeP w0 p n k0 (takeL s 0 (bl ws))) := by
  by_cases hm : m = 1
  case neg =>
    have h1 : ((m : Int) != 1) = true := by simp; omega
    have HT := hide (take0_len s (bl ws) (by unfold bl; rw [List.length_map, hR.1]; exact hm))
    have HH := hide h
    clear h hR hm hbp
    go_enter Tryz.func141, Tryz.ntmps141
    go_wp2
    go_ret
    exact TakeP.no HT.out HH.out
  subst hm
  obtain ⟨t, rfl⟩ := one_word hR.1
  obtain ⟨b, off, rfl, hc⟩ := hR.at (show 0 < 1 by omega)
  have c0 : W.cell? ⟨b, off, none⟩ = some (.string t) := hc 0 (by omega)
  have hne := hbp b off rfl
  have r0 : W.cell? ⟨p, 0, none⟩ = some (.bool x.r) := h.cell 0
  have f0 := h.free 0
  have d0 : ∀ v, (W.setCell ⟨p, 0, none⟩ v).cell? ⟨b, off, none⟩ = some (.string t) := fun v => (World.cell?_setCell_other W ⟨p, 0, none⟩ ⟨b, off, none⟩ v (fun e => hne (by cases e; rfl))).trans c0
  have d1 := d0 (.bool true)
  have d2 := d0 (.bool false)
  have HT : Hid (takeL s 0 (bl [t]) = if t.data.toList = wRanks then some { s with ranked := true } else if t.data.toList = wMerges then some { s with ranked := false } else none) := hide rfl
  have HH := hide h
  clear h hR hbp hc d0
  cases hq : (t.toList == ([114, 97, 110, 107, 115] : List UInt8)) with
  | true =>
    have HE := hide (show t.data.toList = wRanks from toList_lit.1 hq)
    rw [if_pos HE.out] at HT
    go_enter Tryz.func141, Tryz.ntmps141
    go_wp2
    go_ret
    exact TakeP.yes HT.out (HH.out.setR true)
  | false =>
    have HE := hide (show t.data.toList ≠ wRanks from fun e => by rw [toList_lit.2 (show t.data.toList = [114, 97, 110, 107, 115] from e)] at hq; cases hq)
    rw [if_neg HE.out] at HT
    cases hq2 : (t.toList == ([109, 101, 114, 103, 101, 115] : List UInt8)) with
    | true =>
      have HE2 := hide (show t.data.toList = wMerges from toList_lit.1 hq2)
      rw [if_pos HE2.out] at HT
      go_enter Tryz.func141, Tryz.ntmps141
      go_wp2
      go_ret
      exact TakeP.yes HT.out (HH.out.setR false)
    | false =>
      have HE2 := hide (show t.data.toList ≠ wMerges from fun e => by rw [toList_lit.2 (show t.data.toList = [109, 101, 114, 103, 101, 115] from e)] at hq2; cases hq2)
      rw [if_neg HE2.out] at HT
      go_enter Tryz.func141, Tryz.ntmps141
      go_wp2
      go_ret
      exact TakeP.no HT.out (HH.out.setR false)
end Go.Proofs.YteonoccefpkcgaaGreatDoor.Wf

namespace Go.Proofs.YteonoccefpkcgaaGreatDoor.Wf
open Go.RowKit
set_option linter.unusedVariables false
set_option linter.unusedSimpArgs false

theorem low_drewN (w : World) (n : Nat) : Below w.heap.size w (w.drewN n) := ⟨rfl, rfl, rfl, Nat.le_refl _, fun _ _ => rfl⟩
theorem cell_same {W w' : World} {g : Nat} (h : w'.heap[g]? = W.heap[g]?) (j : Nat) : w'.cell? ⟨g, j, none⟩ = W.cell? ⟨g, j, none⟩ := by
  simp [World.cell?, h]
theorem Row.apart {α : Type} {B E k : Nat} {e : α → List Value} {ao : Option Addr} {n cap : Nat} {l : List α} {W : World} (h : Row B E k e ao n cap l W) {g : Nat} (hg : W.heap.size ≤ g) : some g ≠ (Value.slice ao n cap).ownBlock := fun e => by
  have := (h.own.lt g e.symm).2
  omega
theorem take1_none (s : Sp) (ws : List (List UInt8)) (h : ¬ (ws.length = 2 ∧ allN ws = true)) : takeL s 1 ws = none := by
  match ws with
  | [] => rfl
  | [_] => rfl
  | [a, b] =>
    unfold takeL
    simp only
    rw [if_neg (fun e => h ⟨rfl, e.1⟩)]
  | _ :: _ :: _ :: _ => rfl
theorem take5_none (s : Sp) (ws : List (List UInt8)) (h : ¬ (ws.length = 2 ∧ allN ws = true)) : takeL s 5 ws = none := by
  match ws with
  | [] => rfl
  | [_] => rfl
  | [a, b] =>
    unfold takeL
    simp only
    rw [if_neg (fun e => h ⟨rfl, e.1⟩)]
  | _ :: _ :: _ :: _ => rfl
theorem take4_none (s : Sp) (ws : List (List UInt8)) (h : ¬ (ws.length = 3 ∧ allN ws = true)) : takeL s 4 ws = none := by
  match ws with
  | [] => rfl
  | [_] => rfl
  | [_, _] => rfl
  | [a, b, c] =>
    unfold takeL
    simp only
    rw [if_neg (fun e => h ⟨rfl, e.1⟩)]
  | _ :: _ :: _ :: _ :: _ => rfl
theorem take2_len (s : Sp) (ws : List (List UInt8)) (h : ws.length ≠ 1) : takeL s 2 ws = none := by
  match ws with
  | [] => rfl
  | [_] => exact absurd rfl h
  | _ :: _ :: _ => rfl
theorem take3_len (s : Sp) (ws : List (List UInt8)) (h : ws.length ≠ 2) : takeL s 3 ws = none := by
  match ws with
  | [] => rfl
  | [_] => rfl
  | [_, _] => exact absurd rfl h
  | _ :: _ :: _ :: _ => rfl
theorem three_words {ws : List ByteArray} (h : ws.length = 3) : ∃ s t u, ws = [s, t, u] := by
  match ws, h with
  | [s, t, u], _ => exact ⟨s, t, u, rfl⟩
theorem room_nat1 (s : Sp) (n : Nat) : ((n : Int) < roomI 1 s.ranked) ↔ n < roomM s.ranked := by
  unfold roomI roomM
  cases s.ranked <;> simp <;> omega
theorem room_nat2 (s : Sp) (n : Nat) : ((n : Int) < roomI 2 s.ranked) ↔ n < roomT s.ranked := by
  unfold roomI roomT
  cases s.ranked <;> simp <;> omega
theorem room_nat3 (s : Sp) (n : Nat) : ((n : Int) < roomI 3 s.ranked) ↔ n < 32 := by
  unfold roomI
  simp
  omega
theorem room_nat4 (s : Sp) (n : Nat) : ((n : Int) < roomI 4 s.ranked) ↔ n < 64 := by
  unfold roomI
  simp
  omega
theorem room_nat5 (s : Sp) (n : Nat) : ((n : Int) < roomI 5 s.ranked) ↔ n < 64 := by
  unfold roomI
  simp
  omega

set_option maxHeartbeats 8000000 in
set_option maxRecDepth 20000 in
theorem take1_any (w0 : World) (p : Nat) (x : Sv) (s : Sp) (n k0 : Nat) (W : World) (h : RAt w0 p x s n k0 W) (hE : Env W) (ao : Option Addr) (m cap : Nat) (ws : List ByteArray) (hR : ReadsS W ao m ws) (hws : ∀ s ∈ ws, s.size ≤ 1000000) :
    Calls Tryz.prog 117 #[.pointer (some ⟨p, 0, none⟩), .int .i64 1, .slice ao m cap] W (TakeP w0 p n k0 (takeL s 1 (bl ws))) := by
  have K := numbersW_any ao m cap ws 2 W hE hR hws (by omega)
  have HH := hide h
  have HL := hide (show (bl ws).length = m by unfold bl; rw [List.length_map, hR.1])
  have HWL := hide hR.1
  clear h hE hR hws
  go_enter Tryz.func117, Tryz.ntmps117
  go_wp2_with fail
  refine K.mono ?_
  clear K
  rintro e w1 ⟨hb1, hcase⟩
  have HR1 := hide (HH.out.low hb1)
  have HB1 := hide hb1
  rcases hcase with ⟨hm, hall, rfl, hRd, hgl⟩ | ⟨hno, rfl⟩
  case inr =>
    have HT := hide (take1_none s (bl ws) (fun e => hno ⟨by rw [← HL.out]; exact e.1, e.2⟩))
    clear hno hb1 HB1 HH
    go_wp2
    go_quiet (fail)
    go_wp2
    go_ret
    exact TakeP.no HT.out (HR1.out.low (low_drewN _ _))
  subst hm
  obtain ⟨a, b, rfl⟩ := two_words HWL.out
  have hpW : p < W.heap.size := HH.out.lt
  have HAP := hide (HH.out.m1.apart (Nat.le_refl W.heap.size))
  obtain ⟨gb, goff, hge, hgc⟩ := hRd.at (show 0 < 2 by omega)
  simp only [Option.some.injEq, Addr.mk.injEq, and_true] at hge
  obtain ⟨rfl, rfl⟩ := hge
  have y0 : w1.drew.cell? ⟨W.heap.size, 0, none⟩ = some (.int .i64 (parseS a.data.toList maxId).1) := hgc 0 (by omega)
  have y1 : w1.drew.cell? ⟨W.heap.size, 1, none⟩ = some (.int .i64 (parseS b.data.toList maxId).1) := hgc 1 (by omega)
  have HT : Hid (takeL s 1 (bl [a, b]) = if allN [a.data.toList, b.data.toList] = true ∧ s.merges.length < roomM s.ranked ∧ okM ((parseS a.data.toList maxId).1, (parseS b.data.toList maxId).1) = true then some { s with merges := s.merges ++ [((parseS a.data.toList maxId).1, (parseS b.data.toList maxId).1)] } else none) := hide rfl
  have HALL := hide hall
  have HRD := hide (HR1.out.low (below_drew (Below.refl _ _)))
  have HKR := hide (rroom_any w0 p x s n k0 _ HRD.out 1)
  have hN : x.n1 = s.merges.length := HR1.out.m1.len.symm
  generalize (parseS a.data.toList maxId).1 = za at y0 HT
  generalize (parseS b.data.toList maxId).1 = zb at y1 HT
  by_cases hok : (x.n1 : Int) < roomI 1 s.ranked ∧ okM (za, zb) = true
  · have HK := hide (addMerge_yes w0 p x s n k0 _ HRD.out (roomI 1 s.ranked) (za, zb) hok.1 (roomI_le _ _) hok.2)
    have HF := hide (show takeL s 1 (bl [a, b]) = some { s with merges := s.merges ++ [(za, zb)] } by rw [HT.out, if_pos ⟨HALL.out, by rw [← hN]; exact (room_nat1 s x.n1).1 hok.1, hok.2⟩])
    generalize roomI 1 s.ranked = rm at HKR HK
    clear hok hb1 hall hRd hgc HH HT
    go_wp2
    go_region_held3 (fun W' => W'.cell? ⟨W.heap.size, 0, none⟩ = some (.int .i64 za) ∧ W'.cell? ⟨W.heap.size, 1, none⟩ = some (.int .i64 zb)) (first | exact ⟨y0, y1⟩ | go_keep) (first
      | (go_at_call 144; refine HKR.out.mono ?_; rintro e W1 ⟨rfl, rfl⟩)
      | (go_at_call 143; refine HK.out.mono ?_; rintro e W2 ⟨rfl, hx, hfr⟩; have hsame := hfr W.heap.size hgl (by omega) HAP.out; replace y0 := (cell_same hsame 0).trans y0; replace y1 := (cell_same hsame 1).trans y1; have HX := hide hx; clear hx hfr hsame))
    all_goals
      go_wp2
      go_ret
      obtain ⟨x', hx'⟩ := HX.out
      exact TakeP.yes HF.out hx'
  · have HK := hide (addMerge_no w0 p x s n k0 _ HRD.out (roomI 1 s.ranked) (za, zb) hok)
    have HF := hide (show takeL s 1 (bl [a, b]) = none by rw [HT.out, if_neg (fun e => hok ⟨(room_nat1 s x.n1).2 (by rw [hN]; exact e.2.1), e.2.2⟩)])
    generalize roomI 1 s.ranked = rm at HKR HK
    clear hok hb1 hall hRd hgc HH HT
    go_wp2
    go_region_held3 (fun W' => W'.cell? ⟨W.heap.size, 0, none⟩ = some (.int .i64 za) ∧ W'.cell? ⟨W.heap.size, 1, none⟩ = some (.int .i64 zb)) (first | exact ⟨y0, y1⟩ | go_keep) (first
      | (go_at_call 144; refine HKR.out.mono ?_; rintro e W1 ⟨rfl, rfl⟩)
      | (go_at_call 143; refine HK.out.mono ?_; rintro e W2 ⟨rfl, hx, hfr⟩; have hsame := hfr.block W.heap.size hgl; replace y0 := (cell_same hsame 0).trans y0; replace y1 := (cell_same hsame 1).trans y1; have HX := hide hx; clear hx hfr hsame))
    all_goals
      go_wp2
      go_ret
      exact TakeP.no HF.out HX.out
end Go.Proofs.YteonoccefpkcgaaGreatDoor.Wf

namespace Go.Proofs.YteonoccefpkcgaaGreatDoor.Wf
open Go.RowKit
set_option linter.unusedVariables false
set_option linter.unusedSimpArgs false

set_option maxHeartbeats 8000000 in
set_option maxRecDepth 20000 in
theorem take4_any (w0 : World) (p : Nat) (x : Sv) (s : Sp) (n k0 : Nat) (W : World) (h : RAt w0 p x s n k0 W) (hE : Env W) (ao : Option Addr) (m cap : Nat) (ws : List ByteArray) (hR : ReadsS W ao m ws) (hws : ∀ s ∈ ws, s.size ≤ 1000000) :
    Calls Tryz.prog 117 #[.pointer (some ⟨p, 0, none⟩), .int .i64 4, .slice ao m cap] W (TakeP w0 p n k0 (takeL s 4 (bl ws))) := by
  have K := numbersW_any ao m cap ws 3 W hE hR hws (by omega)
  have HH := hide h
  have HL := hide (show (bl ws).length = m by unfold bl; rw [List.length_map, hR.1])
  have HWL := hide hR.1
  clear h hE hR hws
  go_enter Tryz.func117, Tryz.ntmps117
  go_wp2_with fail
  refine K.mono ?_
  clear K
  rintro e w1 ⟨hb1, hcase⟩
  have HR1 := hide (HH.out.low hb1)
  have HB1 := hide hb1
  rcases hcase with ⟨hm, hall, rfl, hRd, hgl⟩ | ⟨hno, rfl⟩
  case inr =>
    have HT := hide (take4_none s (bl ws) (fun e => hno ⟨by rw [← HL.out]; exact e.1, e.2⟩))
    clear hno hb1 HB1 HH
    go_wp2
    go_quiet (fail)
    go_wp2
    go_ret
    exact TakeP.no HT.out (HR1.out.low (low_drewN _ _))
  subst hm
  obtain ⟨a, b, c, rfl⟩ := three_words HWL.out
  have hpW : p < W.heap.size := HH.out.lt
  have HAP := hide (HH.out.m4.apart (Nat.le_refl W.heap.size))
  obtain ⟨gb, goff, hge, hgc⟩ := hRd.at (show 0 < 3 by omega)
  simp only [Option.some.injEq, Addr.mk.injEq, and_true] at hge
  obtain ⟨rfl, rfl⟩ := hge
  have y0 : w1.drew.cell? ⟨W.heap.size, 0, none⟩ = some (.int .i64 (parseS a.data.toList maxId).1) := hgc 0 (by omega)
  have y1 : w1.drew.cell? ⟨W.heap.size, 1, none⟩ = some (.int .i64 (parseS b.data.toList maxId).1) := hgc 1 (by omega)
  have y2 : w1.drew.cell? ⟨W.heap.size, 2, none⟩ = some (.int .i64 (parseS c.data.toList maxId).1) := hgc 2 (by omega)
  have HT : Hid (takeL s 4 (bl [a, b, c]) = if allN [a.data.toList, b.data.toList, c.data.toList] = true ∧ s.classes.length < 64 ∧ okC ((parseS a.data.toList maxId).1, (parseS b.data.toList maxId).1, (parseS c.data.toList maxId).1) = true then some { s with classes := s.classes ++ [((parseS a.data.toList maxId).1, (parseS b.data.toList maxId).1, (parseS c.data.toList maxId).1)] } else none) := hide rfl
  have HALL := hide hall
  have HRD := hide (HR1.out.low (below_drew (Below.refl _ _)))
  have HKR := hide (rroom_any w0 p x s n k0 _ HRD.out 4)
  have hN : x.n4 = s.classes.length := HR1.out.m4.len.symm
  generalize (parseS a.data.toList maxId).1 = za at y0 HT
  generalize (parseS b.data.toList maxId).1 = zb at y1 HT
  generalize (parseS c.data.toList maxId).1 = zc at y2 HT
  by_cases hok : (x.n4 : Int) < roomI 4 s.ranked ∧ okC (za, zb, zc) = true
  · have HK := hide (addClass_yes w0 p x s n k0 _ HRD.out (roomI 4 s.ranked) (za, zb, zc) hok.1 (roomI_le _ _) hok.2)
    have HF := hide (show takeL s 4 (bl [a, b, c]) = some { s with classes := s.classes ++ [(za, zb, zc)] } by rw [HT.out, if_pos ⟨HALL.out, by rw [← hN]; exact (room_nat4 s x.n4).1 hok.1, hok.2⟩])
    generalize roomI 4 s.ranked = rm at HKR HK
    clear hok hb1 hall hRd hgc HH HT
    go_wp2
    go_region_held3 (fun W' => W'.cell? ⟨W.heap.size, 0, none⟩ = some (.int .i64 za) ∧ W'.cell? ⟨W.heap.size, 1, none⟩ = some (.int .i64 zb) ∧ W'.cell? ⟨W.heap.size, 2, none⟩ = some (.int .i64 zc)) (first | exact ⟨y0, y1, y2⟩ | go_keep) (first
      | (go_at_call 144; refine HKR.out.mono ?_; rintro e W1 ⟨rfl, rfl⟩)
      | (go_at_call 149; refine HK.out.mono ?_; rintro e W2 ⟨rfl, hx, hfr⟩; have hsame := hfr W.heap.size hgl (by omega) HAP.out; replace y0 := (cell_same hsame 0).trans y0; replace y1 := (cell_same hsame 1).trans y1; replace y2 := (cell_same hsame 2).trans y2; have HX := hide hx; clear hx hfr hsame))
    all_goals
      go_wp2
      go_ret
      obtain ⟨x', hx'⟩ := HX.out
      exact TakeP.yes HF.out hx'
  · have HK := hide (addClass_no w0 p x s n k0 _ HRD.out (roomI 4 s.ranked) (za, zb, zc) hok)
    have HF := hide (show takeL s 4 (bl [a, b, c]) = none by rw [HT.out, if_neg (fun e => hok ⟨(room_nat4 s x.n4).2 (by rw [hN]; exact e.2.1), e.2.2⟩)])
    generalize roomI 4 s.ranked = rm at HKR HK
    clear hok hb1 hall hRd hgc HH HT
    go_wp2
    go_region_held3 (fun W' => W'.cell? ⟨W.heap.size, 0, none⟩ = some (.int .i64 za) ∧ W'.cell? ⟨W.heap.size, 1, none⟩ = some (.int .i64 zb) ∧ W'.cell? ⟨W.heap.size, 2, none⟩ = some (.int .i64 zc)) (first | exact ⟨y0, y1, y2⟩ | go_keep) (first
      | (go_at_call 144; refine HKR.out.mono ?_; rintro e W1 ⟨rfl, rfl⟩)
      | (go_at_call 149; refine HK.out.mono ?_; rintro e W2 ⟨rfl, hx, hfr⟩; have hsame := hfr.block W.heap.size hgl; replace y0 := (cell_same hsame 0).trans y0; replace y1 := (cell_same hsame 1).trans y1; replace y2 := (cell_same hsame 2).trans y2; have HX := hide hx; clear hx hfr hsame))
    all_goals
      go_wp2
      go_ret
      exact TakeP.no HF.out HX.out

set_option maxHeartbeats 8000000 in
set_option maxRecDepth 20000 in
theorem take5_any (w0 : World) (p : Nat) (x : Sv) (s : Sp) (n k0 : Nat) (W : World) (h : RAt w0 p x s n k0 W) (hE : Env W) (ao : Option Addr) (m cap : Nat) (ws : List ByteArray) (hR : ReadsS W ao m ws) (hws : ∀ s ∈ ws, s.size ≤ 1000000) :
    Calls Tryz.prog 117 #[.pointer (some ⟨p, 0, none⟩), .int .i64 5, .slice ao m cap] W (TakeP w0 p n k0 (takeL s 5 (bl ws))) := by
  have K := numbersW_any ao m cap ws 2 W hE hR hws (by omega)
  have HH := hide h
  have HL := hide (show (bl ws).length = m by unfold bl; rw [List.length_map, hR.1])
  have HWL := hide hR.1
  clear h hE hR hws
  go_enter Tryz.func117, Tryz.ntmps117
  go_wp2_with fail
  refine K.mono ?_
  clear K
  rintro e w1 ⟨hb1, hcase⟩
  have HR1 := hide (HH.out.low hb1)
  have HB1 := hide hb1
  rcases hcase with ⟨hm, hall, rfl, hRd, hgl⟩ | ⟨hno, rfl⟩
  case inr =>
    have HT := hide (take5_none s (bl ws) (fun e => hno ⟨by rw [← HL.out]; exact e.1, e.2⟩))
    clear hno hb1 HB1 HH
    go_wp2
    go_quiet (fail)
    go_wp2
    go_ret
    exact TakeP.no HT.out (HR1.out.low (low_drewN _ _))
  subst hm
  obtain ⟨a, b, rfl⟩ := two_words HWL.out
  have hpW : p < W.heap.size := HH.out.lt
  have HAP := hide (HH.out.m5.apart (Nat.le_refl W.heap.size))
  obtain ⟨gb, goff, hge, hgc⟩ := hRd.at (show 0 < 2 by omega)
  simp only [Option.some.injEq, Addr.mk.injEq, and_true] at hge
  obtain ⟨rfl, rfl⟩ := hge
  have y0 : w1.drew.cell? ⟨W.heap.size, 0, none⟩ = some (.int .i64 (parseS a.data.toList maxId).1) := hgc 0 (by omega)
  have y1 : w1.drew.cell? ⟨W.heap.size, 1, none⟩ = some (.int .i64 (parseS b.data.toList maxId).1) := hgc 1 (by omega)
  have HT : Hid (takeL s 5 (bl [a, b]) = if allN [a.data.toList, b.data.toList] = true ∧ s.joins.length < 64 ∧ okJ ((parseS a.data.toList maxId).1, (parseS b.data.toList maxId).1) = true then some { s with joins := s.joins ++ [((parseS a.data.toList maxId).1, (parseS b.data.toList maxId).1)] } else none) := hide rfl
  have HALL := hide hall
  have HRD := hide (HR1.out.low (below_drew (Below.refl _ _)))
  have HKR := hide (rroom_any w0 p x s n k0 _ HRD.out 5)
  have hN : x.n5 = s.joins.length := HR1.out.m5.len.symm
  generalize (parseS a.data.toList maxId).1 = za at y0 HT
  generalize (parseS b.data.toList maxId).1 = zb at y1 HT
  by_cases hok : (x.n5 : Int) < roomI 5 s.ranked ∧ okJ (za, zb) = true
  · have HK := hide (addJoin_yes w0 p x s n k0 _ HRD.out (roomI 5 s.ranked) (za, zb) hok.1 (roomI_le _ _) hok.2)
    have HF := hide (show takeL s 5 (bl [a, b]) = some { s with joins := s.joins ++ [(za, zb)] } by rw [HT.out, if_pos ⟨HALL.out, by rw [← hN]; exact (room_nat5 s x.n5).1 hok.1, hok.2⟩])
    generalize roomI 5 s.ranked = rm at HKR HK
    clear hok hb1 hall hRd hgc HH HT
    go_wp2
    go_region_held3 (fun W' => W'.cell? ⟨W.heap.size, 0, none⟩ = some (.int .i64 za) ∧ W'.cell? ⟨W.heap.size, 1, none⟩ = some (.int .i64 zb)) (first | exact ⟨y0, y1⟩ | go_keep) (first
      | (go_at_call 144; refine HKR.out.mono ?_; rintro e W1 ⟨rfl, rfl⟩)
      | (go_at_call 150; refine HK.out.mono ?_; rintro e W2 ⟨rfl, hx, hfr⟩; have hsame := hfr W.heap.size hgl (by omega) HAP.out; replace y0 := (cell_same hsame 0).trans y0; replace y1 := (cell_same hsame 1).trans y1; have HX := hide hx; clear hx hfr hsame))
    all_goals
      go_wp2
      go_ret
      obtain ⟨x', hx'⟩ := HX.out
      exact TakeP.yes HF.out hx'
  · have HK := hide (addJoin_no w0 p x s n k0 _ HRD.out (roomI 5 s.ranked) (za, zb) hok)
    have HF := hide (show takeL s 5 (bl [a, b]) = none by rw [HT.out, if_neg (fun e => hok ⟨(room_nat5 s x.n5).2 (by rw [hN]; exact e.2.1), e.2.2⟩)])
    generalize roomI 5 s.ranked = rm at HKR HK
    clear hok hb1 hall hRd hgc HH HT
    go_wp2
    go_region_held3 (fun W' => W'.cell? ⟨W.heap.size, 0, none⟩ = some (.int .i64 za) ∧ W'.cell? ⟨W.heap.size, 1, none⟩ = some (.int .i64 zb)) (first | exact ⟨y0, y1⟩ | go_keep) (first
      | (go_at_call 144; refine HKR.out.mono ?_; rintro e W1 ⟨rfl, rfl⟩)
      | (go_at_call 150; refine HK.out.mono ?_; rintro e W2 ⟨rfl, hx, hfr⟩; have hsame := hfr.block W.heap.size hgl; replace y0 := (cell_same hsame 0).trans y0; replace y1 := (cell_same hsame 1).trans y1; have HX := hide hx; clear hx hfr hsame))
    all_goals
      go_wp2
      go_ret
      exact TakeP.no HF.out HX.out
end Go.Proofs.YteonoccefpkcgaaGreatDoor.Wf

namespace Go.Proofs.YteonoccefpkcgaaGreatDoor.Wf
open Go.RowKit
set_option linter.unusedVariables false
set_option linter.unusedSimpArgs false

set_option maxHeartbeats 8000000 in
set_option maxRecDepth 20000 in
theorem take2_any (w0 : World) (p : Nat) (x : Sv) (s : Sp) (n k0 : Nat) (W : World) (h : RAt w0 p x s n k0 W) (hE : Env W) (ao : Option Addr) (m cap : Nat) (ws : List ByteArray) (hR : ReadsS W ao m ws) (hws : ∀ s ∈ ws, s.size ≤ 1000000) :
    Calls Tryz.prog 117 #[.pointer (some ⟨p, 0, none⟩), .int .i64 2, .slice ao m cap] W (TakeP w0 p n k0 (takeL s 2 (bl ws))) := by
  have K := tokenW_any ao m cap ws W hR hws
  have HH := hide h
  have HL := hide (show (bl ws).length = m by unfold bl; rw [List.length_map, hR.1])
  clear h hE hR hws
  go_enter Tryz.func117, Tryz.ntmps117
  go_wp2_with fail
  refine K.mono ?_
  clear K
  rintro e w1 ⟨hb1, hcase⟩
  have HR1 := hide (HH.out.low hb1)
  clear hb1 HH
  rcases hcase with ⟨t, rfl, rfl⟩ | ⟨hno, rfl⟩
  case inr =>
    have HT := hide (take2_len s (bl ws) (by rw [HL.out]; exact hno))
    clear hno
    go_wp2
    go_quiet (fail)
    go_wp2
    go_ret
    exact TakeP.no HT.out (HR1.out.low (low_drewN _ _))
  have HT : Hid (takeL s 2 (bl [t]) = if (unhexS t).2 = true ∧ s.tokens.length < roomT s.ranked ∧ okT (unhexS t).1 = true then some { s with tokens := s.tokens ++ [(unhexS t).1] } else none) := hide rfl
  obtain ⟨u, hu⟩ : ∃ u, unhexS t = u := ⟨_, rfl⟩
  rw [hu] at HT ⊢
  clear hu
  obtain ⟨us, uo⟩ := u
  cases uo with
  | false =>
    have HF := hide (show takeL s 2 (bl [t]) = none by rw [HT.out, if_neg (fun e => by cases e.1)])
    clear HT
    go_wp2
    go_quiet (fail)
    go_wp2
    go_ret
    exact TakeP.no HF.out (HR1.out.low (low_drewN _ _))
  | true =>
    have HRD := hide (HR1.out.low (below_drew (Below.refl _ _)))
    have HKR := hide (rroom_any w0 p x s n k0 _ HRD.out 2)
    have hN : x.n2 = s.tokens.length := HR1.out.m2.len.symm
    by_cases hok : (x.n2 : Int) < roomI 2 s.ranked ∧ okT us = true
    · have HK := hide (addToken_yes w0 p x s n k0 _ HRD.out (roomI 2 s.ranked) us hok.1 (roomI_le _ _) hok.2)
      have HF := hide (show takeL s 2 (bl [t]) = some { s with tokens := s.tokens ++ [us] } by rw [HT.out, if_pos ⟨rfl, by rw [← hN]; exact (room_nat2 s x.n2).1 hok.1, hok.2⟩])
      generalize roomI 2 s.ranked = rm at HKR HK
      clear hok HT
      go_wp2
      go_region_held3 (fun W' => True) (trivial) (first
        | (go_at_call 144; refine HKR.out.mono ?_; rintro e W1 ⟨rfl, rfl⟩)
        | (go_at_call 146; refine HK.out.mono ?_; rintro e W2 ⟨rfl, hx, hfr⟩; have HX := hide hx; clear hx hfr))
      all_goals
        go_wp2
        go_ret
        obtain ⟨x', hx'⟩ := HX.out
        exact TakeP.yes HF.out hx'
    · have HK := hide (addToken_no w0 p x s n k0 _ HRD.out (roomI 2 s.ranked) us hok)
      have HF := hide (show takeL s 2 (bl [t]) = none by rw [HT.out, if_neg (fun e => hok ⟨(room_nat2 s x.n2).2 (by rw [hN]; exact e.2.1), e.2.2⟩)])
      generalize roomI 2 s.ranked = rm at HKR HK
      clear hok HT
      go_wp2
      go_region_held3 (fun W' => True) (trivial) (first
        | (go_at_call 144; refine HKR.out.mono ?_; rintro e W1 ⟨rfl, rfl⟩)
        | (go_at_call 146; refine HK.out.mono ?_; rintro e W2 ⟨rfl, hx, hfr⟩; have HX := hide hx; clear hx hfr))
      all_goals
        go_wp2
        go_ret
        exact TakeP.no HF.out HX.out

set_option maxHeartbeats 8000000 in
set_option maxRecDepth 20000 in
theorem take3_any (w0 : World) (p : Nat) (x : Sv) (s : Sp) (n k0 : Nat) (W : World) (h : RAt w0 p x s n k0 W) (hE : Env W) (ao : Option Addr) (m cap : Nat) (ws : List ByteArray) (hR : ReadsS W ao m ws) (hws : ∀ s ∈ ws, s.size ≤ 1000000) :
    Calls Tryz.prog 117 #[.pointer (some ⟨p, 0, none⟩), .int .i64 3, .slice ao m cap] W (TakeP w0 p n k0 (takeL s 3 (bl ws))) := by
  have K := specialW_any ao m cap ws W hE hR hws
  have HH := hide h
  have HL := hide (show (bl ws).length = m by unfold bl; rw [List.length_map, hR.1])
  clear h hE hR hws
  go_enter Tryz.func117, Tryz.ntmps117
  go_wp2_with fail
  refine K.mono ?_
  clear K
  rintro e w1 ⟨hb1, hcase⟩
  have HR1 := hide (HH.out.low hb1)
  clear hb1 HH
  rcases hcase with ⟨a, t, rfl, rfl⟩ | ⟨hno, rfl⟩
  case inr =>
    have HT := hide (take3_len s (bl ws) (by rw [HL.out]; exact hno))
    have HR2 := hide (HR1.out.low (low_alloc w1 (.cells #[.int .i64 0, .string ⟨#[]⟩] 57)))
    clear hno
    go_wp2
    generalize w1.alloc (.cells #[.int .i64 0, .string ⟨#[]⟩] 57) = w2 at HR2 ⊢
    go_quiet (fail)
    go_wp2
    go_ret
    exact TakeP.no HT.out (HR2.out.low (low_drewN _ _))
  have HT : Hid (takeL s 3 (bl [a, t]) = if ((parseS a.data.toList maxId).2 = true ∧ (unhexS t).2 = true) ∧ s.specials.length < 32 ∧ okS ((parseS a.data.toList maxId).1, (unhexS t).1) = true then some { s with specials := s.specials ++ [((parseS a.data.toList maxId).1, (unhexS t).1)] } else none) := hide rfl
  obtain ⟨u, hu⟩ : ∃ u, unhexS t = u := ⟨_, rfl⟩
  obtain ⟨q, hq⟩ : ∃ q, parseS a.data.toList maxId = q := ⟨_, rfl⟩
  rw [hu, hq] at HT ⊢
  clear hu hq
  obtain ⟨us, uo⟩ := u
  obtain ⟨z, zo⟩ := q
  have HR2 := hide (HR1.out.low (low_alloc w1 (.cells #[.int .i64 z, .string us] 57)))
  have hpw : p < w1.heap.size := HR1.out.lt
  have HAP := hide (HR1.out.m3.apart (Nat.le_refl w1.heap.size))
  have hblk : (w1.alloc (.cells #[.int .i64 z, .string us] 57)).heap[w1.heap.size]? = some (.cells #[.int .i64 z, .string us] 57 (0, 0)) := heap_alloc_new w1 _
  have hgl : w1.heap.size < (w1.alloc (.cells #[.int .i64 z, .string us] 57)).heap.size := by simp
  simp only at HT ⊢
  cases hzz : (zo && uo) with
  | false =>
    have HF := hide (show takeL s 3 (bl [a, t]) = none by rw [HT.out, if_neg (fun e => by rw [e.1.1, e.1.2] at hzz; cases hzz)])
    clear HT hzz hblk hgl
    go_wp2
    generalize w1.alloc (.cells #[.int .i64 z, .string us] 57) = w2 at HR2 ⊢
    go_quiet (fail)
    go_wp2
    go_ret
    exact TakeP.no HF.out (HR2.out.low (low_drewN _ _))
  | true =>
    have HZ := hide (show zo = true ∧ uo = true by cases zo <;> cases uo <;> simp at hzz ⊢)
    clear hzz
    have HRD := hide (HR2.out.low (below_drew (Below.refl _ _)))
    have HKR := hide (rroom_any w0 p x s n k0 _ HRD.out 3)
    have hN : x.n3 = s.specials.length := HR1.out.m3.len.symm
    have y0 : (w1.alloc (.cells #[.int .i64 z, .string us] 57)).drew.cell? ⟨w1.heap.size, 0, none⟩ = some (.int .i64 z) := by
      show (w1.alloc _).cell? _ = _
      rw [Lib.cell_of_heap hblk]; rfl
    have y1 : (w1.alloc (.cells #[.int .i64 z, .string us] 57)).drew.cell? ⟨w1.heap.size, 1, none⟩ = some (.string us) := by
      show (w1.alloc _).cell? _ = _
      rw [Lib.cell_of_heap hblk]; rfl
    by_cases hok : (x.n3 : Int) < roomI 3 s.ranked ∧ okS (z, us) = true
    · have HK := hide (addSpecial_yes w0 p x s n k0 _ HRD.out (roomI 3 s.ranked) (z, us) hok.1 (roomI_le _ _) hok.2)
      have HF := hide (show takeL s 3 (bl [a, t]) = some { s with specials := s.specials ++ [(z, us)] } by rw [HT.out, if_pos ⟨HZ.out, by rw [← hN]; exact (room_nat3 s x.n3).1 hok.1, hok.2⟩])
      generalize roomI 3 s.ranked = rm at HKR HK
      clear hok HT hblk
      go_wp2
      generalize w1.alloc (.cells #[.int .i64 z, .string us] 57) = w2 at HR2 HRD HKR HK y0 y1 hgl ⊢
      go_region_held3 (fun W' => W'.cell? ⟨w1.heap.size, 0, none⟩ = some (.int .i64 z) ∧ W'.cell? ⟨w1.heap.size, 1, none⟩ = some (.string us)) (first | exact ⟨y0, y1⟩ | go_keep) (first
        | (go_at_call 144; refine HKR.out.mono ?_; rintro e W1 ⟨rfl, rfl⟩)
        | (go_at_call 148; refine HK.out.mono ?_; rintro e W2 ⟨rfl, hx, hfr⟩; have hsame := hfr w1.heap.size hgl (by omega) HAP.out; replace y0 := (cell_same hsame 0).trans y0; replace y1 := (cell_same hsame 1).trans y1; have HX := hide hx; clear hx hfr hsame))
      all_goals
        go_wp2
        go_ret
        obtain ⟨x', hx'⟩ := HX.out
        exact TakeP.yes HF.out hx'
    · have HK := hide (addSpecial_no w0 p x s n k0 _ HRD.out (roomI 3 s.ranked) (z, us) hok)
      have HF := hide (show takeL s 3 (bl [a, t]) = none by rw [HT.out, if_neg (fun e => hok ⟨(room_nat3 s x.n3).2 (by rw [hN]; exact e.2.1), e.2.2⟩)])
      generalize roomI 3 s.ranked = rm at HKR HK
      clear hok HT hblk
      go_wp2
      generalize w1.alloc (.cells #[.int .i64 z, .string us] 57) = w2 at HR2 HRD HKR HK y0 y1 hgl ⊢
      go_region_held3 (fun W' => W'.cell? ⟨w1.heap.size, 0, none⟩ = some (.int .i64 z) ∧ W'.cell? ⟨w1.heap.size, 1, none⟩ = some (.string us)) (first | exact ⟨y0, y1⟩ | go_keep) (first
        | (go_at_call 144; refine HKR.out.mono ?_; rintro e W1 ⟨rfl, rfl⟩)
        | (go_at_call 148; refine HK.out.mono ?_; rintro e W2 ⟨rfl, hx, hfr⟩; have hsame := hfr.block w1.heap.size hgl; replace y0 := (cell_same hsame 0).trans y0; replace y1 := (cell_same hsame 1).trans y1; have HX := hide hx; clear hx hfr hsame))
      all_goals
        go_wp2
        go_ret
        exact TakeP.no HF.out HX.out

set_option maxHeartbeats 8000000 in
set_option maxRecDepth 20000 in
theorem take0_any (w0 : World) (p : Nat) (x : Sv) (s : Sp) (n k0 : Nat) (W : World) (h : RAt w0 p x s n k0 W) (ao : Option Addr) (m cap : Nat) (ws : List ByteArray) (hR : ReadsS W ao m ws) (hbp : ∀ b off, ao = some ⟨b, off, none⟩ → b ≠ p) :
    Calls Tryz.prog 117 #[.pointer (some ⟨p, 0, none⟩), .int .i64 0, .slice ao m cap] W (TakeP w0 p n k0 (takeL s 0 (bl ws))) := by
  have K := rhead_any w0 p x s n k0 W h ao m cap ws hR hbp
  clear h hR hbp
  obtain ⟨res, hres⟩ : ∃ res, takeL s 0 (bl ws) = res := ⟨_, rfl⟩
  rw [hres] at K ⊢
  clear hres
  go_enter Tryz.func117, Tryz.ntmps117
  go_wp2_with fail
  refine K.mono ?_
  clear K
  intro e w1 ht
  cases res with
  | none =>
    obtain ⟨rfl, ht⟩ := ht
    have HT := hide ht
    clear ht
    go_wp2
    go_ret
    exact ⟨rfl, HT.out⟩
  | some s' =>
    obtain ⟨rfl, ht⟩ := ht
    have HT := hide ht
    clear ht
    go_wp2
    go_ret
    exact ⟨rfl, HT.out⟩
set_option maxRecDepth 20000 in
theorem take6_any (w0 : World) (p : Nat) (x : Sv) (s : Sp) (n k0 : Nat) (W : World) (h : RAt w0 p x s n k0 W) (ao : Option Addr) (m cap : Nat) (ws : List ByteArray) :
    Calls Tryz.prog 117 #[.pointer (some ⟨p, 0, none⟩), .int .i64 6, .slice ao m cap] W (TakeP w0 p n k0 (takeL s 6 (bl ws))) := by
  have HF := hide (show takeL s 6 (bl ws) = none by unfold takeL; rfl)
  have HH := hide h
  clear h
  go_enter Tryz.func117, Tryz.ntmps117
  go_wp2
  go_ret
  exact TakeP.no HF.out HH.out
end Go.Proofs.YteonoccefpkcgaaGreatDoor.Wf

namespace Go.Proofs.YteonoccefpkcgaaGreatDoor.Wf
open Go.RowKit
set_option linter.unusedVariables false
set_option linter.unusedSimpArgs false

theorem take_any (w0 : World) (p : Nat) (x : Sv) (s : Sp) (n k0 : Nat) (W : World) (h : RAt w0 p x s n k0 W) (hE : Env W) (ao : Option Addr) (m cap : Nat) (ws : List ByteArray) (hR : ReadsS W ao m ws) (hws : ∀ s ∈ ws, s.size ≤ 1000000) (hbp : ∀ b off, ao = some ⟨b, off, none⟩ → b ≠ p) (k : Nat) (hk : k ≤ 6) :
    Calls Tryz.prog 117 #[.pointer (some ⟨p, 0, none⟩), .int .i64 k, .slice ao m cap] W (TakeP w0 p n k0 (takeL s k (bl ws))) := by
  have hs : k = 0 ∨ k = 1 ∨ k = 2 ∨ k = 3 ∨ k = 4 ∨ k = 5 ∨ k = 6 := by omega
  rcases hs with rfl | rfl | rfl | rfl | rfl | rfl | rfl
  · exact take0_any w0 p x s n k0 W h ao m cap ws hR hbp
  · exact take1_any w0 p x s n k0 W h hE ao m cap ws hR hws
  · exact take2_any w0 p x s n k0 W h hE ao m cap ws hR hws
  · exact take3_any w0 p x s n k0 W h hE ao m cap ws hR hws
  · exact take4_any w0 p x s n k0 W h hE ao m cap ws hR hws
  · exact take5_any w0 p x s n k0 W h hE ao m cap ws hR hws
  · exact take6_any w0 p x s n k0 W h ao m cap ws
theorem kindL_le (f : List UInt8) : kindL f ≤ 6 := by
  unfold kindL
  repeat' split
  all_goals omega

/-- What a line's reading leaves. -/
def ReadP (w0 : World) (p n k0 : Nat) (res : Option Rd) (e : Ending) (w' : World) : Prop := match res with
  | some r' => e = .returned (.bool true) ∧ ∃ x', RAt w0 p x' r'.sp r'.n r'.k w'
  | none => e = .returned (.bool false) ∧ ∃ x' s', RAt w0 p x' s' n k0 w'
theorem cut_size (line : ByteArray) (c : UInt8) : ∀ x ∈ cutL c line.data.toList, x.length ≤ line.size := by
  have h2 : line.data.toList.length = line.size := by rw [Array.length_toList]; rfl
  rw [← h2]
  generalize line.data.toList = l
  induction l with
  | nil => intro x hx; simp [cutL] at hx; subst hx; simp
  | cons b l ih =>
    intro x hx
    simp only [cutL] at hx
    by_cases hb : b = c
    · rw [if_pos hb] at hx
      rcases List.mem_cons.1 hx with rfl | hx
      · simp
      · have := ih x hx; simp; omega
    · rw [if_neg hb] at hx
      cases hc : cutL c l with
      | nil => exact absurd hc (cut_ne c l)
      | cons y r =>
        rw [hc] at hx ih
        simp only at hx
        rcases List.mem_cons.1 hx with rfl | hx
        · have := ih y List.mem_cons_self; simp; omega
        · have := ih x (List.mem_cons_of_mem _ hx); simp; omega
theorem bl_bt (l : List (List UInt8)) : bl (l.map (fun x => (⟨x.toArray⟩ : ByteArray))) = l := by
  unfold bl
  rw [List.map_map]
  conv => rhs; rw [← List.map_id l]
  rfl

theorem tv_cell (W : World) (l : List (List UInt8)) (i : Nat) (hi : i < l.length) : (W.alloc (.cells (tv l).toArray 9)).cell? ⟨W.heap.size, i, none⟩ = some (.string ⟨(l.getD i []).toArray⟩) := by
  rw [Lib.cell_of_heap (heap_alloc_new W _)]
  simp [tv, hi, List.getD_eq_getElem?_getD]

set_option maxHeartbeats 8000000 in
set_option maxRecDepth 20000 in
theorem read_any (w0 : World) (p : Nat) (x : Sv) (s : Sp) (n k0 : Nat) (W : World) (h : RAt w0 p x s n k0 W) (hE : Env W) (line : ByteArray) (hs : line.size ≤ 100000) (hn : n ≤ 1000000) (hk0 : k0 ≤ 6) :
    Calls Tryz.prog 78 #[.pointer (some ⟨p, 0, none⟩), .string line] W (ReadP w0 p n k0 (readL ⟨s, n, k0⟩ line.data.toList)) := by
  obtain ⟨m, hm⟩ := hE.maxl
  have K := cut_any line m W (by omega) hm
  obtain ⟨f, rest, hcut⟩ : ∃ f rest, cutL 32 line.data.toList = f :: rest := by
    cases hc : cutL 32 line.data.toList with
    | nil => exact absurd hc (cut_ne _ _)
    | cons f rest => exact ⟨f, rest, rfl⟩
  have hsz := cut_size line 32
  rw [hcut] at K hsz
  have HRL : Hid (readL ⟨s, n, k0⟩ line.data.toList = if folL n k0 (kindL f) = true then (takeL s (kindL f) rest).map (fun s => ⟨s, n + 1, kindL f⟩) else none) := by
    refine hide ?_
    unfold readL
    rw [hcut]
    rfl
  have hlo := low_alloc W (.cells (tv (f :: rest)).toArray 9)
  have HR1 := hide (h.low hlo)
  have HE1 := hide (hE.kept hlo)
  have hpW : p < W.heap.size := h.lt
  have c0 : (W.alloc (.cells (tv (f :: rest)).toArray 9)).cell? ⟨W.heap.size, 0, none⟩ = some (.string ⟨f.toArray⟩) := by simp [tv]
  have HRS : Hid (∀ ao, (rest.length = 0 ∨ ao = some ⟨W.heap.size, 1, none⟩) → ReadsS (W.alloc (.cells (tv (f :: rest)).toArray 9)) ao rest.length (rest.map (fun x => (⟨x.toArray⟩ : ByteArray)))) := by
    refine hide fun ao hao => ⟨by rw [List.length_map], ?_⟩
    rcases hao with h0 | h0
    · exact Or.inl h0
    · refine Or.inr ⟨W.heap.size, 1, h0, fun i hi => ?_⟩
      have := tv_cell W (f :: rest) (i + 1) (by simp; omega)
      rw [Nat.add_comm 1 i, this]
      simp [hi, List.getD_eq_getElem?_getD]
  have HSZ : Hid (∀ t ∈ rest.map (fun x => (⟨x.toArray⟩ : ByteArray)), t.size ≤ 1000000) := by
    refine hide fun t ht => ?_
    obtain ⟨y, hy, rfl⟩ := List.mem_map.1 ht
    have h1 := hsz y (List.mem_cons_of_mem _ hy)
    show y.toArray.size ≤ _
    rw [List.size_toArray]
    omega
  have HK := hide (kindL_le f)
  have HLO := hide hlo
  have hNr : (f :: rest).length = rest.length + 1 := rfl
  rw [hNr] at K
  clear h hE hm hcut hsz hlo hNr
  have hr1 : (1 : Int) ≤ ((rest.length + 1 : Nat) : Int) := by omega
  have hr2 : (1 : Int) ≤ (rest.length : Int) + 1 := by omega
  have hr3 : 1 ≤ rest.length + 1 := by omega
  have hr0 : (0 : Int) < (rest.length : Int) + 1 := by omega
  have hr4 : (0 : Int) < ((rest.length + 1 : Nat) : Int) := by omega
  go_enter Tryz.func78, Tryz.ntmps78
  go_wp2_with fail
  refine K.mono ?_
  clear K
  rintro e w1 ⟨rfl, hw1⟩
  rw [← hw1] at HR1 HE1 c0 HRS HLO
  clear hw1
  have K2 := kindOf_any ⟨f.toArray⟩ w1 HE1.out
  rw [show (⟨f.toArray⟩ : ByteArray).data.toList = f from rfl] at K2
  obtain ⟨k, hk⟩ : ∃ k, kindL f = k := ⟨_, rfl⟩
  rw [hk] at K2 HRL HK
  have hk6 : k ≤ 6 := HK.out
  clear hk HK
  go_wp2_with fail
  refine K2.mono ?_
  clear K2
  rintro e w2 ⟨rfl, rfl⟩
  have K3 := follows_any w0 p x s n k0 w2 HR1.out hn k (by omega) (by omega)
  cases hf : folL n k0 k with
  | false =>
    rw [hf] at K3 HRL
    rw [if_neg (by decide)] at HRL
    clear hf
    go_wp2_with fail
    refine K3.mono ?_
    clear K3
    rintro e w3 ⟨rfl, rfl⟩
    go_wp2
    go_ret
    rw [HRL.out]
    exact ⟨rfl, x, s, HR1.out⟩
  | true =>
    rw [hf] at K3 HRL
    rw [if_pos rfl] at HRL
    clear hf
    go_wp2_with fail
    refine K3.mono ?_
    clear K3
    rintro e w3 ⟨rfl, rfl⟩
    have HK4 : Hid (∀ ao cap, (rest.length = 0 ∨ ao = some ⟨W.heap.size, 1, none⟩) → (∀ b off, ao = some ⟨b, off, none⟩ → b ≠ p) → Calls Tryz.prog 117 #[.pointer (some ⟨p, 0, none⟩), .int .i64 k, .slice ao rest.length cap] w3 (TakeP w0 p n k0 (takeL s k rest))) := by
      refine hide fun ao cap h1 h2 => ?_
      have := take_any w0 p x s n k0 w3 HR1.out HE1.out ao rest.length cap _ (HRS.out ao h1) HSZ.out h2 k hk6
      rwa [bl_bt] at this
    by_cases h0 : rest.length = 0
    · have HK5 := hide (HK4.out (some ⟨W.heap.size, 0, none⟩) 0 (Or.inl h0) (fun b off e => by cases e; omega))
      rw [h0] at HK5 hr1 hr2 hr3 hr0 hr4 ⊢
      clear HK4 HRS
      go_wp2_with fail
      refine HK5.out.mono ?_
      clear HK5
      intro e w4 ht
      cases hres : takeL s k rest with
      | none =>
        rw [hres] at ht HRL
        obtain ⟨rfl, x', s', hx⟩ := ht
        have HX := hide hx
        clear hx hres
        go_wp2
        go_ret
        rw [HRL.out]
        exact ⟨rfl, x', s', HX.out⟩
      | some s' =>
        rw [hres] at ht HRL
        obtain ⟨rfl, x', hx⟩ := ht
        have q7 : w4.cell? ⟨p, 7, none⟩ = some (.int .i64 k0) := hx.cell 7
        have f7 := hx.free 7
        have hx7 := hx.setK k
        have q6 : (w4.setCell ⟨p, 7, none⟩ (.int .i64 k)).cell? ⟨p, 6, none⟩ = some (.int .i64 n) := hx7.cell 6
        have f6 : (w4.setCell ⟨p, 7, none⟩ (.int .i64 k)).frozen? ⟨p, 6, none⟩ = false := hx7.free 6
        have HX := hide (hx7.setN (n + 1))
        clear hx hx7 hres
        go_wp2
        go_ret
        rw [HRL.out]
        exact ⟨rfl, x', HX.out⟩
    · have HK5 := hide (HK4.out (some ⟨W.heap.size, 1, none⟩) rest.length (Or.inr rfl) (fun b off e => by cases e; omega))
      clear HK4 HRS
      have h0i : ¬ ((rest.length : Int) + 1 = 1) := by omega
      go_wp2_with fail
      refine HK5.out.mono ?_
      clear HK5
      intro e w4 ht
      cases hres : takeL s k rest with
      | none =>
        rw [hres] at ht HRL
        obtain ⟨rfl, x', s', hx⟩ := ht
        have HX := hide hx
        clear hx hres
        go_wp2
        go_ret
        rw [HRL.out]
        exact ⟨rfl, x', s', HX.out⟩
      | some s' =>
        rw [hres] at ht HRL
        obtain ⟨rfl, x', hx⟩ := ht
        have q7 : w4.cell? ⟨p, 7, none⟩ = some (.int .i64 k0) := hx.cell 7
        have f7 := hx.free 7
        have hx7 := hx.setK k
        have q6 : (w4.setCell ⟨p, 7, none⟩ (.int .i64 k)).cell? ⟨p, 6, none⟩ = some (.int .i64 n) := hx7.cell 6
        have f6 : (w4.setCell ⟨p, 7, none⟩ (.int .i64 k)).frozen? ⟨p, 6, none⟩ = false := hx7.free 6
        have HX := hide (hx7.setN (n + 1))
        clear hx hx7 hres
        go_wp2
        go_ret
        rw [HRL.out]
        exact ⟨rfl, x', HX.out⟩
end Go.Proofs.YteonoccefpkcgaaGreatDoor.Wf

namespace Go.Proofs.YteonoccefpkcgaaGreatDoor.Wf
open Go.RowKit
set_option linter.unusedVariables false
set_option linter.unusedSimpArgs false

theorem spec_rows {B : Nat} {x : Sv} {s : Sp} {W : World} (r : x.r = s.ranked) (m1 : Row B 117 2 eM x.a1 x.n1 x.c1 s.merges W) (m2 : Row B 9 1 eT x.a2 x.n2 x.c2 s.tokens W) (m3 : Row B 57 2 eS x.a3 x.n3 x.c3 s.specials W) (m4 : Row B 64 3 eC x.a4 x.n4 x.c4 s.classes W) (m5 : Row B 66 2 eM x.a5 x.n5 x.c5 s.joins W) : SpAt W x s := by
  refine ⟨r, ⟨m1.len, ?_⟩, ⟨m2.len, ?_⟩, ⟨m3.len, ?_⟩, ⟨m4.len, ?_⟩, ⟨m5.len, ?_⟩⟩
  · rcases Nat.eq_zero_or_pos x.n1 with h0 | h0
    · exact Or.inl h0
    · obtain ⟨g, hg, hl, hc⟩ := m1.cell (fun _ => rfl) h0 (0, 0)
      exact Or.inr ⟨g, 0, hg, hl, fun i hi => ⟨hc i 0 hi (by omega), hc i 1 hi (by omega)⟩⟩
  · rcases Nat.eq_zero_or_pos x.n2 with h0 | h0
    · exact Or.inl h0
    · obtain ⟨g, hg, hl, hc⟩ := m2.cell (fun _ => rfl) h0 ⟨#[]⟩
      exact Or.inr ⟨g, 0, hg, hl, fun i hi => by have := hc i 0 hi (by omega); rw [Nat.mul_one] at this; exact this⟩
  · rcases Nat.eq_zero_or_pos x.n3 with h0 | h0
    · exact Or.inl h0
    · obtain ⟨g, hg, hl, hc⟩ := m3.cell (fun _ => rfl) h0 (0, ⟨#[]⟩)
      exact Or.inr ⟨g, 0, hg, hl, fun i hi => ⟨hc i 0 hi (by omega), hc i 1 hi (by omega)⟩⟩
  · rcases Nat.eq_zero_or_pos x.n4 with h0 | h0
    · exact Or.inl h0
    · obtain ⟨g, hg, hl, hc⟩ := m4.cell (fun _ => rfl) h0 (0, 0, 0)
      exact Or.inr ⟨g, 0, hg, hl, fun i hi => ⟨hc i 0 hi (by omega), hc i 1 hi (by omega), hc i 2 hi (by omega)⟩⟩
  · rcases Nat.eq_zero_or_pos x.n5 with h0 | h0
    · exact Or.inl h0
    · obtain ⟨g, hg, hl, hc⟩ := m5.cell (fun _ => rfl) h0 (0, 0)
      exact Or.inr ⟨g, 0, hg, hl, fun i hi => ⟨hc i 0 hi (by omega), hc i 1 hi (by omega)⟩⟩
/-- The rows of a spec; a store into a block of another type leaves them. -/
structure Rws (B : Nat) (x : Sv) (s : Sp) (W : World) : Prop where
  r : x.r = s.ranked
  m1 : Row B 117 2 eM x.a1 x.n1 x.c1 s.merges W
  m2 : Row B 9 1 eT x.a2 x.n2 x.c2 s.tokens W
  m3 : Row B 57 2 eS x.a3 x.n3 x.c3 s.specials W
  m4 : Row B 64 3 eC x.a4 x.n4 x.c4 s.classes W
  m5 : Row B 66 2 eM x.a5 x.n5 x.c5 s.joins W
theorem Rws.spec {B : Nat} {x : Sv} {s : Sp} {W : World} (h : Rws B x s W) : SpAt W x s := spec_rows h.r h.m1 h.m2 h.m3 h.m4 h.m5
theorem Rws.set {B : Nat} {x : Sv} {s : Sp} {W : World} (h : Rws B x s W) {q : Nat} {cs : Array Value} {fr : Nat × Nat} (hq : W.heap[q]? = some (.cells cs 32 fr)) (j : Nat) (v : Value) : Rws B x s (W.setCell ⟨q, j, none⟩ v) :=
  ⟨h.r, h.m1.set hq (by decide) _ _, h.m2.set hq (by decide) _ _, h.m3.set hq (by decide) _ _, h.m4.set hq (by decide) _ _, h.m5.set hq (by decide) _ _⟩
def Sv.zero : Sv := ⟨false, none, 0, 0, none, 0, 0, none, 0, 0, none, 0, 0, none, 0, 0⟩
theorem zero_at (W : World) : SpAt W Sv.zero Sp.zero := ⟨rfl, ⟨rfl, Or.inl rfl⟩, ⟨rfl, Or.inl rfl⟩, ⟨rfl, Or.inl rfl⟩, ⟨rfl, Or.inl rfl⟩, ⟨rfl, Or.inl rfl⟩⟩
/-- A spec stored into a box. -/
abbrev put6 (W : World) (q : Nat) (x : Sv) : World := (((((W.setCell ⟨q, 0, none⟩ (.bool x.r)).setCell ⟨q, 1, none⟩ (.slice x.a1 x.n1 x.c1)).setCell ⟨q, 2, none⟩ (.slice x.a2 x.n2 x.c2)).setCell ⟨q, 3, none⟩ (.slice x.a3 x.n3 x.c3)).setCell ⟨q, 4, none⟩ (.slice x.a4 x.n4 x.c4)).setCell ⟨q, 5, none⟩ (.slice x.a5 x.n5 x.c5)
theorem put6_box {W : World} {q : Nat} {y : Sv} (h : W.heap[q]? = some (.cells y.cs 32 (0, 0))) (x : Sv) : (put6 W q x).heap[q]? = some (.cells x.cs 32 (0, 0)) :=
  set_block (set_block (set_block (set_block (set_block (set_block h 0 _) 1 _) 2 _) 3 _) 4 _) 5 _
theorem put6_rows {W : World} {q B : Nat} {y x z : Sv} {s : Sp} (h : W.heap[q]? = some (.cells y.cs 32 (0, 0))) (hr : Rws B z s W) : Rws B z s (put6 W q x) :=
  (((((hr.set h _ _).set (set_block h 0 _) _ _).set (set_block (set_block h 0 _) 1 _) _ _).set (set_block (set_block (set_block h 0 _) 1 _) 2 _) _ _).set (set_block (set_block (set_block (set_block h 0 _) 1 _) 2 _) 3 _) _ _).set (set_block (set_block (set_block (set_block (set_block h 0 _) 1 _) 2 _) 3 _) 4 _) _ _
theorem put6_below {B : Nat} {w W : World} {q : Nat} (h : Below B w W) (hq : B ≤ q) (x : Sv) : Below B w (put6 W q x) :=
  (((((h.setCell (p := ⟨q, 0, none⟩) hq _).setCell (p := ⟨q, 1, none⟩) hq _).setCell (p := ⟨q, 2, none⟩) hq _).setCell (p := ⟨q, 3, none⟩) hq _).setCell (p := ⟨q, 4, none⟩) hq _).setCell (p := ⟨q, 5, none⟩) hq _
theorem box_cells {W : World} {q : Nat} {x : Sv} (h : W.heap[q]? = some (.cells x.cs 32 (0, 0))) : BxS q x W := by
  refine ⟨?_, ?_, ?_, ?_, ?_, ?_⟩ <;> (rw [Lib.cell_of_heap h]; rfl)

/-- What Parse leaves. -/
def ParsePost (w : World) (t : List UInt8) (e : Ending) (w' : World) : Prop := ∃ x, e = .returned (.tuple #[.agg x.cs, .int .i64 (parseP t).2.1, .int .i64 (parseP t).2.2]) ∧ SpAt w' x (parseP t).1 ∧ Below w.heap.size w w'

theorem runL_k : ∀ (ls : List (List UInt8)) (r : Rd), r.k ≤ 6 → (runL r ls).1.k ≤ 6
  | [], r, h => h
  | l :: ls, r, h => by
    have e : runL r (l :: ls) = match readL r l with | none => (r, false) | some r' => runL r' ls := rfl
    rw [e]
    cases hx : readL r l with
    | none => exact h
    | some r' =>
      refine runL_k ls r' ?_
      unfold readL readW at hx
      split at hx
      · rw [Option.map_eq_some_iff] at hx
        obtain ⟨s, _, rfl⟩ := hx
        exact kindL_le _
      · cases hx
theorem runL_step {l : List (List UInt8)} {k : Nat} (hk : k < l.length) {r0 r : Rd} (h : runL r0 (l.take k) = (r, true)) : runL r0 (l.take (k + 1)) = match readL r (l.getD k []) with | none => (r, false) | some r' => (r', true) := by
  rw [List.take_succ_eq_append_getElem hk, runL_append _ _ _ (by rw [h]), h]
  have e : l.getD k [] = l[k] := by simp [List.getD_eq_getElem?_getD, hk]
  rw [e]
  show (match readL r l[k] with | none => (r, false) | some r' => runL r' []) = _
  cases readL r l[k] <;> rfl
theorem runL_stop {l : List (List UInt8)} {k : Nat} (hk : k < l.length) {r0 r : Rd} (h : runL r0 (l.take k) = (r, true)) (h2 : readL r (l.getD k []) = none) : runL r0 l = (r, false) := by
  have e1 : l = l.take k ++ l.drop k := (List.take_append_drop k l).symm
  have e2 : l.drop k = l[k] :: l.drop (k + 1) := List.drop_eq_getElem_cons hk
  have e3 : l.getD k [] = l[k] := by simp [List.getD_eq_getElem?_getD, hk]
  rw [e3] at h2
  rw [e1, runL_append _ _ _ (by rw [h]), h, e2]
  show (match readL r l[k] with | none => (r, false) | some r' => runL r' (l.drop (k + 1))) = _
  rw [h2]
theorem parseP_cut {t : List UInt8} {l : List (List UInt8)} {x : List UInt8} (hl : cutL 10 t = l ++ [x]) (hs : t.length ≤ 60000) : parseP t = parseC l x := by
  unfold parseP
  rw [if_neg (by omega), hl, List.dropLast_concat]
  simp
theorem cut_last2 (c : UInt8) (s : List UInt8) : ∃ l x, cutL c s = l ++ [x] := by
  rcases List.eq_nil_or_concat (cutL c s) with h | ⟨l, x, h⟩
  · exact absurd h (cut_ne c s)
  · exact ⟨l, x, by simpa using h⟩
theorem mem_getD2 {α : Type} {p : α → Prop} {l : List α} (h : ∀ x ∈ l, p x) (d : α) {k : Nat} (hk : k < l.length) : p (l.getD k d) := by
  rw [List.getD_eq_getElem?_getD, List.getElem?_eq_getElem hk]
  exact h _ (List.getElem_mem hk)
theorem putz_box {W : World} {q : Nat} (h : W.heap[q]? = some (.cells #[.bool false, .slice none 0 0, .slice none 0 0, .slice none 0 0, .slice none 0 0, .slice none 0 0] 32 (0, 0))) : ((((((W.setCell ⟨q, 0, none⟩ (.bool false)).setCell ⟨q, 1, none⟩ (.slice none 0 0)).setCell ⟨q, 2, none⟩ (.slice none 0 0)).setCell ⟨q, 3, none⟩ (.slice none 0 0)).setCell ⟨q, 4, none⟩ (.slice none 0 0)).setCell ⟨q, 5, none⟩ (.slice none 0 0)).heap[q]? = some (.cells #[.bool false, .slice none 0 0, .slice none 0 0, .slice none 0 0, .slice none 0 0, .slice none 0 0] 32 (0, 0)) := put6_box (y := Sv.zero) h Sv.zero
theorem putz_below {B : Nat} {w W : World} {q : Nat} (h : Below B w W) (hq : B ≤ q) : Below B w ((((((W.setCell ⟨q, 0, none⟩ (.bool false)).setCell ⟨q, 1, none⟩ (.slice none 0 0)).setCell ⟨q, 2, none⟩ (.slice none 0 0)).setCell ⟨q, 3, none⟩ (.slice none 0 0)).setCell ⟨q, 4, none⟩ (.slice none 0 0)).setCell ⟨q, 5, none⟩ (.slice none 0 0)) := put6_below h hq Sv.zero
theorem boxz_cells {W : World} {q : Nat} (h : W.heap[q]? = some (.cells #[.bool false, .slice none 0 0, .slice none 0 0, .slice none 0 0, .slice none 0 0, .slice none 0 0] 32 (0, 0))) : W.cell? ⟨q, 0, none⟩ = some (.bool false) ∧ W.cell? ⟨q, 1, none⟩ = some (.slice none 0 0) ∧ W.cell? ⟨q, 2, none⟩ = some (.slice none 0 0) ∧ W.cell? ⟨q, 3, none⟩ = some (.slice none 0 0) ∧ W.cell? ⟨q, 4, none⟩ = some (.slice none 0 0) ∧ W.cell? ⟨q, 5, none⟩ = some (.slice none 0 0) := box_cells (x := Sv.zero) h
theorem rd_new (w : World) : RAt w w.heap.size Sv.zero Sp.zero 0 0 (w.alloc (.cells (rdC Sv.zero 0 0) 157)) :=
  ⟨low_alloc _ _, Nat.le_refl _, heap_alloc_new w _, rfl, Row.nil _ _ _ _ _, Row.nil _ _ _ _ _, Row.nil _ _ _ _ _, Row.nil _ _ _ _ _, Row.nil _ _ _ _ _⟩
theorem RAt.rows {w0 : World} {p : Nat} {x : Sv} {s : Sp} {n k : Nat} {W : World} (h : RAt w0 p x s n k W) : Rws w0.heap.size x s W := ⟨h.r, h.m1, h.m2, h.m3, h.m4, h.m5⟩

set_option maxHeartbeats 8000000 in
set_option maxRecDepth 20000 in
theorem parseT_any (t : ByteArray) (w : World) (hE : Env w) (hbig : t.size ≤ 9223372036854775807) :
    Calls Tryz.prog 43 #[.string t] w (ParsePost w t.data.toList) := by
  have hsz : t.data.toList.length = t.size := by rw [Array.length_toList]; rfl
  have hlo := low_alloc w (.cells Sv.zero.cs 32)
  have hblk : (w.alloc (.cells Sv.zero.cs 32)).heap[w.heap.size]? = some (.cells Sv.zero.cs 32 (0, 0)) := heap_alloc_new w _
  by_cases hL : 60000 < t.size
  case pos =>
    have hL2 : (60000 : Int) < (t.size : Int) := by omega
    have HP := hide (show parseP t.data.toList = (Sp.zero, 0, 3) by unfold parseP; rw [if_pos (by omega)])
    obtain ⟨z0, z1, z2, z3, z4, z5⟩ := box_cells hblk
    have HB := hide (put6_below hlo (Nat.le_refl _) Sv.zero)
    obtain ⟨g0, g1, g2, g3, g4, g5⟩ := box_cells (put6_box hblk Sv.zero)
    have HG := hide (And.intro g0 (And.intro g1 (And.intro g2 (And.intro g3 (And.intro g4 g5)))))
    clear hlo hblk hsz hE g0 g1 g2 g3 g4 g5
    go_enter Tryz.func43, Tryz.ntmps43
    go_wp2
    refine bodyPost_ret (v := .tuple #[.agg Sv.zero.cs, .int .i64 0, .int .i64 3]) (by simp [results, Tryz.results43, go_sem, Sv.zero]) rfl ?_
    refine ⟨Sv.zero, by rw [HP.out]; rfl, by rw [HP.out]; exact zero_at _, low_alloc _ _⟩
  have hL2 : ¬ (60000 : Int) < (t.size : Int) := by omega
  obtain ⟨l, xl, hl⟩ := cut_last2 10 t.data.toList
  have HP := hide (parseP_cut hl (by omega))
  obtain ⟨L, hLe⟩ : ∃ L, l.length = L := ⟨_, rfl⟩
  obtain ⟨m, hm⟩ := (hE.kept hlo).maxl
  have K := lines_any t m _ (by omega) hm l L xl hl hLe
  have hcl := cut_len (c := 10) t.data.toList
  have hct := List.count_le_length (a := 10) (l := t.data.toList)
  have HLL : Hid (L ≤ 60000 ∧ ∀ y ∈ l, y.length ≤ 60000) := by
    refine hide ⟨?_, fun y hy => ?_⟩
    · rw [hl, List.length_append, hLe, List.length_singleton] at hcl
      omega
    · have := cut_size t 10 y (by rw [hl]; exact List.mem_append_left _ hy)
      omega
  have HLE := hide hLe
  have HE := hide (hE.kept hlo)
  have HBLK := hide hblk
  have HLO := hide hlo
  have hL3 : L ≤ 60000 := HLL.out.1
  clear hl hm hE hblk hlo hLe hcl hct hsz
  obtain ⟨ended, hend⟩ : ∃ ended, xl.isEmpty = ended := ⟨_, rfl⟩
  rw [hend] at K
  have HEND := hide hend
  clear hend
  go_enter Tryz.func43, Tryz.ntmps43
  go_wp2_with fail
  refine K.mono ?_
  clear K
  rintro e w2 ⟨rfl, nq, hw2⟩
  have hlo2 := low_alloc (w.alloc (.cells Sv.zero.cs 32)) (.cells (tv (l ++ [xl])).toArray 9)
  have hb2 : Below (w.alloc (.cells Sv.zero.cs 32)).heap.size (w.alloc (.cells Sv.zero.cs 32)) w2 := by
    rw [hw2]
    exact hlo2.trans ⟨rfl, rfl, rfl, Nat.le_refl _, fun _ _ => rfl⟩
  have hsz1 : (w.alloc (.cells Sv.zero.cs 32)).heap.size = w.heap.size + 1 := alloc_size _ _
  have HLC : Hid (∀ i, i < L → w2.cell? ⟨w.heap.size + 1, i, none⟩ = some (.string ⟨(l.getD i []).toArray⟩)) := by
    refine hide fun i hi => ?_
    have h1 := tv_cell (w.alloc (.cells Sv.zero.cs 32)) (l ++ [xl]) i (by rw [List.length_append, HLE.out]; omega)
    rw [hsz1] at h1
    rw [hw2]
    show ((w.alloc (.cells Sv.zero.cs 32)).alloc (.cells (tv (l ++ [xl])).toArray 9)).cell? _ = _
    rw [h1, List.getD_eq_getElem?_getD, List.getD_eq_getElem?_getD, List.getElem?_append_left (by rw [HLE.out]; exact hi)]
  have hlt2 : w.heap.size + 1 < w2.heap.size := by
    rw [hw2]
    show w.heap.size + 1 < ((w.alloc (.cells Sv.zero.cs 32)).alloc (.cells (tv (l ++ [xl])).toArray 9)).heap.size
    rw [alloc_size, hsz1]
    omega
  have HBX2 : Hid (w2.heap[w.heap.size]? = some (.cells Sv.zero.cs 32 (0, 0))) := hide (by rw [hb2.block _ (by omega)]; exact HBLK.out)
  have HE2 := hide (HE.out.kept hb2)
  have HB2 := hide (HLO.out.trans (hb2.mono HLO.out.size))
  have HR0 := hide (rd_new w2)
  have hd1 : w.heap.size < w2.heap.size := by omega
  rw [hsz1]
  clear hw2 hlo2 hb2 hsz1 HBLK HLO HE
  go_wp2
  go_loopw [21] (fun i wr => ∃ (k : Nat) (x : Sv) (r : Rd), i = .int .i64 k ∧ k ≤ L ∧ Hid (runL rd0 (l.take k) = (r, true)) ∧ Hid (RAt w2 w2.heap.size x r.sp r.n r.k wr)) (fun i _ => L - (intOf i).toNat)
  case atStart => exact ⟨0, Sv.zero, rd0, rfl, Nat.zero_le _, hide rfl, HR0⟩
  case round =>
    clear HR0
    obtain ⟨k, x, r, rfl, hk, HRL, HX⟩ := hrel
    have hrn : r.n = k := by
      have h1 := (runL_sound (l.take k) rd0 rd0_inv).2 (by rw [HRL.out])
      have h2 := h1.2
      rw [HRL.out, List.length_take, HLE.out] at h2
      have h3 : rd0.n = 0 := rfl
      simp only at h2
      omega
    have hrk : r.k ≤ 6 := by
      have := runL_k (l.take k) rd0 (by decide)
      rw [HRL.out] at this
      exact this
    by_cases hlt : k < L
    · have hk0 : (0 : Int) ≤ (k : Int) := by omega
      have hk1 : (k : Int) < (L : Int) := by omega
      have hck := (bcell HX.out.bel hlt2).trans (HLC.out k hlt)
      have hkl : k < l.length := by rw [HLE.out]; exact hlt
      have hlen : (l.getD k []).length ≤ 60000 := mem_getD2 HLL.out.2 [] hkl
      have HST := hide (runL_step hkl HRL.out)
      have HSP := hide (fun h2 => runL_stop hkl HRL.out h2)
      have HRN := hide hrn
      generalize l.getD k [] = ln1 at hck hlen HST HSP
      have K := read_any w2 w2.heap.size x r.sp r.n r.k wr HX.out (HE2.out.kept HX.out.bel) ⟨ln1.toArray⟩ (by show ln1.toArray.size ≤ _; rw [List.size_toArray]; omega) (by omega) hrk
      rw [show (⟨ln1.toArray⟩ : ByteArray).data.toList = ln1 from rfl, show (⟨r.sp, r.n, r.k⟩ : Rd) = r from rfl] at K
      clear hkl hlen hrn hrk HX
      go_wp2_with fail
      refine K.mono ?_
      clear K
      intro e w3 ht
      cases hres : readL r ln1 with
      | none =>
        rw [hres] at ht
        have HF := hide (HSP.out hres)
        obtain ⟨rfl, x', s', hx⟩ := ht
        have HX := hide hx
        clear hx hres HSP HST
        have hbox : w3.heap[w.heap.size]? = some (.cells #[.bool false, .slice none 0 0, .slice none 0 0, .slice none 0 0, .slice none 0 0, .slice none 0 0] 32 (0, 0)) := by rw [HX.out.bel.block _ hd1]; exact HBX2.out
        obtain ⟨q0, q1, q2, q3, q4, q5⟩ := boxz_cells hbox
        have qf0 : w3.frozen? ⟨w.heap.size, 0, none⟩ = false := Lib.frozen_of_heap hbox 0
        have qf1 : w3.frozen? ⟨w.heap.size, 1, none⟩ = false := Lib.frozen_of_heap hbox 1
        have qf2 : w3.frozen? ⟨w.heap.size, 2, none⟩ = false := Lib.frozen_of_heap hbox 2
        have qf3 : w3.frozen? ⟨w.heap.size, 3, none⟩ = false := Lib.frozen_of_heap hbox 3
        have qf4 : w3.frozen? ⟨w.heap.size, 4, none⟩ = false := Lib.frozen_of_heap hbox 4
        have qf5 : w3.frozen? ⟨w.heap.size, 5, none⟩ = false := Lib.frozen_of_heap hbox 5
        have n6 : w3.cell? ⟨w2.heap.size, 6, none⟩ = some (.int .i64 r.n) := HX.out.cell 6
        have HB := hide (below_drew (putz_below (q := w.heap.size) (HB2.out.trans (HX.out.bel.mono HB2.out.size)) (Nat.le_refl w.heap.size)))
        have HGB := hide (boxz_cells (putz_box (W := w3) hbox))
        have hne : w2.heap.size ≠ w.heap.size := by omega
        have hne2 : w.heap.size ≠ w2.heap.size := by omega
        have hrb : r.n ≤ 100000 := by have := HRN.out; omega
        have hwr : IntKind.i64.wrap ((r.n : Int) + 1) = (r.n : Int) + 1 := by rw [IntKind.wrap_i64]; omega
        have HPE := hide (show parseP t.data.toList = (Sp.zero, r.n + 1, 2) by rw [HP.out]; unfold parseC; simp only [HF.out]; rfl)
        clear hbox HX HLC hlt2 HBX2 hne hne2 hd1
        go_wp2
        (try clear hck hk0 hk1 hlt)
        (try clear hL hL3 hk hrb hL2 hbig)
        go_region
        all_goals
          go_wp2
          (try simp only [Exit.inBlock, Exit.then])
          obtain ⟨g0, g1, g2, g3, g4, g5⟩ := HGB.out
          generalize ((((((w3.setCell ⟨w.heap.size, 0, none⟩ (.bool false)).setCell ⟨w.heap.size, 1, none⟩ (.slice none 0 0)).setCell ⟨w.heap.size, 2, none⟩ (.slice none 0 0)).setCell ⟨w.heap.size, 3, none⟩ (.slice none 0 0)).setCell ⟨w.heap.size, 4, none⟩ (.slice none 0 0)).setCell ⟨w.heap.size, 5, none⟩ (.slice none 0 0)) = w4 at HB HGB g0 g1 g2 g3 g4 g5 ⊢
          refine bodyPost_ret (v := .tuple #[.agg #[.bool false, .slice none 0 0, .slice none 0 0, .slice none 0 0, .slice none 0 0, .slice none 0 0], .int .i64 (r.n + 1 : Nat), .int .i64 2]) (by simp [results, Tryz.results43, go_sem, g0, g1, g2, g3, g4, g5]) rfl ?_
          exact ⟨Sv.zero, by rw [HPE.out]; rfl, by rw [HPE.out]; exact zero_at _, HB.out⟩
      | some r' =>
        rw [hres] at ht
        have HST2 := HST.out
        rw [hres] at HST2
        have HF := hide HST2
        obtain ⟨rfl, x', hx⟩ := ht
        have HX := hide hx
        clear hx hres HSP HST HST2
        go_wp2
        first
          | exact ⟨⟨k + 1, x', r', by go_num, by omega, HF, HX⟩, by simp [intOf]; omega⟩
          | (go_roundw
             case rel => exact ⟨k + 1, x', r', by go_num, by omega, HF, HX⟩
             case measure => simp [intOf]; omega)
    · have hkn : k = L := by omega
      have hfull : runL rd0 l = (r, true) := by have := HRL.out; rwa [List.take_of_length_le (by rw [HLE.out]; omega)] at this
      have HF := hide hfull
      have HRN := hide hrn
      clear hfull hlt hrn hrk hk
      subst hkn
      cases ended with
      | false =>
        have HXE : Hid (xl ≠ []) := hide (fun e => by have := HEND.out; rw [e] at this; cases this)
        have hbox : wr.heap[w.heap.size]? = some (.cells #[.bool false, .slice none 0 0, .slice none 0 0, .slice none 0 0, .slice none 0 0, .slice none 0 0] 32 (0, 0)) := by rw [HX.out.bel.block _ hd1]; exact HBX2.out
        obtain ⟨q0, q1, q2, q3, q4, q5⟩ := boxz_cells hbox
        have qf0 : wr.frozen? ⟨w.heap.size, 0, none⟩ = false := Lib.frozen_of_heap hbox 0
        have qf1 : wr.frozen? ⟨w.heap.size, 1, none⟩ = false := Lib.frozen_of_heap hbox 1
        have qf2 : wr.frozen? ⟨w.heap.size, 2, none⟩ = false := Lib.frozen_of_heap hbox 2
        have qf3 : wr.frozen? ⟨w.heap.size, 3, none⟩ = false := Lib.frozen_of_heap hbox 3
        have qf4 : wr.frozen? ⟨w.heap.size, 4, none⟩ = false := Lib.frozen_of_heap hbox 4
        have qf5 : wr.frozen? ⟨w.heap.size, 5, none⟩ = false := Lib.frozen_of_heap hbox 5
        have n6 : wr.cell? ⟨w2.heap.size, 6, none⟩ = some (.int .i64 r.n) := HX.out.cell 6
        have HB := hide (below_drew (putz_below (q := w.heap.size) (HB2.out.trans (HX.out.bel.mono HB2.out.size)) (Nat.le_refl w.heap.size)))
        have HGB := hide (boxz_cells (putz_box (W := wr) hbox))
        have hne : w2.heap.size ≠ w.heap.size := by omega
        have hne2 : w.heap.size ≠ w2.heap.size := by omega
        have hrb : r.n ≤ 100000 := by have := HRN.out; omega
        have hwr : IntKind.i64.wrap ((r.n : Int) + 1) = (r.n : Int) + 1 := by rw [IntKind.wrap_i64]; omega
        have HPE := hide (show parseP t.data.toList = (Sp.zero, r.n + 1, 2) by rw [HP.out]; unfold parseC; simp only [HF.out]; rw [if_neg (fun e => HXE.out e.2.1)])
        clear hbox HX HLC hlt2 HBX2 hne hne2 hd1
        go_wp2
        (try clear hck hk0 hk1 hlt)
        (try clear hL hL3 hrb hL2 hbig)
        go_region
        all_goals
          go_wp2
          (try simp only [Exit.inBlock, Exit.then])
          obtain ⟨g0, g1, g2, g3, g4, g5⟩ := HGB.out
          generalize ((((((wr.setCell ⟨w.heap.size, 0, none⟩ (.bool false)).setCell ⟨w.heap.size, 1, none⟩ (.slice none 0 0)).setCell ⟨w.heap.size, 2, none⟩ (.slice none 0 0)).setCell ⟨w.heap.size, 3, none⟩ (.slice none 0 0)).setCell ⟨w.heap.size, 4, none⟩ (.slice none 0 0)).setCell ⟨w.heap.size, 5, none⟩ (.slice none 0 0)) = w4 at HB HGB g0 g1 g2 g3 g4 g5 ⊢
          refine bodyPost_ret (v := .tuple #[.agg #[.bool false, .slice none 0 0, .slice none 0 0, .slice none 0 0, .slice none 0 0, .slice none 0 0], .int .i64 (r.n + 1 : Nat), .int .i64 2]) (by simp [results, Tryz.results43, go_sem, g0, g1, g2, g3, g4, g5]) rfl ?_
          exact ⟨Sv.zero, by rw [HPE.out]; rfl, by rw [HPE.out]; exact zero_at _, HB.out⟩
      | true =>
        have HXE : Hid (xl = []) := hide (by have := HEND.out; cases xl with | nil => rfl | cons a b => cases this)
        by_cases hr0 : r.n = 0
        · skip
          have hbox : wr.heap[w.heap.size]? = some (.cells #[.bool false, .slice none 0 0, .slice none 0 0, .slice none 0 0, .slice none 0 0, .slice none 0 0] 32 (0, 0)) := by rw [HX.out.bel.block _ hd1]; exact HBX2.out
          obtain ⟨q0, q1, q2, q3, q4, q5⟩ := boxz_cells hbox
          have qf0 : wr.frozen? ⟨w.heap.size, 0, none⟩ = false := Lib.frozen_of_heap hbox 0
          have qf1 : wr.frozen? ⟨w.heap.size, 1, none⟩ = false := Lib.frozen_of_heap hbox 1
          have qf2 : wr.frozen? ⟨w.heap.size, 2, none⟩ = false := Lib.frozen_of_heap hbox 2
          have qf3 : wr.frozen? ⟨w.heap.size, 3, none⟩ = false := Lib.frozen_of_heap hbox 3
          have qf4 : wr.frozen? ⟨w.heap.size, 4, none⟩ = false := Lib.frozen_of_heap hbox 4
          have qf5 : wr.frozen? ⟨w.heap.size, 5, none⟩ = false := Lib.frozen_of_heap hbox 5
          have n6 : wr.cell? ⟨w2.heap.size, 6, none⟩ = some (.int .i64 0) := (HX.out.cell 6).trans (by show some (Value.int .i64 (r.n : Int)) = _; rw [hr0]; rfl)
          have HB := hide (below_drew (putz_below (q := w.heap.size) (HB2.out.trans (HX.out.bel.mono HB2.out.size)) (Nat.le_refl w.heap.size)))
          have HGB := hide (boxz_cells (putz_box (W := wr) hbox))
          have hne : w2.heap.size ≠ w.heap.size := by omega
          have hne2 : w.heap.size ≠ w2.heap.size := by omega
          have HPE := hide (show parseP t.data.toList = (Sp.zero, 1, 2) by rw [HP.out]; unfold parseC; simp only [HF.out]; rw [if_neg (fun e => e.2.2 hr0), hr0])
          clear hbox HX HLC hlt2 HBX2 hne hne2 hd1 hr0
          go_wp2
          (try clear hck hk0 hk1 hlt)
          (try clear hL hL3 hL2 hbig)
          go_region
          all_goals
            go_wp2
            (try simp only [Exit.inBlock, Exit.then])
            obtain ⟨g0, g1, g2, g3, g4, g5⟩ := HGB.out
            generalize ((((((wr.setCell ⟨w.heap.size, 0, none⟩ (.bool false)).setCell ⟨w.heap.size, 1, none⟩ (.slice none 0 0)).setCell ⟨w.heap.size, 2, none⟩ (.slice none 0 0)).setCell ⟨w.heap.size, 3, none⟩ (.slice none 0 0)).setCell ⟨w.heap.size, 4, none⟩ (.slice none 0 0)).setCell ⟨w.heap.size, 5, none⟩ (.slice none 0 0)) = w4 at HB HGB g0 g1 g2 g3 g4 g5 ⊢
            refine bodyPost_ret (v := .tuple #[.agg #[.bool false, .slice none 0 0, .slice none 0 0, .slice none 0 0, .slice none 0 0, .slice none 0 0], .int .i64 1, .int .i64 2]) (by simp [results, Tryz.results43, go_sem, g0, g1, g2, g3, g4, g5]) rfl ?_
            exact ⟨Sv.zero, by rw [HPE.out]; rfl, by rw [HPE.out]; exact zero_at _, HB.out⟩
        · have hr0i : ((r.n : Int) == 0) = false := by simpa using hr0
          have hbox : wr.heap[w.heap.size]? = some (.cells #[.bool false, .slice none 0 0, .slice none 0 0, .slice none 0 0, .slice none 0 0, .slice none 0 0] 32 (0, 0)) := by rw [HX.out.bel.block _ hd1]; exact HBX2.out
          obtain ⟨q0, q1, q2, q3, q4, q5⟩ := boxz_cells hbox
          have qf0 : wr.frozen? ⟨w.heap.size, 0, none⟩ = false := Lib.frozen_of_heap hbox 0
          have qf1 : wr.frozen? ⟨w.heap.size, 1, none⟩ = false := Lib.frozen_of_heap hbox 1
          have qf2 : wr.frozen? ⟨w.heap.size, 2, none⟩ = false := Lib.frozen_of_heap hbox 2
          have qf3 : wr.frozen? ⟨w.heap.size, 3, none⟩ = false := Lib.frozen_of_heap hbox 3
          have qf4 : wr.frozen? ⟨w.heap.size, 4, none⟩ = false := Lib.frozen_of_heap hbox 4
          have qf5 : wr.frozen? ⟨w.heap.size, 5, none⟩ = false := Lib.frozen_of_heap hbox 5
          have p0 : wr.cell? ⟨w2.heap.size, 0, none⟩ = some (.bool x.r) := HX.out.cell 0
          have p1 : wr.cell? ⟨w2.heap.size, 1, none⟩ = some (.slice x.a1 x.n1 x.c1) := HX.out.cell 1
          have p2 : wr.cell? ⟨w2.heap.size, 2, none⟩ = some (.slice x.a2 x.n2 x.c2) := HX.out.cell 2
          have p3 : wr.cell? ⟨w2.heap.size, 3, none⟩ = some (.slice x.a3 x.n3 x.c3) := HX.out.cell 3
          have p4 : wr.cell? ⟨w2.heap.size, 4, none⟩ = some (.slice x.a4 x.n4 x.c4) := HX.out.cell 4
          have p5 : wr.cell? ⟨w2.heap.size, 5, none⟩ = some (.slice x.a5 x.n5 x.c5) := HX.out.cell 5
          have n6 : wr.cell? ⟨w2.heap.size, 6, none⟩ = some (.int .i64 r.n) := HX.out.cell 6
          have HB : Hid (Below w.heap.size w ((((((wr.setCell ⟨w.heap.size, 0, none⟩ (.bool x.r)).setCell ⟨w.heap.size, 1, none⟩ (.slice x.a1 x.n1 x.c1)).setCell ⟨w.heap.size, 2, none⟩ (.slice x.a2 x.n2 x.c2)).setCell ⟨w.heap.size, 3, none⟩ (.slice x.a3 x.n3 x.c3)).setCell ⟨w.heap.size, 4, none⟩ (.slice x.a4 x.n4 x.c4)).setCell ⟨w.heap.size, 5, none⟩ (.slice x.a5 x.n5 x.c5))) := hide (put6_below (q := w.heap.size) (HB2.out.trans (HX.out.bel.mono HB2.out.size)) (Nat.le_refl w.heap.size) x)
          have HGB : Hid (BxS w.heap.size x ((((((wr.setCell ⟨w.heap.size, 0, none⟩ (.bool x.r)).setCell ⟨w.heap.size, 1, none⟩ (.slice x.a1 x.n1 x.c1)).setCell ⟨w.heap.size, 2, none⟩ (.slice x.a2 x.n2 x.c2)).setCell ⟨w.heap.size, 3, none⟩ (.slice x.a3 x.n3 x.c3)).setCell ⟨w.heap.size, 4, none⟩ (.slice x.a4 x.n4 x.c4)).setCell ⟨w.heap.size, 5, none⟩ (.slice x.a5 x.n5 x.c5))) := hide (box_cells (put6_box (W := wr) (y := Sv.zero) hbox x))
          have HSP : Hid (SpAt ((((((wr.setCell ⟨w.heap.size, 0, none⟩ (.bool x.r)).setCell ⟨w.heap.size, 1, none⟩ (.slice x.a1 x.n1 x.c1)).setCell ⟨w.heap.size, 2, none⟩ (.slice x.a2 x.n2 x.c2)).setCell ⟨w.heap.size, 3, none⟩ (.slice x.a3 x.n3 x.c3)).setCell ⟨w.heap.size, 4, none⟩ (.slice x.a4 x.n4 x.c4)).setCell ⟨w.heap.size, 5, none⟩ (.slice x.a5 x.n5 x.c5)) x r.sp) := hide (put6_rows (x := x) (y := Sv.zero) hbox HX.out.rows).spec
          have HPE := hide (show parseP t.data.toList = (r.sp, 0, 0) by rw [HP.out]; unfold parseC; simp only [HF.out]; rw [if_pos ⟨trivial, HXE.out, hr0⟩])
          have HR0 := hide hr0
          clear hbox HX HLC hlt2 HBX2 hd1 hr0
          go_wp2
          obtain ⟨g0, g1, g2, g3, g4, g5⟩ := HGB.out
          generalize ((((((wr.setCell ⟨w.heap.size, 0, none⟩ (.bool x.r)).setCell ⟨w.heap.size, 1, none⟩ (.slice x.a1 x.n1 x.c1)).setCell ⟨w.heap.size, 2, none⟩ (.slice x.a2 x.n2 x.c2)).setCell ⟨w.heap.size, 3, none⟩ (.slice x.a3 x.n3 x.c3)).setCell ⟨w.heap.size, 4, none⟩ (.slice x.a4 x.n4 x.c4)).setCell ⟨w.heap.size, 5, none⟩ (.slice x.a5 x.n5 x.c5)) = w4 at HB HGB HSP g0 g1 g2 g3 g4 g5 ⊢
          refine bodyPost_ret (v := .tuple #[.agg x.cs, .int .i64 0, .int .i64 0]) (by simp [results, Tryz.results43, go_sem, g0, g1, g2, g3, g4, g5]) rfl ?_
          exact ⟨x, by rw [HPE.out]; rfl, by rw [HPE.out]; exact HSP.out, HB.out⟩
end Go.Proofs.YteonoccefpkcgaaGreatDoor.Wf
