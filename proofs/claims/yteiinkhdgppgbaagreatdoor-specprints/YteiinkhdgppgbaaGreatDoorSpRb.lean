/- Contracts: the numbers, the token and the special token that words tell. -/
import Derived.Test.YteiinkhdgppgbaaGreatDoorSpRa
namespace Go.Proofs.YteiinkhdgppgbaaGreatDoor
open Go.RowKit
set_option linter.unusedVariables false
set_option linter.unusedSimpArgs false

def OwnZ (w : World) (g n : Nat) (zs : List Int) : Prop := zs.length = n ∧ w.heap[g]? = some (.cells (zs.map (Value.int .i64)).toArray 3 (0, 0))
theorem OwnZ.cell {w : World} {g n : Nat} {zs : List Int} (h : OwnZ w g n zs) (i : Nat) (hi : i < n) : w.cell? ⟨g, i, none⟩ = some (.int .i64 (zs.getD i 0)) := by
  rw [Lib.cell_of_heap h.2, List.getElem?_toArray, List.getElem?_map, List.getD_eq_getElem?_getD, List.getElem?_eq_getElem (show i < zs.length by rw [h.1]; exact hi)]
  rfl
theorem OwnZ.low {w w' : World} {g n : Nat} {zs : List Int} (h : OwnZ w g n zs) (hb : Below w.heap.size w w') : OwnZ w' g n zs := ⟨h.1, (hb.block g (Array.getElem?_eq_some_iff.1 h.2).1).trans h.2⟩
theorem OwnZ.stored {w : World} {g n : Nat} {zs : List Int} (h : OwnZ w g n zs) (j : Nat) (z : Int) : OwnZ (w.setCell ⟨g, j, none⟩ (.int .i64 z)) g n (zs.set j z) := by
  refine ⟨by rw [List.length_set, h.1], ?_⟩
  rw [set_block h.2 j (.int .i64 z)]
  congr 2
  rw [← Array.toList_inj]
  simp [List.map_set]
theorem OwnZ.reads {w : World} {g n : Nat} {zs : List Int} (h : OwnZ w g n zs) : Reads .i64 w (some ⟨g, 0, none⟩) n zs := by
  refine ⟨h.1, ?_⟩
  rcases Nat.eq_zero_or_pos n with h0 | h0
  · exact Or.inl h0
  · exact Or.inr ⟨g, 0, rfl, fun i hi => by rw [Nat.zero_add]; exact h.cell i hi⟩
theorem info_int : (Tryz.prog.info? 3).map (fun i => (i.zero, i.size, i.bytes)) = some (some (.int .i64 0), 1, 8) := by kernel_rfl
theorem setZ_step (zs : List Int) (k n : Nat) (h : k < n) (hl : zs.length = n) : (zs.take k ++ List.replicate (n - k) (0 : Int)).set k (zs.getD k 0) = zs.take (k + 1) ++ List.replicate (n - (k + 1)) 0 := by
  rw [List.take_succ_eq_append_getElem (by omega), show n - k = (n - (k + 1)) + 1 by omega, List.replicate_succ, List.append_assoc]
  have hlen : (zs.take k).length = k := by rw [List.length_take]; omega
  rw [List.set_append_right _ _ (by omega), hlen, Nat.sub_self, List.set_cons_zero]
  simp [List.getD_eq_getElem?_getD, List.getElem?_eq_getElem (show k < zs.length by omega)]
/-- The words' bytes. -/
def bl (ws : List ByteArray) : List (List UInt8) := ws.map (·.data.toList)
theorem allN_take (ws : List (List UInt8)) (k : Nat) (h : k < ws.length) (h1 : allN (ws.take k) = true) (h2 : (parseS (ws.getD k []) maxId).2 = true) : allN (ws.take (k + 1)) = true :=
  all_take (fun w => (parseS w maxId).2) ws [] k h h1 h2
theorem allN_not (ws : List (List UInt8)) (k : Nat) (h : k < ws.length) (h2 : (parseS (ws.getD k []) maxId).2 = false) : allN ws = false :=
  all_not (fun w => (parseS w maxId).2) ws [] k h h2

set_option maxHeartbeats 4000000 in
set_option maxRecDepth 20000 in
theorem numbersW_any (ao : Option Addr) (n cap : Nat) (ws : List ByteArray) (count : Nat) (w : World) (hE : Env w) (hR : ReadsS w ao n ws) (hws : ∀ s ∈ ws, s.size ≤ 1000000) (hc : count ≤ 1000) :
    Calls Tryz.prog 67 #[.slice ao n cap, .int .i64 count] w fun e w' => Below w.heap.size w w' ∧
      ((n = count ∧ allN (bl ws) = true ∧ e = .returned (.tuple #[.slice (some ⟨w.heap.size, 0, none⟩) count count, .bool true]) ∧ Reads .i64 w' (some ⟨w.heap.size, 0, none⟩) count (nums (bl ws)) ∧ w.heap.size < w'.heap.size) ∨
       (¬ (n = count ∧ allN (bl ws) = true) ∧ e = .returned (.tuple #[.slice none 0 0, .bool false]))) := by
  have HR := hide hR
  have HE := hide hE
  have HWS := hide hws
  clear hR hE hws
  by_cases hnc : n = count
  case neg =>
    have h1 : ((n : Int) != (count : Int)) = true := by simp; omega
    have HNC := hide hnc
    clear hnc
    go_enter Tryz.func67, Tryz.ntmps67
    go_wp2
    go_ret2
    exact ⟨Below.refl _ _, Or.inr ⟨fun h => HNC.out h.1, rfl⟩⟩
  subst hnc
  obtain ⟨w1, cur, hrun, hblk, hcur, hb1⟩ := run_make_block (P := Tryz.prog) w 108 3 Tryz.underlying108 (.int .i64 0) 8 info_int n (by omega) (by have : maxLen = 9223372036854775807 := rfl; omega)
  have hOZ : OwnZ w1 w.heap.size n (List.replicate n 0) := by
    refine ⟨List.length_replicate, ?_⟩
    rw [hblk]
    congr 2
    rw [← Array.toList_inj, hcur]
    simp only [madeCells]
    show (Array.map (fun x => (#[Value.int .i64 0] : Array Value)[x % 1]!) (Array.range n)).toList = _
    simp [Nat.mod_one, List.map_const']
  have HOZ := hide hOZ
  clear hblk hcur hOZ
  have h1 : ((n : Int) != (n : Int)) = false := by simp
  go_enter Tryz.func67, Tryz.ntmps67
  go_wp2
  clear hrun
  have hlen : (nums (bl ws)).length = n := by unfold nums bl; rw [List.length_map, List.length_map, HR.out.1]
  have HLN := hide hlen
  clear hlen
  go_loopw [19] (fun i wr => ∃ k : Nat, k ≤ n ∧ i = .int .i64 k ∧ Hid (allN ((bl ws).take k) = true) ∧ Hid (OwnZ wr w.heap.size n ((nums (bl ws)).take k ++ List.replicate (n - k) 0)) ∧ Below w.heap.size w wr) (fun i _ => n - (intOf i).toNat)
  case atStart => exact ⟨0, Nat.zero_le _, rfl, hide rfl, hide (by simpa using HOZ.out), hb1⟩
  case round =>
    obtain ⟨k, hk, rfl, HA, hO, hbel⟩ := hrel
    by_cases hlt : k < n
    · have hk0 : (0 : Int) ≤ (k : Int) := by omega
      have hk1 : (k : Int) < (n : Int) := by omega
      obtain ⟨b, off, rfl, hcell⟩ := HR.out.at hlt
      obtain ⟨s, hs⟩ : ∃ s, s = ws.getD k ⟨#[]⟩ := ⟨_, rfl⟩
      have hck := (bcell hbel (World.block_lt_of_cell? w _ (hcell k hlt))).trans (hcell k hlt)
      rw [← hs] at hck
      have hsz : s.size ≤ 1000000 := by
        rw [hs, List.getD_eq_getElem?_getD, List.getElem?_eq_getElem (by rw [HR.out.1]; exact hlt)]
        exact HWS.out _ (List.getElem_mem _)
      have HS := hide (show (bl ws).getD k [] = s.data.toList by
        rw [hs]; unfold bl
        simp [List.getD_eq_getElem?_getD, List.getElem?_map, List.getElem?_eq_getElem (show k < ws.length by rw [HR.out.1]; exact hlt)])
      have HS2 := hide (show (nums (bl ws)).getD k 0 = (parseS s.data.toList maxId).1 by
        rw [← HS.out]
        unfold nums
        simp [List.getD_eq_getElem?_getD, List.getElem?_map, List.getElem?_eq_getElem (show k < (bl ws).length by unfold bl; rw [List.length_map, HR.out.1]; exact hlt)])
      have hkb : k < (bl ws).length := by unfold bl; rw [List.length_map, HR.out.1]; exact hlt
      have HKB := hide hkb
      have hE2 := HE.out.kept hbel
      have K := parse_any s maxId wr hsz hE2.tens hE2.errs
      unfold maxId at K
      clear hs hcell hE2 hkb
      obtain ⟨q, hq⟩ : ∃ q, parseS s.data.toList maxId = q := ⟨_, rfl⟩
      have HQ := hide hq
      unfold maxId at hq
      rw [hq] at K
      clear hq
      obtain ⟨z, ok⟩ := q
      cases ok with
      | false =>
        go_wp2_with fail
        refine K.mono ?_
        rintro e w2 ⟨rfl, hb2⟩
        have HB2 := hide (hbel.trans (hb2.mono hbel.size))
        have HN := hide (allN_not (bl ws) k HKB.out (by rw [HS.out, HQ.out]))
        clear K hb2
        go_wp2
        go_ret2
        exact ⟨HB2.out, Or.inr ⟨fun h => by rw [HN.out] at h; exact absurd h.2 (by decide), rfl⟩⟩
      | true =>
        go_wp2_with fail
        refine K.mono ?_
        rintro e w2 ⟨rfl, hb2⟩
        have hO2 := hO.out.low hb2
        have hcO := hO2.cell k hlt
        have hfO : w2.frozen? ⟨w.heap.size, k, none⟩ = false := Lib.frozen_of_heap hO2.2 k
        have HO3 := hide (hO2.stored k z)
        have HB3 := hide ((hbel.trans (hb2.mono hbel.size)).setCell (p := ⟨w.heap.size, k, none⟩) (Nat.le_refl _) (.int .i64 z))
        have HA3 := hide (allN_take (bl ws) k HKB.out HA.out (by rw [HS.out, HQ.out]))
        clear hO2 K hb2
        go_wp2
        first
          | (go_roundw
             case rel =>
               refine ⟨k + 1, by omega, by go_num, HA3, hide ?_, HB3.out⟩
               rw [← setZ_step (nums (bl ws)) k n hlt HLN.out, HS2.out, HQ.out]
               exact HO3.out
             case measure => simp [intOf]; omega)
          | (refine ⟨⟨k + 1, by omega, by go_num, HA3, hide ?_, HB3.out⟩, by simp [intOf]; omega⟩
             rw [← setZ_step (nums (bl ws)) k n hlt HLN.out, HS2.out, HQ.out]
             exact HO3.out)
    · have hkn : k = n := by omega
      subst hkn
      have HT : Hid (allN (bl ws) = true) := hide (by have := HA.out; rwa [List.take_of_length_le (by unfold bl; rw [List.length_map, HR.out.1]; exact Nat.le_refl _)] at this)
      have HO : Hid (OwnZ wr w.heap.size k (nums (bl ws))) := hide (by have := hO.out; rwa [Nat.sub_self, List.replicate_zero, List.append_nil, List.take_of_length_le (by rw [HLN.out]; exact Nat.le_refl _)] at this)
      clear hO hlt hk
      go_wp2
      go_ret2
      exact ⟨hbel, Or.inl ⟨trivial, HT.out, rfl, HO.out.reads, (Array.getElem?_eq_some_iff.1 HO.out.2).1⟩⟩
end Go.Proofs.YteiinkhdgppgbaaGreatDoor
