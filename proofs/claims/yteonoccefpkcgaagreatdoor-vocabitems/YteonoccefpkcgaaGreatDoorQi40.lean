/- All tokens' numbers, rising. All tokens' numbers: they rise, and are there. -/
import Derived.Test.YteonoccefpkcgaaGreatDoorQi39
import Derived.Shelf.Sort.Plain
import Derived.Sort.OwnSortedInts
namespace Go.Proofs.YteonoccefpkcgaaGreatDoor
open Go.RowKit Go.Maps Go.Shelf Go.Sort
set_option linter.unusedVariables false
set_option linter.unusedSimpArgs false

/-- Numbers of one's own are sorted. -/
theorem sort_own {ρ : Ren} (Ly : Lays.n189 Tryz.prog ρ) (hf : ρ.f 189 = 33) {w : World} {B : Nat} {ao : Option Addr} {n cap : Nat} {l : List Int} (h : w.ownsRow B 3 1 (.slice ao n cap) n (Mk.iv l)) (hn0 : 0 < n) (hn : n ≤ 1000000) :
    Calls Tryz.prog 33 #[.slice ao n cap] w fun e w' => e = .returned (.tuple #[]) ∧ w'.ownsRow B 3 1 (.slice ao n cap) n (Mk.iv (l.mergeSort fun x y => decide (x ≤ y))) ∧ Below B w w' := by
  have hln : l.length = n := by have := h.1; rw [Mk.iv_len] at this; omega
  subst hln
  rcases h.2 with ⟨_, h0⟩ | ⟨g, cap', cur, hv, hB, hb, h1, h2, h3, h4⟩
  · omega
  simp only [Value.slice.injEq] at hv
  obtain ⟨rfl, -, rfl⟩ := hv
  have hg := (Array.getElem?_eq_some_iff.1 hb).1
  have hH := holds_of_blockI hb (by simpa [Mk.iv] using h4)
  have K := Any.slices_Sort_int Ly g 0 cap l w hH hg (by omega)
  rw [hf] at K
  refine K.mono ?_
  rintro e w' ⟨rfl, n, os, rfl⟩
  refine ⟨rfl, ownsRow_sortedI (by simp) hB hb h1 h2 h3, ?_⟩
  have hgr := grownBy_sortedI (w := w) (g := g) (n := n) (os := os) (l.mergeSort fun x y => decide (x ≤ y)).toArray
  exact ⟨hgr.os, hgr.tape, hgr.output, hgr.size, fun k hk => hgr.block k (by omega) (fun e => by have := Option.some.inj e; omega)⟩

/-- All numbers, as they are put. -/
def allV (s : Wf.Sp) (k j : Nat) : List Int := (List.range k).map (fun (i : Nat) => (i : Int)) ++ (s.specials.take j).map (·.1)
theorem allV_len (s : Wf.Sp) {k j : Nat} (h : j ≤ s.specials.length) : (allV s k j).length = k + j := by simp [allV, h]
theorem allV_next (s : Wf.Sp) (k : Nat) : allV s (k + 1) 0 = allV s k 0 ++ [(k : Int)] := by simp [allV, List.range_succ]
theorem allV_more (s : Wf.Sp) (k : Nat) {j : Nat} (h : j < s.specials.length) : allV s k (j + 1) = allV s k j ++ [(Mk.gS s.specials j).1] := by
  unfold allV
  rw [← List.take_append_getElem h, List.map_append, List.append_assoc]
  simp [Mk.gS, h]
def idsV (s : Wf.Sp) : List Int := (allV s (txT s).length s.specials.length).mergeSort fun x y => decide (x ≤ y)
/-- Where it stands. -/
structure IdM (w : World) (s : Wf.Sp) (k j : Nat) (ao : Option Addr) (n cap : Nat) (W : World) : Prop where
  bel : Below w.heap.size w W
  row : W.ownsRow w.heap.size 3 1 (.slice ao n cap) n (Mk.iv (allV s k j))
  len : n = k + j

set_option maxRecDepth 20000 in
set_option maxHeartbeats 8000000 in
theorem vids_any {ρ : Ren} (Ly : Lays.n189 Tryz.prog ρ) (hf : ρ.f 189 = 33) {B q : Nat} {z : VV} {s : Wf.Sp} {u : Int} {w : World} (h : Vu B q z s u w) (hl : s.specials.length ≤ 1000) :
    Calls Tryz.prog 12 #[.pointer (some ⟨q, 0, none⟩)] w fun e w' => (∃ ao n cap, e = .returned (.slice ao n cap) ∧ n = (txT s).length + s.specials.length ∧ w'.ownsRow w.heap.size 3 1 (.slice ao n cap) n (Mk.iv (idsV s))) ∧ Below w.heap.size w w' := by
  have hT := tokT s
  have ht : (txT s).length ≤ 1000 := hT.cap
  have ht0 : 256 ≤ (txT s).length := by have := hT.len; omega
  have HL := hide (Mk.len_any (h.mr.kept below_drw))
  obtain ⟨d6, d7, d8, _⟩ := h.cells
  have HV := hide h
  have HLR := hide h.rows.spec.ss.1
  have HMK := hide (fun (W : World) (c : Int) (hc : c = (((txT s).length + s.specials.length : Nat) : Int)) => run_ints W c ((txT s).length + s.specials.length) hc (by omega))
  clear h hT
  go_enter Tryz.func12, Tryz.ntmps12
  go_wp2
  have hwr : IntKind.i64.wrap (((txT s).length : Int) + (s.specials.length : Int)) = ((txT s).length : Int) + (s.specials.length : Int) := by rw [IntKind.wrap_i64]; omega
  have hmk := HMK.out w.drew (((txT s).length : Int) + (s.specials.length : Int)) (by omega)
  go_region_held3 (fun W => W.cell? ⟨q, 7, none⟩ = some (.int .i64 (txT s).length) ∧ W.cell? ⟨q, 8, none⟩ = some (.pointer (some ⟨z.pm, 0, none⟩))) (first | exact ⟨d7, d8⟩ | go_keep) (first | (go_at_call 32; refine (unhide HL).mono ?_; rintro e W1 ⟨rfl, rfl⟩))
  have HW1 : Hid (IdM w s 0 0 (some ⟨w.heap.size, 0, none⟩) 0 ((txT s).length + s.specials.length) (w.alloc (.cells (madeCells #[.int .i64 0] ((txT s).length + s.specials.length)) 3)).drew) := hide ⟨(Wf.low_alloc w _).trans (below_drw.mono (by simp)), ⟨rfl, Or.inr ⟨_, _, _, rfl, Nat.le_refl _, heap_alloc_new w _, Nat.zero_le _, by unfold maxLen; omega, by simp [madeCells], by simp [allV, Mk.iv]⟩⟩, rfl⟩
  rename_i hHeld
  have e7 := hHeld.1
  generalize (w.alloc (.cells (madeCells #[.int .i64 0] ((txT s).length + s.specials.length)) 3)).drew = W1 at *
  have HT := hide (And.intro ht ht0)
  clear hHeld hmk hwr HMK HL d6 d7 d8 ht0
  generalize hTn : (txT s).length = T at *
  have HTN := hide hTn
  clear hTn
  go_wp2
  go_loopw [3, 27] (fun a i wr => ∃ (k : Nat) (ao : Option Addr) (n cap : Nat), a = .slice ao n cap ∧ i = .int .i64 k ∧ k ≤ T ∧ Hid (IdM w s k 0 ao n cap wr)) (fun _ i _ => T - (intOf i).toNat)
  case atStart => exact ⟨0, _, _, _, rfl, rfl, Nat.zero_le _, HW1⟩
  case round =>
    obtain ⟨k, ao, n, cap, rfl, rfl, hk, HI⟩ := hrel
    clear HW1
    by_cases hlt : k < T
    · have hk0 : (0 : Int) ≤ (k : Int) := by omega
      have hk1 : (k : Int) < (T : Int) := by omega
      have hn := HI.out.len
      obtain ⟨g, cap2, w3, hrun, hown, hb3⟩ := Mk.app_int _ w.heap.size ao n cap _ (k : Int) HI.out.row (by omega) HI.out.bel.size
      rw [← allV_next] at hown
      have HRUN := hide hrun
      have HN : Hid (IdM w s (k + 1) 0 (some ⟨g, 0, none⟩) (n + 1) cap2 w3) := hide ⟨HI.out.bel.trans hb3, hown, by omega⟩
      clear hrun hown hb3 HI hn
      go_wp2_with (at_builtin; refine Lib.wpList_append_run _ rfl _ _ _ _ rfl _ _ rfl rfl _ _ HRUN.out ?_)
      first
        | exact ⟨⟨k + 1, _, _, _, rfl, by go_num, by omega, HN⟩, by simp [intOf]; omega⟩
        | (go_roundw
           case rel => exact ⟨k + 1, _, _, _, rfl, by go_num, by omega, HN⟩
           case measure => simp [intOf]; omega)
    · obtain rfl : T = k := by omega
      have HV2 := hide (HV.out.low HI.out.bel)
      have c3 := Lib.cell_of_heap HV2.out.box 3
      have hlr := HLR.out
      obtain ⟨y, F, p, v0, v1, b2, b3, pm, mo, mcap, pb⟩ := z
      obtain ⟨r, a1, n1, c1, a2, n2, c2, a3, n3, c3', a4, n4, c4, a5, n5, c5⟩ := y
      simp only [voc] at c3 hlr
      clear HV2
      go_wp2
      go_loopw [3, 42] (fun a i wr => ∃ (j : Nat) (ao : Option Addr) (n cap : Nat), a = .slice ao n cap ∧ i = .int .i64 j ∧ j ≤ n3 ∧ Hid (IdM w s T j ao n cap wr)) (fun _ i _ => n3 - (intOf i).toNat)
      case atStart => exact ⟨0, _, _, _, rfl, rfl, Nat.zero_le _, HI⟩
      case round =>
        obtain ⟨j, ao, n, cap, rfl, rfl, hj, HJ⟩ := hrel
        clear HI c3
        by_cases hjt : j < n3
        · have hj0 : (0 : Int) ≤ (j : Int) := by omega
          have hj1 : (j : Int) < (n3 : Int) := by omega
          have hn := HJ.out.len
          have hs : Mk.RdS _ a3 n3 s.specials := mk_at (HV.out.low HJ.out.bel).rows.spec.ss
          rcases hs.2 with h0 | ⟨b, off, rfl, hbl, hc⟩
          · omega
          obtain ⟨e1, e2⟩ := hc j hjt
          have HAM := hide (allV_more s T (show j < s.specials.length by omega))
          clear hs hc hbl
          generalize (Mk.gS s.specials j).1 = x at *
          generalize (Mk.gS s.specials j).2 = tt at *
          have hlo := Wf.low_alloc wr (.cells #[.int .i64 x, .string tt] 57)
          obtain ⟨g, cap2, w3, hrun, hown, hb3⟩ := Mk.app_int _ w.heap.size ao n cap _ x (row_keptB HJ.out.row hlo) (by omega) (Nat.le_trans HJ.out.bel.size hlo.size)
          rw [← HAM.out] at hown
          rw [show (wr.alloc (.cells #[.int .i64 x, .string tt] 57)).heap.size = wr.heap.size + 1 by simp] at hrun
          have HRUN := hide hrun
          have HN : Hid (IdM w s T (j + 1) (some ⟨g, 0, none⟩) (n + 1) cap2 w3) := hide ⟨(HJ.out.bel.trans (hlo.mono HJ.out.bel.size)).trans hb3, hown, by omega⟩
          have hn3 : n3 ≤ 1000 := by omega
          clear hrun hown hb3 hlo HJ hn HAM hlr
          go_wp2_with (at_builtin; refine Lib.wpList_append_run _ rfl _ _ _ _ rfl _ _ rfl rfl _ _ HRUN.out ?_)
          first
            | exact ⟨⟨j + 1, _, _, _, rfl, by go_num, by omega, HN⟩, by simp [intOf]; omega⟩
            | (go_roundw
               case rel => exact ⟨j + 1, _, _, _, rfl, by go_num, by omega, HN⟩
               case measure => simp [intOf]; omega)
        · obtain rfl : n3 = j := by omega
          have hn := HJ.out.len
          have HKS := hide (sort_own Ly hf HJ.out.row (by have h256 := HT.out.2; omega) (by omega))
          have HBJ := hide HJ.out.bel
          have HLE : Hid (n = (txT s).length + s.specials.length) := hide (by rw [HTN.out, hlr]; exact hn)
          have HID : Hid ((allV s T n3).mergeSort (fun x y => decide (x ≤ y)) = idsV s) := hide (by unfold idsV; rw [HTN.out, hlr])
          clear HJ hn hlr
          go_wp2_with fail
          refine (unhide HKS).mono ?_
          rintro e w5 ⟨rfl, hrow, hb⟩
          have HR5 := hide hrow
          have HB5 := hide (HBJ.out.trans hb)
          clear hrow hb HKS
          go_wp2
          go_ret
          exact ⟨⟨ao, n, cap, rfl, HLE.out, by rw [← HID.out]; exact HR5.out⟩, HB5.out⟩
end Go.Proofs.YteonoccefpkcgaaGreatDoor

namespace Go.Proofs.YteonoccefpkcgaaGreatDoor
set_option linter.unusedVariables false
set_option linter.unusedSimpArgs false

theorem allV_mem {s : Wf.Sp} {x : Int} : x ∈ allV s (txT s).length s.specials.length ↔ (0 ≤ x ∧ x < ((txT s).length : Int)) ∨ ∃ y ∈ s.specials, y.1 = x := by
  simp only [allV, List.take_length, List.mem_append, List.mem_map, List.mem_range]
  constructor
  · rintro (⟨i, hi, rfl⟩ | h)
    · exact Or.inl ⟨by omega, by omega⟩
    · exact Or.inr h
  · rintro (h | h)
    · exact Or.inl ⟨x.toNat, by omega, by omega⟩
    · exact Or.inr h
theorem mkF_mem {L : List (Int × ByteArray)} {id : Int} : mkF L id < 0 ↔ ∃ y ∈ L, y.1 = id := by
  constructor
  · intro h
    rcases mkF_cases L id with ⟨k, hk, _, h2, _⟩ | ⟨_, e⟩
    · exact ⟨L[k], List.getElem_mem hk, by rw [← h2]; simp [Mk.gS, hk]⟩
    · omega
  · rintro ⟨y, hy, rfl⟩
    rcases mkF_cases L y.1 with ⟨k, hk, _, _, e⟩ | ⟨h, _⟩
    · omega
    · obtain ⟨j, hj, rfl⟩ := List.mem_iff_getElem.1 hy
      exact absurd (by simp [Mk.gS, hj]) (h j hj)
theorem has_iff {s : Wf.Sp} {x : Int} : hasD s.specials (txT s).length x = true ↔ x ∈ allV s (txT s).length s.specials.length := by
  rw [allV_mem, ← mkF_mem]
  simp [hasD]
theorem hasV_eq (s : Wf.Sp) (x : Int) : hasV s x = hasD s.specials (txT s).length x := by
  have h1 : spcV s x = decide (mkF s.specials x < 0) := by
    rw [Bool.eq_iff_iff, decide_eq_true_iff, mkF_mem]
    unfold spcV
    simp
  rw [hasV, h1, hasD, Bool.or_comm]
theorem idsV_len (s : Wf.Sp) : (idsV s).length = (txT s).length + s.specials.length := by
  rw [idsV, List.length_mergeSort, allV_len s (Nat.le_refl _)]
theorem idsV_has {s : Wf.Sp} {i : Nat} (hi : i < (txT s).length + s.specials.length) : hasD s.specials (txT s).length (Mk.gI (idsV s) i) = true := by
  have hi' : i < (idsV s).length := by rw [idsV_len]; exact hi
  rw [has_iff, show Mk.gI (idsV s) i = (idsV s)[i] by simp [Mk.gI, hi']]
  have := List.getElem_mem hi'
  exact (List.mergeSort_perm _ _).mem_iff.1 this
theorem allV_nodup {s : Wf.Sp} (h : VOk s) : (allV s (txT s).length s.specials.length).Nodup := by
  have hm := h.2.1.1
  have hi := h.2.2
  have hg : ∀ j (hj : j < s.specials.length), Mk.gS s.specials j = s.specials[j] := fun j hj => by simp [Mk.gS, hj]
  rw [allV, List.take_length, List.nodup_append]
  refine ⟨?_, ?_, ?_⟩
  · rw [List.Nodup, List.pairwise_map]
    exact List.nodup_range.imp (fun h e => h (by omega))
  · rw [List.Nodup, List.pairwise_map, List.pairwise_iff_getElem]
    intro i j hi1 hj1 hij e
    refine ((hm j hj1).2.2 i hij).1 ?_
    rw [hg i hi1, hg j hj1]
    exact e
  · intro a ha b hb e
    subst e
    simp only [List.mem_map, List.mem_range] at ha hb
    obtain ⟨i, hi1, rfl⟩ := ha
    obtain ⟨y, hy, he⟩ := hb
    obtain ⟨j, hj, rfl⟩ := List.mem_iff_getElem.1 hy
    have := hi j hj
    rw [hg j hj] at this
    omega
theorem idsV_up {s : Wf.Sp} (h : VOk s) {i : Nat} (hi : i + 1 < (txT s).length + s.specials.length) : Mk.gI (idsV s) i < Mk.gI (idsV s) (i + 1) := by
  have h0 : i < (idsV s).length := by rw [idsV_len]; omega
  have h1 : i + 1 < (idsV s).length := by rw [idsV_len]; exact hi
  rw [show Mk.gI (idsV s) i = (idsV s)[i] by simp [Mk.gI, h0], show Mk.gI (idsV s) (i + 1) = (idsV s)[i + 1] by simp [Mk.gI, h1]]
  have hp : (idsV s).Pairwise (fun x y => decide (x ≤ y) = true) := List.pairwise_mergeSort (fun a b c h1 h2 => by simp at *; omega) (fun a b => by simp; omega) _
  have hn : (idsV s).Nodup := (List.mergeSort_perm _ _).nodup_iff.2 (allV_nodup h)
  have a1 := of_decide_eq_true (List.pairwise_iff_getElem.1 hp i (i + 1) h0 h1 (by omega))
  have a2 := List.pairwise_iff_getElem.1 hn i (i + 1) h0 h1 (by omega)
  omega
end Go.Proofs.YteonoccefpkcgaaGreatDoor
