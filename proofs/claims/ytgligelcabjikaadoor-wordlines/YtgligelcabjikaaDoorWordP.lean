/- The walk of WordLines. -/
import Derived.Test.YtgligelcabjikaaDoorWordO
namespace Go.Proofs.YtgligelcabjikaaDoor
open Go.RowKit
set_option linter.unusedVariables false
set_option linter.unusedSimpArgs false

theorem RdT.reads {w : World} {ao : Option Addr} {n : Nat} {l : List ByteArray} (h : RdT w ao n l) : ReadsS w ao n l := by
  refine ⟨h.1, ?_⟩
  rcases h.2 with h0 | ⟨b, off, rfl, hlt, hc⟩
  · exact Or.inl h0
  · exact Or.inr ⟨b, off, rfl, hc⟩
theorem lineS_next (f : ByteArray) (ss : List ByteArray) (k : Nat) (h : k < ss.length) : lineS f (ss.take k) ++ ⟨#[32]⟩ ++ gT ss k = lineS f (ss.take (k + 1)) := by
  apply ByteArray.ext
  apply Array.ext'
  unfold lineS
  simp only [ByteArray.data_append, Array.toList_append]
  rw [lineL_take f ss k h]
  simp [gT]
theorem lineS_zero (f : ByteArray) (ss : List ByteArray) : lineS f (ss.take 0) = f := by
  apply ByteArray.ext
  apply Array.ext'
  simp [lineS, lineL]

/-- Texts out of lists of bytes. -/
def bt (l : List (List UInt8)) : List ByteArray := l.map (fun x => ⟨x.toArray⟩)
theorem tv_at (l : List (List UInt8)) (i : Nat) (hi : i < l.length) : (tv l)[i]? = some (.string (gT (bt l) i)) := by
  simp [tv, gT, bt, hi]
theorem RdT.of_row {w : World} {base : Nat} {ao : Option Addr} {n cap : Nat} {l : List (List UInt8)} (h : w.ownsRow base 9 1 (.slice ao n cap) n (tv l)) (hl : l.length = n) : RdT w ao n (bt l) := by
  refine ⟨by simp [bt, hl], ?_⟩
  rcases Nat.eq_zero_or_pos n with h0 | h0
  · exact Or.inl h0
  obtain ⟨g, cap', e, hb, hg⟩ := h.form h0
  simp only [Value.slice.injEq] at e
  obtain ⟨rfl, -, rfl⟩ := e
  refine Or.inr ⟨g, 0, rfl, hg, fun i hi => ?_⟩
  rw [Nat.zero_add, h.cellAt i (by omega)]
  exact tv_at l i (by omega)
theorem RdT.of_block (w : World) (l : List (List UInt8)) (nq : Nat) {n : Nat} (hl : l.length = n) : RdT ((w.alloc (.cells (tv l).toArray 9)).drewN nq) (some ⟨w.heap.size, 0, none⟩) n (bt l) := by
  refine ⟨by simp [bt, hl], Or.inr ⟨w.heap.size, 0, rfl, by show _ < (w.alloc _).heap.size; simp, fun i hi => ?_⟩⟩
  have h := tv_at l i (by omega)
  show (w.alloc _).cell? _ = _
  rw [Nat.zero_add, ← h]
  simp
theorem cut_last (c : UInt8) (s : List UInt8) : ∃ l x, cutL c s = l ++ [x] := by
  rcases List.eq_nil_or_concat (cutL c s) with h | ⟨l, x, h⟩
  · have h1 := cut_len (c := c) s
    rw [h] at h1
    simp at h1
  · exact ⟨l, x, by simpa using h⟩
theorem cut_le (s : ByteArray) (hs : s.size ≤ 500) (c : UInt8) : (cutL c s.data.toList).length ≤ 501 := by
  rw [cut_len]
  have h1 := List.count_le_length (a := c) (l := s.data.toList)
  have h2 : s.data.toList.length = s.size := by rw [Array.length_toList]; rfl
  omega
theorem row_room {w : World} {base e size n : Nat} {ao : Option Addr} {cap : Nat} {xs : List Value} (h : w.ownsRow base e size (.slice ao n cap) n xs) (h0 : 0 < n) : ∃ g, ao = some ⟨g, 0, none⟩ ∧ n ≤ cap ∧ cap ≤ maxLen := by
  rcases h.2 with ⟨_, h1⟩ | ⟨g, cap', cur, hv, _, _, h1, h2, _⟩
  · omega
  · simp only [Value.slice.injEq] at hv
    obtain ⟨rfl, -, rfl⟩ := hv
    exact ⟨g, rfl, h1, h2⟩
theorem lineS_size (f : ByteArray) (ss : List ByteArray) (k : Nat) (h : ∀ j, j < k → (gT ss j).size ≤ 100) (hf : f.size ≤ 100) (hk : k ≤ 20) : (lineS f (ss.take k)).size ≤ 3000 := by
  have h1 := lineL_len f (ss.take k) 100 (fun s hs => by
    obtain ⟨j, hj, rfl⟩ := List.getElem_of_mem hs
    have hj2 := hj
    rw [List.length_take] at hj2
    have := h j (by omega)
    rw [List.getElem_take]
    simpa [gT, List.getD_eq_getElem?_getD, List.getElem?_eq_getElem (show j < ss.length by omega)] using this)
  have h2 : (ss.take k).length ≤ 20 := by rw [List.length_take]; omega
  have h3 : (lineS f (ss.take k)).size = (lineL f (ss.take k)).length := by simp [lineS, ByteArray.size]
  omega

set_option maxRecDepth 20000 in
set_option maxHeartbeats 8000000 in
theorem lines_law (f : ByteArray) (ao : Option Addr) (n cap : Nat) (ss : List ByteArray) (s : ByteArray) (m : Int) (w : World) (hR : RdT w ao n ss) (ht : Tens w) (hm : w.cell? ⟨0, 0, none⟩ = some (.int .i64 m)) :
    Calls Tryd.prog 3 #[.string f, .slice ao n cap, .string s] w fun e w' => e = .returned (.bool true) ∧ Below w.heap.size w w' := by
  have HR := hide hR
  have HT := hide ht
  have HM := hide hm
  clear hR ht hm
  have KA := hide (awake_any w HT.out)
  go_enter Tryd.func3, Tryd.ntmps3
  by_cases hf : f.size ≤ 100
  case neg =>
    have hf1 : (100 : Int) < (f.size : Int) := by omega
    go_wp2_with fail
    refine KA.out.mono ?_
    rintro e w1 ⟨rfl, hb⟩
    go_wp2
    go_ret
    exact ⟨rfl, hb⟩
  have hf1 : ¬ (100 : Int) < (f.size : Int) := by omega
  by_cases hn : n ≤ 20
  case neg =>
    have hn1 : (20 : Int) < (n : Int) := by omega
    go_wp2_with fail
    refine KA.out.mono ?_
    rintro e w1 ⟨rfl, hb⟩
    go_wp2
    go_ret
    exact ⟨rfl, hb⟩
  have hn1 : ¬ (20 : Int) < (n : Int) := by omega
  by_cases hs : s.size ≤ 500
  case neg =>
    have hs1 : (500 : Int) < (s.size : Int) := by omega
    go_wp2_with fail
    refine KA.out.mono ?_
    rintro e w1 ⟨rfl, hb⟩
    go_wp2
    go_ret
    exact ⟨rfl, hb⟩
  have hs1 : ¬ (500 : Int) < (s.size : Int) := by omega
  go_wp2
  go_loopw [7, 8] (fun x i wr => ∃ (k : Nat), x = .string (lineS f (ss.take k)) ∧ i = .int .i64 k ∧ k ≤ n ∧ Hid (∀ j, j < k → (gT ss j).size ≤ 100) ∧ wr = w) (fun _ i _ => n - (intOf i).toNat)
  case atStart => exact ⟨0, by rw [lineS_zero], rfl, Nat.zero_le _, hide (fun j h => by omega), rfl⟩
  case round =>
    obtain ⟨k, rfl, rfl, hk, HL, rfl⟩ := hrel
    by_cases hlt : k < n
    · have hk0 : (0 : Int) ≤ (k : Int) := by omega
      have hk1 : (k : Int) < (n : Int) := by omega
      rcases HR.out.2 with h0 | ⟨b, off, rfl, hgl, hc⟩
      · omega
      have c0 := hc k hlt
      clear hc
      by_cases hz : (gT ss k).size ≤ 100
      · have hz1 : ¬ (100 : Int) < ((gT ss k).size : Int) := by omega
        have hsz := lineS_size f ss k HL.out hf (by omega)
        go_wp2
        case roundEnd =>
          refine ⟨⟨k + 1, by rw [lineS_next f ss k (by rw [HR.out.1]; exact hlt)], by go_num, by omega, hide (fun j hj => ?_), trivial⟩, by simp [intOf]; omega⟩
          by_cases hjk : j = k
          · subst hjk; exact hz
          · exact HL.out j (by omega)
      · have hz1 : (100 : Int) < ((gT ss k).size : Int) := by omega
        go_wp2_with fail
        refine KA.out.mono ?_
        rintro e w1 ⟨rfl, hb⟩
        go_wp2
        go_ret
        exact ⟨rfl, hb⟩
    · have hkn : n = k := by omega
      subst hkn
      clear hlt hk
      have hsz := lineS_size f ss n HL.out hf hn
      have htk : ss.take n = ss := List.take_of_length_le (by rw [HR.out.1]; exact Nat.le_refl _)
      have hall : ∀ s ∈ ss, s.size ≤ 1000000 := fun x hx => by
        obtain ⟨j, hj, rfl⟩ := List.getElem_of_mem hx
        have h1 := HL.out j (by rw [← HR.out.1]; exact hj)
        have h2 : gT ss j = ss[j] := by simp [gT, hj]
        rw [h2] at h1
        omega
      have HALL := hide hall
      rw [htk] at hsz ⊢
      clear hall htk
      obtain ⟨l, x, hl⟩ := cut_last 10 s.data.toList
      have HCL := hide (cut_le s hs)
      obtain ⟨L, hL⟩ : ∃ L, l.length = L := ⟨_, rfl⟩
      have hL2 : L + 1 ≤ 501 := by have := HCL.out 10; rw [hl, List.length_append, hL] at this; exact this
      have KL := lines_any s m wr (by omega) HM.out l L x hl hL
      have HLL := hide hl
      have HLE := hide hL
      clear hl hL
      have h0w : 0 < wr.heap.size := World.block_lt_of_cell? wr _ HM.out
      go_wp2_with fail
      refine KL.mono ?_
      rintro e w1 ⟨rfl, nq, rfl⟩
      have HD := hide ((RdT.of_block wr (l ++ [x]) nq (n := L + 1) (by rw [List.length_append, HLE.out]; rfl)).take (m := L) (by omega))
      have hb1 : Below wr.heap.size wr ((wr.alloc (.cells (tv (l ++ [x])).toArray 9)).drewN nq) := ((Below.refl _ wr).alloc (Nat.le_refl _) _).trans ⟨rfl, rfl, rfl, Nat.le_refl _, fun _ _ => rfl⟩
      generalize (wr.alloc (.cells (tv (l ++ [x])).toArray 9)).drewN nq = w1 at *
      have K2 := rcut_any 10 s (by omega) w1
      go_wp2_with fail
      refine K2.mono ?_
      rintro e w2 ⟨a2, n2, cap2, rfl, hn2, ho2, hb2⟩
      rw [HLL.out] at hn2 ho2
      replace hn2 : n2 = L + 1 := by rw [hn2, List.length_append, HLE.out]; rfl
      subst hn2
      obtain ⟨g2, rfl, hc2, hc2'⟩ := row_room ho2 (by omega)
      have HE := hide (RdT.of_row ho2 (by rw [List.length_append, HLE.out]; rfl))
      have HD2 := hide (HD.out.kept hb2)
      have hb12 := hb1.trans (hb2.mono hb1.size)
      clear ho2 hb1 hb2 HD K2 KL
      have K3 := line_any f ao n cap ss w2 (HR.out.kept hb12).reads (by omega) (by omega) HALL.out
      go_wp2_with fail
      refine K3.mono ?_
      rintro e w3 ⟨rfl, hb3⟩
      have HE3 := hide (HE.out.kept hb3)
      have HD3 := hide (HD2.out.kept hb3)
      have hb13 := hb12.trans (hb3.mono hb12.size)
      clear HE HD2 hb12 hb3 K3
      have K4 := cut_any s m w3 (by omega) ((bcell hb13 h0w).trans HM.out)
      have hN := HCL.out 32
      obtain ⟨N, hNe⟩ : ∃ N, (cutL 32 s.data.toList).length = N := ⟨_, rfl⟩
      rw [hNe] at K4 hN
      have HNE := hide hNe
      clear hNe
      go_wp2_with fail
      refine K4.mono ?_
      rintro e w4 ⟨rfl, hw4⟩
      have HC4 := hide (RdT.of_block w3 (cutL 32 s.data.toList) 0 HNE.out)
      have hb4 : Below w3.heap.size w3 w4 := by rw [hw4]; exact (Below.refl _ w3).alloc (Nat.le_refl _) _
      have HC := hide (show RdT w4 (some ⟨w3.heap.size, 0, none⟩) N (bt (cutL 32 s.data.toList)) by rw [hw4]; exact HC4.out)
      have HE4 := hide (HE3.out.kept hb4)
      have HD4 := hide (HD3.out.kept hb4)
      have hb14 := hb13.trans (hb4.mono hb13.size)
      clear HC4 HE3 HD3 hb13 hb4 hw4 K4
      have K5 := rcut_any 32 s (by omega) w4
      go_wp2_with fail
      refine K5.mono ?_
      rintro e w5 ⟨a5, n5, cap5, rfl, hn5, ho5, hb5⟩
      replace hn5 : n5 = N := by rw [hn5, HNE.out]
      subst hn5
      have HC5 := hide (HC.out.kept hb5)
      have HB5 := hide (RdT.of_row ho5 HNE.out)
      have HE5 := hide (HE4.out.kept hb5)
      have HD5 := hide (HD4.out.kept hb5)
      have hb15 := hb14.trans (hb5.mono hb14.size)
      clear HC HE4 HD4 hb14 hb5 ho5 K5
      have K6 := texts_same w5 _ _ n5 n5 cap5 _ HC5.out HB5.out (by omega)
      go_wp2_with fail
      refine K6.mono ?_
      rintro e w6 ⟨rfl, hb6⟩
      have HE6 := hide (HE5.out.kept hb6)
      have HD6 := hide (HD5.out.kept hb6)
      have hb16 := hb15.trans (hb6.mono hb15.size)
      clear HE5 HD5 HC5 HB5 hb15 hb6 K6
      have q0 : (0 : Int) ≤ (L : Int) := by omega
      have q1 : (L : Int) ≤ (cap2 : Int) := by omega
      have q2 : L ≤ cap2 := by omega
      have q3 : (L : Int) < ((L + 1 : Nat) : Int) := by omega
      have q4 : (L : Int) < (L : Int) + 1 := by omega
      have K7 := texts_same w6 _ _ L L cap2 _ HD6.out (HE6.out.take (m := L) (by omega)) (by omega)
      go_wp2_with fail
      refine K7.mono ?_
      rintro e w7 ⟨rfl, hb7⟩
      have hc7 : w7.cell? ⟨g2, L, none⟩ = some (.string ⟨x.toArray⟩) := by
        rcases (HE6.out.kept hb7).2 with h0 | ⟨b, off, hb, _, hc⟩
        · omega
        · simp only [Option.some.injEq, Addr.mk.injEq, and_true] at hb
          obtain ⟨rfl, rfl⟩ := hb
          have h := hc L (by omega)
          rw [Nat.zero_add] at h
          rw [h, ← HLE.out]
          simp [gT, bt]
      have hb17 := hb16.trans (hb7.mono hb16.size)
      clear HE6 HD6 hb16 hb7 K7
      have K8 := awake_any w7 (tens_below HT.out hb17)
      go_wp2_with fail
      refine K8.mono ?_
      rintro e w8 ⟨rfl, hb8⟩
      have hb18 := hb17.trans (hb8.mono hb17.size)
      go_wp2
      go_ret
      exact ⟨rfl, hb18⟩
end Go.Proofs.YtgligelcabjikaaDoor
