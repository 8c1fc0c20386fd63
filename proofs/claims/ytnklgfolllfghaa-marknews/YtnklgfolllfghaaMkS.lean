/- Contracts of the document's answer for marks: Render. -/
import Derived.Test.YtnklgfolllfghaaMkR
import Derived.Lib.AppendStr
import Derived.Laws.BytesArg
namespace Go.Proofs.Ytnklgfolllfghaa.Mk
open Go.RowKit Go.Maps
set_option linter.unusedVariables false
set_option linter.unusedSimpArgs false

theorem app_str (w : World) (base : Nat) (ao : Option Addr) (n cap : Nat) (xs : List UInt8) (s : ByteArray) (h : w.ownsRow base 5 1 (.slice ao n cap) n (Lib.byteCells xs)) (hn : n ≤ 1000000000) (hs : s.size ≤ 1000) (hb : base ≤ w.heap.size) :
    ∃ ao1 cap1 w1, (Builtin.append_ #[60, 9] 60 #[.slice ao n cap, .string s]).run Try.prog w = .ok (.slice ao1 (n + s.size) cap1) w1 ∧ w1.ownsRow base 5 1 (.slice ao1 (n + s.size) cap1) (n + s.size) (Lib.byteCells (xs ++ s.data.toList)) ∧ Below base w w1 := by
  obtain ⟨i0, hi, hz0, hz1, hz2⟩ := info_parts info_byte
  obtain ⟨v', w', hr, h2, h3, _⟩ := Lib.run_append_own_string (P := Try.prog) w base 60 9 60 5 i0 Try.underlying60 Try.underlying9 hi hz0 hz1 hz2 (.slice ao n cap) n (Lib.byteCells xs) h s (by unfold maxLen; omega) (by omega) hb
  obtain ⟨ao1, cap1, rfl⟩ := row_form h2
  refine ⟨ao1, cap1, w', hr, ?_, ⟨h3.os, h3.tape, h3.output, h3.size, fun k hk => h3.block k (by omega) (fun e => by have := (h.lt k e.symm).1; omega)⟩⟩
  rw [Lib.byteCells_append]
  exact h2
theorem app_byte (w : World) (base : Nat) (ao : Option Addr) (n cap : Nat) (xs : List UInt8) (x : Int) (hx0 : 0 ≤ x) (hx1 : x < 256) (h : w.ownsRow base 5 1 (.slice ao n cap) n (Lib.byteCells xs)) (hn : n ≤ 1000000000) (hb : base ≤ w.heap.size) :
    ∃ g cap1 w1, (Builtin.append_ #[60, 60] 60 #[.slice ao n cap, .slice (some ⟨w.heap.size, 0, none⟩) 1 1]).run Try.prog (w.alloc (.cells #[.int .u8 x] 5)) = .ok (.slice (some ⟨g, 0, none⟩) (n + 1) cap1) w1 ∧ w1.ownsRow base 5 1 (.slice (some ⟨g, 0, none⟩) (n + 1) cap1) (n + 1) (Lib.byteCells (xs ++ [UInt8.ofNat x.toNat])) ∧ Below base w w1 := by
  obtain ⟨i0, hi, hz0, hz1, hz2⟩ := info_parts info_byte
  obtain ⟨g, cap1, w1, hrun, hown, hgrow, _, _⟩ := run_append_lies (P := Try.prog) (w.alloc (.cells #[.int .u8 x] 5)) 60 60 base 5 i0 _ 1 1 Try.underlying60 hi hz0 hz1 hz2 rfl (by omega) (.slice ao n cap) n (Lib.byteCells xs) (h.alloc _) ⟨w.heap.size, 0, none⟩ 1 1 [.int .u8 x] rfl (World.news_of_block (heap_alloc_new w _)) (by simp [Value.oneCell']) (by omega) (by unfold maxLen; omega) (by omega) (by simp; omega) (w.heap.size + 1) (by simp)
  refine ⟨g, cap1, w1, hrun, by rw [Lib.byteCells_append, byte_cells hx0 hx1]; exact hown, ?_⟩
  have h1 : Below base w (w.alloc (.cells #[.int .u8 x] 5)) := (low1 w _).mono hb
  exact h1.trans ⟨hgrow.os, hgrow.tape, hgrow.output, hgrow.size, fun k hk => hgrow.block k (by simp; omega) (fun e => by have := (h.lt k e.symm).1; omega)⟩
theorem str_nums (l : List UInt8) : strOfNums (l.map (fun c => (c.toNat : Int))) = ⟨l.toArray⟩ := by
  rw [strOfNums]
  congr 2
  rw [List.map_map]
  conv => rhs; rw [← List.map_id l]
  refine List.map_congr_left (fun x _ => ?_)
  simp
theorem conv_row (w : World) (base : Nat) (ao : Option Addr) (n cap : Nat) (xs : List UInt8) (h : w.ownsRow base 5 1 (.slice ao n cap) n (Lib.byteCells xs)) : (convert 60 9 (.slice ao n cap)).run Try.prog w = .ok (.string ⟨xs.toArray⟩) w := by
  have hl : xs.length = n := by have := h.1; simp [Lib.byteCells] at this; omega
  rcases h.2 with ⟨hv, h0⟩ | ⟨g, c, cur, hv, _⟩
  · simp only [Value.slice.injEq] at hv
    obtain ⟨rfl, rfl, rfl⟩ := hv
    have : xs = [] := List.eq_nil_of_length_eq_zero hl
    subst this
    exact run_convert_bytes_nil (P := Try.prog) w 60 5 Try.underlying60 Try.underlying5 0 0 9 Try.underlying9
  · simp only [Value.slice.injEq] at hv
    obtain ⟨rfl, _, rfl⟩ := hv
    have hc := run_convert_bytes_arg (P := Try.prog) w 60 5 Try.underlying60 Try.underlying5 g 0 n cap (xs.map (fun c => (c.toNat : Int))) (by simpa using hl) (fun i hi => by
      rw [Nat.zero_add, h.cellAt i (by omega)]
      simp [Lib.byteCells, List.getD_eq_getElem?_getD, List.getElem?_eq_getElem (show i < xs.length by omega)]) 9 Try.underlying9
    rw [str_nums] at hc
    exact hc

section
variable {ao : Option Addr} {cap : Nat} {L : List (Int × ByteArray)} {w : World}
set_option maxRecDepth 20000 in
set_option maxHeartbeats 4000000 in
theorem rrender_any (h : RdS w ao L.length L) (hk : TxOk L) {ai : Option Addr} {n ci : Nat} {I : List Int} (hI : RdI w ai n I) (hw : ∀ i, i < n → wfI (gI I i)) (hn : n ≤ 100000) : Calls Try.prog 22 #[.slice ao L.length cap, .slice ai n ci] w fun e w' => e = .returned (RndV (rnd (tL L) I)) ∧ Below w.heap.size w w' := by
  have HV := hide h
  have HK := hide hk
  have HI := hide hI
  have HW := hide hw
  have hfew := hk.few
  have HLN := hide hI.1
  clear h hk hI hw
  go_enter Try.func22, Try.ntmps22
  go_wp2
  go_loopw [6, 7] (fun a i wr => ∃ (k m : Nat) (acc : List UInt8) (ab : Option Addr) (cb : Nat), a = .slice ab m cb ∧ i = .int .i64 k ∧ k ≤ n ∧ m ≤ k * 1000 ∧ Hid (m = acc.length) ∧ Hid (rnd (tL L) (I.take k) = some acc) ∧ Hid (wr.ownsRow w.heap.size 5 1 (.slice ab m cb) m (Lib.byteCells acc)) ∧ Hid (Below w.heap.size w wr)) (fun _ i _ => n - (intOf i).toNat)
  case atStart => exact ⟨0, 0, [], none, 0, rfl, rfl, Nat.zero_le _, by omega, hide rfl, hide rfl, hide (by simpa [Lib.byteCells] using World.ownsRow_nil _ _ _ _), hide (Below.refl _ _)⟩
  case round =>
    obtain ⟨k, m, acc, ab, cb, rfl, rfl, hkn, hmk, HM, HRN, HR, HB⟩ := hrel
    by_cases hlt : k < n
    · have hk0 : (0 : Int) ≤ (k : Int) := by omega
      have hk1 : (k : Int) < (n : Int) := by omega
      have hkI : k < I.length := by rw [HLN.out]; exact hlt
      rcases HI.out.2 with h0 | ⟨b, off, rfl, hbl0, hc⟩
      · omega
      have c0 := (HB.out.cell (p := ⟨b, _, none⟩) hbl0).trans (hc k hlt)
      have C1 := fun (w1 : World) (hb1 : Below w.heap.size w w1) => (hb1.cell (p := ⟨b, _, none⟩) hbl0).trans (hc k hlt)
      have HC1 := hide C1
      have hwx := HW.out k hlt
      have hsz := HB.out.size
      clear hc C1
      have HP := hide (fun (a : List UInt8) (hx : itm (tL L) (gI I k) = some a) => show rnd (tL L) (I.take (k + 1)) = some (acc ++ a) by rw [take_succ_gI I hkI]; exact rnd_snoc HRN.out hx)
      have HST := hide (fun (hx : itm (tL L) (gI I k) = none) => show rnd (tL L) I = none by rw [split_at I hkI]; exact rnd_stop hx)
      clear hkI
      generalize gI I k = x at *
      by_cases hx0 : 0 ≤ x
      · by_cases hx1 : x < 256
        · have hcv2 : IntKind.u8.wrap x = x := by
            rw [IntKind.wrap_u8]
            omega
          obtain ⟨g1, cap2, w2, hrun, hown, hB2⟩ := app_byte wr w.heap.size ab m cb acc x hx0 hx1 HR.out (by omega) hsz
          have HRUN := hide hrun
          have HB2 := hide (HB.out.trans hB2)
          have HR2 := hide hown
          have HN := hide (HP.out _ (itm_byte _ hx0 hx1))
          clear hrun hown hB2
          go_wp2_with (at_builtin; refine Lib.wpList_append_run _ rfl _ _ _ _ rfl _ _ rfl rfl _ _ HRUN.out ?_)
          exact ⟨⟨k + 1, m + 1, _, _, cap2, rfl, by go_num, by omega, by omega, hide (by have := HM.out; simp; omega), HN, HR2, HB2⟩, by simp [intOf]; omega⟩
        · have HE := hide (HST.out (itm_none _ (by omega) (by omega)))
          go_wp2
          go_ret2
          refine ⟨?_, HB.out⟩
          rw [HE.out]
          rfl
      · by_cases hm0 : -(L.length : Int) ≤ x
        · obtain ⟨i, rfl, hi⟩ : ∃ i : Nat, x = -1 - i ∧ i < L.length := ⟨(-1 - x).toNat, by omega, by omega⟩
          have hitm := itm_mark (tL L) (x := -1 - i) (by omega) (by rw [tL_len]; omega)
          rw [show (-1 - (-1 - (i : Int))).toNat = i by omega, mT_tL L hi] at hitm
          have hle := HK.out.le i hi
          have HN := hide (HP.out _ hitm)
          clear hitm
          rcases HV.out.2 with h0 | ⟨b2, off2, rfl, hbl2, hc2⟩
          · omega
          have d1 := (HB.out.cell (p := ⟨b2, _, none⟩) hbl2).trans (hc2 i hi).2
          clear hc2
          generalize (gS L i).2 = y2 at *
          have hi0 : (0 : Int) ≤ (i : Int) := by omega
          have hi1 : (i : Int) < (L.length : Int) := by omega
          obtain ⟨g1, cap2, w2, hrun, hown, hB2⟩ := app_str wr w.heap.size ab m cb acc y2 HR.out (by omega) hle hsz
          have HRUN := hide hrun
          have HB2 := hide (HB.out.trans hB2)
          have HR2 := hide hown
          generalize hxx : -1 - (i : Int) = x at *
          have hwr : IntKind.i64.wrap (-1 - x) = (i : Int) := by rw [← hxx, show -1 - (-1 - (i : Int)) = (i : Int) by omega, IntKind.wrap_i64]; omega
          have hx2 : -1 - x = (i : Int) := by omega
          clear hrun hown hB2 hxx
          go_wp2_with (at_builtin; refine Lib.wpList_append_run _ rfl _ _ _ _ rfl _ _ rfl rfl _ _ HRUN.out ?_)
          exact ⟨⟨k + 1, m + y2.size, _, _, cap2, rfl, by go_num, by omega, by omega, hide (by have := HM.out; have h2 : y2.data.toList.length = y2.size := Array.length_toList; simp; omega), HN, HR2, HB2⟩, by simp [intOf]; omega⟩
        · have HE := hide (HST.out (itm_none _ (by omega) (by rw [tL_len]; omega)))
          go_wp2
          go_ret2
          refine ⟨?_, HB.out⟩
          rw [HE.out]
          rfl
    · obtain rfl : k = n := by omega
      have hrun := HRN.out
      rw [List.take_of_length_le (by rw [HLN.out]; exact Nat.le_refl _)] at hrun
      have HE := hide hrun
      have hcv := conv_row wr w.heap.size ab m cb acc HR.out
      clear hrun
      go_wp2
      go_ret2
      refine ⟨?_, HB.out⟩
      rw [HE.out]
      rfl
end
end Go.Proofs.Ytnklgfolllfghaa.Mk
