/- Contract: word.Parse. -/
import Derived.Test.YteiinkhdgppgbaaGreatDoorWordF
import Derived.Test.YteiinkhdgppgbaaGreatDoorWordH
namespace Go.Proofs.YteiinkhdgppgbaaGreatDoor
open Go.RowKit
set_option linter.unusedVariables false
set_option linter.unusedSimpArgs false

/-- The package's two errors lie in the world, whatever they are. -/
def Errs (w : World) : Prop := (∃ ev, w.cell? ⟨5, 0, none⟩ = some ev ∧ (ev = .nilIface ∨ ∃ te pe, ev = .iface te pe)) ∧ ∃ ev, w.cell? ⟨6, 0, none⟩ = some ev ∧ (ev = .nilIface ∨ ∃ te pe, ev = .iface te pe)
theorem errs_below {w w' : World} (h : Errs w) (hb : Below w.heap.size w w') : Errs w' := by
  obtain ⟨⟨e0, h0, k0⟩, e1, h1, k1⟩ := h
  exact ⟨⟨e0, (bcell hb (World.block_lt_of_cell? w _ h0)).trans h0, k0⟩, e1, (bcell hb (World.block_lt_of_cell? w _ h1)).trans h1, k1⟩
theorem below_bytes (w : World) (t : ByteArray) : Below w.heap.size w (Lib.bytesWorld w 5 t) := by
  refine ⟨rfl, rfl, rfl, by rw [Lib.bytesWorld_size]; omega, fun k hk => Lib.bytesWorld_at_old w _ t k hk⟩

set_option maxHeartbeats 1600000 in
set_option maxRecDepth 20000 in
theorem parse_any (s : ByteArray) (most : Int) (w : World) (hs : s.size ≤ 1000000) (ht : Tens w) (he : Errs w) :
    Calls Tryz.prog 82 #[.string s, .int .i64 most] w fun e w' => e = .returned (.tuple #[.int .i64 (parseS s.data.toList most).1, .bool (parseS s.data.toList most).2]) ∧ Below w.heap.size w w' := by
  have HT := hide ht
  have HE := hide he
  clear ht he
  cases ha : Lib.atoiAll s.data.toList with
  | ok n =>
    have hbd := Lib.atoiAll_bounds ha
    have HC := hide (fun w => Tryz.strconv_Atoi_ok s (by omega) n ha w)
    have HP : Hid (parseS s.data.toList most = if 0 ≤ n ∧ n ≤ most ∧ Lib.itoa n = s.data.toList then (n, true) else (0, false)) := hide (by unfold parseS; rw [ha])
    clear ha
    by_cases h1 : n < 0
    · have HF := hide (show parseS s.data.toList most = (0, false) by rw [HP.out, if_neg (by omega)])
      go_enter Tryz.func82, Tryz.ntmps82
      go_wp2_with fail
      refine (HC.out w).mono ?_
      rintro e w1 ⟨rfl, hw1⟩
      have HB : Hid (Below w.heap.size w w1) := by
        rcases hw1 with rfl | ⟨t, rfl⟩
        · exact hide (Below.refl _ _)
        · exact hide (below_bytes _ _)
      clear hw1
      go_wp2
      go_ret2
      rw [HF.out]
      exact ⟨rfl, HB.out⟩
    by_cases h2 : most < n
    · have HF := hide (show parseS s.data.toList most = (0, false) by rw [HP.out, if_neg (by omega)])
      go_enter Tryz.func82, Tryz.ntmps82
      go_wp2_with fail
      refine (HC.out w).mono ?_
      rintro e w1 ⟨rfl, hw1⟩
      have HB : Hid (Below w.heap.size w w1) := by
        rcases hw1 with rfl | ⟨t, rfl⟩
        · exact hide (Below.refl _ _)
        · exact hide (below_bytes _ _)
      clear hw1
      go_wp2
      go_ret2
      rw [HF.out]
      exact ⟨rfl, HB.out⟩
    have hnum : (numS n).toList = Lib.itoa n := by rw [ByteArray.toList_eq]; rfl
    have hst : s.toList = s.data.toList := ByteArray.toList_eq ..
    by_cases h3 : Lib.itoa n = s.data.toList
    · have HF := hide (show parseS s.data.toList most = (n, true) by rw [HP.out, if_pos ⟨by omega, by omega, h3⟩])
      have hq : ((numS n).toList == s.toList) = true := by rw [hnum, hst, h3]; simp
      clear hnum hst h3
      go_enter Tryz.func82, Tryz.ntmps82
      go_wp2_with fail
      refine (HC.out w).mono ?_
      rintro e w1 ⟨rfl, hw1⟩
      have HB : Hid (Below w.heap.size w w1) := by
        rcases hw1 with rfl | ⟨t, rfl⟩
        · exact hide (Below.refl _ _)
        · exact hide (below_bytes _ _)
      clear hw1
      go_wp2_with fail
      refine (number_any n hbd.1 hbd.2 w1 (tens_below HT.out HB.out)).mono ?_
      rintro e w2 ⟨rfl, hb2⟩
      go_wp2
      go_ret2
      rw [HF.out]
      exact ⟨rfl, HB.out.trans (hb2.mono HB.out.size)⟩
    · have HF := hide (show parseS s.data.toList most = (0, false) by rw [HP.out, if_neg (fun h => h3 h.2.2)])
      have hq : ((numS n).toList == s.toList) = false := by rw [hnum, hst, Bool.eq_false_iff]; intro h; exact h3 (by simpa using h)
      clear hnum hst h3
      go_enter Tryz.func82, Tryz.ntmps82
      go_wp2_with fail
      refine (HC.out w).mono ?_
      rintro e w1 ⟨rfl, hw1⟩
      have HB : Hid (Below w.heap.size w w1) := by
        rcases hw1 with rfl | ⟨t, rfl⟩
        · exact hide (Below.refl _ _)
        · exact hide (below_bytes _ _)
      clear hw1
      go_wp2_with fail
      refine (number_any n hbd.1 hbd.2 w1 (tens_below HT.out HB.out)).mono ?_
      rintro e w2 ⟨rfl, hb2⟩
      go_wp2
      go_ret2
      rw [HF.out]
      exact ⟨rfl, HB.out.trans (hb2.mono HB.out.size)⟩
  | «syntax» =>
    have HF : Hid (parseS s.data.toList most = (0, false)) := hide (by unfold parseS; rw [ha])
    obtain ⟨⟨ev, h0, k0⟩, _⟩ := HE.out
    have HC := hide (Tryz.strconv_Atoi_syntax s (by omega) ha ev w h0 k0)
    clear ha h0 k0
    go_enter Tryz.func82, Tryz.ntmps82
    go_wp2_with fail
    refine HC.out.mono ?_
    rintro e w1 ⟨N, rfl, _, _, hb1⟩
    go_wp2
    go_ret2
    rw [HF.out]
    exact ⟨rfl, hb1⟩
  | range =>
    have HF : Hid (parseS s.data.toList most = (0, false)) := hide (by unfold parseS; rw [ha])
    obtain ⟨_, ev, h0, k0⟩ := HE.out
    have HC := hide (Tryz.strconv_Atoi_range s (by omega) ha ev w h0 k0)
    clear ha h0 k0
    go_enter Tryz.func82, Tryz.ntmps82
    go_wp2_with fail
    refine HC.out.mono ?_
    rintro e w1 ⟨N, rfl, _, _, hb1⟩
    go_wp2
    go_ret2
    rw [HF.out]
    exact ⟨rfl, hb1⟩
end Go.Proofs.YteiinkhdgppgbaaGreatDoor
