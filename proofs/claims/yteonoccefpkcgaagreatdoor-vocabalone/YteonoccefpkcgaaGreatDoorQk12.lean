/- Contract: the reference's Unhex. Contracts: Number, Line, Numbers, awake. Contract: word.Parse. Contracts: awake; the law of hex words. Contract: the reference's Number. -/
import Derived.Test.YteonoccefpkcgaaGreatDoorQk6
import Derived.Deep.AppendLies
import Derived.Deep.RegionLaw
import Derived.Deep.RegionHeld3
import Derived.Lib.LaidTab
import Derived.Deep.RegionWith
import Derived.Test.YteonoccefpkcgaaGreatDoorQk7
namespace Go.Proofs.YteonoccefpkcgaaGreatDoor.Wf
open Go.RowKit
set_option linter.unusedVariables false
set_option linter.unusedSimpArgs false

end Go.Proofs.YteonoccefpkcgaaGreatDoor.Wf

namespace Go.Proofs.YteonoccefpkcgaaGreatDoor.Wf
open Go.RowKit
set_option linter.unusedVariables false
set_option linter.unusedSimpArgs false

/-- The table of tens lies in the world. -/
def Tens (w : World) : Prop := Lib.TabIs Tryz.prog w "internal/strconv.uint64pow10" .u64 Lib.pow10Tab
theorem below_grow (w : World) (k : Nat) (os : Array Obj) : Below w.heap.size w (Go.Sort.grow (w.drewN k) os) := by
  refine ⟨rfl, rfl, rfl, ?_, ?_⟩
  · show w.heap.size ≤ (w.heap ++ os).size
    rw [Array.size_append]; omega
  · intro i hi
    show (w.heap ++ os)[i]? = w.heap[i]?
    exact Array.getElem?_append_left hi

def numS (n : Int) : ByteArray := ⟨(Lib.itoa n).toArray⟩
theorem number_any (n : Int) (h0 : -9223372036854775808 ≤ n) (h1 : n ≤ 9223372036854775807) (w : World) (ht : Tens w) :
    Calls Tryz.prog 190 #[.int .i64 n] w fun e w' => e = .returned (.string (numS n)) ∧ Below w.heap.size w w' := by
  have HT := hide ht
  clear ht
  go_enter Tryz.func190, Tryz.ntmps190
  go_wp2_with fail
  refine (Tryz.strconv_Itoa n h0 h1 w HT.out).mono ?_
  rintro e w1 ⟨rfl, k, os, hw1⟩
  have hb : Below w.heap.size w w1 := by rw [hw1]; exact below_grow w k os
  clear hw1
  go_wp2
  go_ret
  exact ⟨rfl, hb⟩

/-- A slice of texts, read. -/
def ReadsS (w : World) (ao : Option Addr) (n : Nat) (ss : List ByteArray) : Prop :=
  ss.length = n ∧ (n = 0 ∨ ∃ b off, ao = some ⟨b, off, none⟩ ∧ ∀ i, i < n → w.cell? ⟨b, off + i, none⟩ = some (.string (ss.getD i ⟨#[]⟩)))
theorem ReadsS.at {w : World} {ao : Option Addr} {n : Nat} {ss : List ByteArray} (h : ReadsS w ao n ss) {i : Nat} (hi : i < n) :
    ∃ b off, ao = some ⟨b, off, none⟩ ∧ ∀ i, i < n → w.cell? ⟨b, off + i, none⟩ = some (.string (ss.getD i ⟨#[]⟩)) := by
  rcases h.2 with h0 | h1
  · omega
  · exact h1
theorem tens_below {w w' : World} (h : Tens w) (hb : Below w.heap.size w w') : Tens w' := by
  unfold Tens Lib.TabIs World.var? at h ⊢
  cases hg : Tryz.prog.globalNamed "internal/strconv.uint64pow10" with
  | none => rw [hg] at h; cases h
  | some g =>
    rw [hg] at h
    simp only [Option.bind_some] at h ⊢
    have hlt : g < w.heap.size := by
      rcases Nat.lt_or_ge g w.heap.size with h' | h'
      · exact h'
      · rw [Array.getElem?_eq_none h'] at h; cases h
    rw [hb.block g hlt]
    exact h

end Go.Proofs.YteonoccefpkcgaaGreatDoor.Wf

namespace Go.Proofs.YteonoccefpkcgaaGreatDoor.Wf
open Go.RowKit
set_option linter.unusedVariables false
set_option linter.unusedSimpArgs false

/-- The package's two errors lie in the world, whatever they are. -/
def Errs (w : World) : Prop := (∃ ev, w.cell? ⟨4, 0, none⟩ = some ev ∧ (ev = .nilIface ∨ ∃ te pe, ev = .iface te pe)) ∧ ∃ ev, w.cell? ⟨5, 0, none⟩ = some ev ∧ (ev = .nilIface ∨ ∃ te pe, ev = .iface te pe)
theorem errs_below {w w' : World} (h : Errs w) (hb : Below w.heap.size w w') : Errs w' := by
  obtain ⟨⟨e0, h0, k0⟩, e1, h1, k1⟩ := h
  exact ⟨⟨e0, (bcell hb (World.block_lt_of_cell? w _ h0)).trans h0, k0⟩, e1, (bcell hb (World.block_lt_of_cell? w _ h1)).trans h1, k1⟩
theorem below_bytes (w : World) (t : ByteArray) : Below w.heap.size w (Lib.bytesWorld w 5 t) := by
  refine ⟨rfl, rfl, rfl, by rw [Lib.bytesWorld_size]; omega, fun k hk => Lib.bytesWorld_at_old w _ t k hk⟩

set_option maxHeartbeats 1600000 in
set_option maxRecDepth 20000 in
theorem parse_any (s : ByteArray) (most : Int) (w : World) (hs : s.size ≤ 1000000) (ht : Tens w) (he : Errs w) :
    Calls Tryz.prog 172 #[.string s, .int .i64 most] w fun e w' => e = .returned (.tuple #[.int .i64 (parseS s.data.toList most).1, .bool (parseS s.data.toList most).2]) ∧ Below w.heap.size w w' := by
  have HT := hide ht
  have HE := hide he
  clear ht he
  cases ha : Lib.atoiAll s.data.toList with
  | ok n =>
    have hbd := Lib.atoiAll_bounds ha
    have HC := hide (fun w => Tryz.strconv_Atoi_ok s (by omega) n ha w)
    have HP : Hid (parseS s.data.toList most = if 0 ≤ n ∧ n ≤ most ∧ Lib.itoa n = s.data.toList then (n, true) else (0, false)) := hide (by unfold parseS; rw [ha])
    clear ha
    by_cases h1 : n < 0
    · have HF := hide (show parseS s.data.toList most = (0, false) by rw [HP.out, if_neg (by omega)])
      go_enter Tryz.func172, Tryz.ntmps172
      go_wp2_with fail
      refine (HC.out w).mono ?_
      rintro e w1 ⟨rfl, hw1⟩
      have HB : Hid (Below w.heap.size w w1) := by
        rcases hw1 with rfl | ⟨t, rfl⟩
        · exact hide (Below.refl _ _)
        · exact hide (below_bytes _ _)
      clear hw1
      go_wp2
      go_ret2
      rw [HF.out]
      exact ⟨rfl, HB.out⟩
    by_cases h2 : most < n
    · have HF := hide (show parseS s.data.toList most = (0, false) by rw [HP.out, if_neg (by omega)])
      go_enter Tryz.func172, Tryz.ntmps172
      go_wp2_with fail
      refine (HC.out w).mono ?_
      rintro e w1 ⟨rfl, hw1⟩
      have HB : Hid (Below w.heap.size w w1) := by
        rcases hw1 with rfl | ⟨t, rfl⟩
        · exact hide (Below.refl _ _)
        · exact hide (below_bytes _ _)
      clear hw1
      go_wp2
      go_ret2
      rw [HF.out]
      exact ⟨rfl, HB.out⟩
    have hnum : (numS n).toList = Lib.itoa n := by rw [ByteArray.toList_eq]; rfl
    have hst : s.toList = s.data.toList := ByteArray.toList_eq ..
    by_cases h3 : Lib.itoa n = s.data.toList
    · have HF := hide (show parseS s.data.toList most = (n, true) by rw [HP.out, if_pos ⟨by omega, by omega, h3⟩])
      have hq : ((numS n).toList == s.toList) = true := by rw [hnum, hst, h3]; simp
      clear hnum hst h3
      go_enter Tryz.func172, Tryz.ntmps172
      go_wp2_with fail
      refine (HC.out w).mono ?_
      rintro e w1 ⟨rfl, hw1⟩
      have HB : Hid (Below w.heap.size w w1) := by
        rcases hw1 with rfl | ⟨t, rfl⟩
        · exact hide (Below.refl _ _)
        · exact hide (below_bytes _ _)
      clear hw1
      go_wp2_with fail
      refine (number_any n hbd.1 hbd.2 w1 (tens_below HT.out HB.out)).mono ?_
      rintro e w2 ⟨rfl, hb2⟩
      go_wp2
      go_ret2
      rw [HF.out]
      exact ⟨rfl, HB.out.trans (hb2.mono HB.out.size)⟩
    · have HF := hide (show parseS s.data.toList most = (0, false) by rw [HP.out, if_neg (fun h => h3 h.2.2)])
      have hq : ((numS n).toList == s.toList) = false := by rw [hnum, hst, Bool.eq_false_iff]; intro h; exact h3 (by simpa using h)
      clear hnum hst h3
      go_enter Tryz.func172, Tryz.ntmps172
      go_wp2_with fail
      refine (HC.out w).mono ?_
      rintro e w1 ⟨rfl, hw1⟩
      have HB : Hid (Below w.heap.size w w1) := by
        rcases hw1 with rfl | ⟨t, rfl⟩
        · exact hide (Below.refl _ _)
        · exact hide (below_bytes _ _)
      clear hw1
      go_wp2_with fail
      refine (number_any n hbd.1 hbd.2 w1 (tens_below HT.out HB.out)).mono ?_
      rintro e w2 ⟨rfl, hb2⟩
      go_wp2
      go_ret2
      rw [HF.out]
      exact ⟨rfl, HB.out.trans (hb2.mono HB.out.size)⟩
  | «syntax» =>
    have HF : Hid (parseS s.data.toList most = (0, false)) := hide (by unfold parseS; rw [ha])
    obtain ⟨⟨ev, h0, k0⟩, _⟩ := HE.out
    have HC := hide (Tryz.strconv_Atoi_syntax s (by omega) ha ev w h0 k0)
    clear ha h0 k0
    go_enter Tryz.func172, Tryz.ntmps172
    go_wp2_with fail
    refine HC.out.mono ?_
    rintro e w1 ⟨N, rfl, _, _, hb1⟩
    go_wp2
    go_ret2
    rw [HF.out]
    exact ⟨rfl, hb1⟩
  | range =>
    have HF : Hid (parseS s.data.toList most = (0, false)) := hide (by unfold parseS; rw [ha])
    obtain ⟨_, ev, h0, k0⟩ := HE.out
    have HC := hide (Tryz.strconv_Atoi_range s (by omega) ha ev w h0 k0)
    clear ha h0 k0
    go_enter Tryz.func172, Tryz.ntmps172
    go_wp2_with fail
    refine HC.out.mono ?_
    rintro e w1 ⟨N, rfl, _, _, hb1⟩
    go_wp2
    go_ret2
    rw [HF.out]
    exact ⟨rfl, hb1⟩
end Go.Proofs.YteonoccefpkcgaaGreatDoor.Wf

namespace Go.Proofs.YteonoccefpkcgaaGreatDoor.Wf
open Go.RowKit
set_option linter.unusedVariables false
set_option linter.unusedSimpArgs false

end Go.Proofs.YteonoccefpkcgaaGreatDoor.Wf

namespace Go.Proofs.YteonoccefpkcgaaGreatDoor.Wf
open Go.RowKit
set_option linter.unusedVariables false
set_option linter.unusedSimpArgs false

def up (m : Nat) : List UInt8 := if m = 0 then [] else Lib.decDigits m
end Go.Proofs.YteonoccefpkcgaaGreatDoor.Wf
