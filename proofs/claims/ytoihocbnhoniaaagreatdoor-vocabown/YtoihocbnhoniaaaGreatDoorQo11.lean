/- Contract: the reference's Unhex. Contracts: Number, Line, Numbers, awake. Contract: word.Parse. Contracts: awake; the law of hex words. Contract: the reference's Number. -/
import Derived.Test.YtoihocbnhoniaaaGreatDoorQo4
import Derived.Deep.AppendLies
import Derived.Deep.RegionLaw
import Derived.Deep.RegionHeld3
import Derived.Lib.LaidTab
import Derived.Deep.RegionWith
import Derived.Test.YtoihocbnhoniaaaGreatDoorQo5
namespace Go.Proofs.YtoihocbnhoniaaaGreatDoor.Wf
open Go.RowKit
set_option linter.unusedVariables false
set_option linter.unusedSimpArgs false

theorem ownsRow_lit {w : World} {base k : Nat} {v : Value} {xs : List Value} (x : Value) (h : w.ownsRow base 5 1 v k xs) : ((w.alloc (.cells #[x] 5)).drew).ownsRow base 5 1 v k xs := by
  refine h.kept (row := none) ⟨rfl, rfl, rfl, by simp, fun i hi _ => Below.heap_alloc w _ i hi⟩ ?_
  cases v.ownBlock with
  | none => exact Or.inl rfl
  | some b => exact Or.inr (by simp)
end Go.Proofs.YtoihocbnhoniaaaGreatDoor.Wf

namespace Go.Proofs.YtoihocbnhoniaaaGreatDoor.Wf
open Go.RowKit
set_option linter.unusedVariables false
set_option linter.unusedSimpArgs false

/-- The table of tens lies in the world. -/
def Tens (w : World) : Prop := Lib.TabIs Tryz.prog w "internal/strconv.uint64pow10" .u64 Lib.pow10Tab
theorem below_grow (w : World) (k : Nat) (os : Array Obj) : Below w.heap.size w (Go.Sort.grow (w.drewN k) os) := by
  refine ⟨rfl, rfl, rfl, ?_, ?_⟩
  · show w.heap.size ≤ (w.heap ++ os).size
    rw [Array.size_append]; omega
  · intro i hi
    show (w.heap ++ os)[i]? = w.heap[i]?
    exact Array.getElem?_append_left hi

def numS (n : Int) : ByteArray := ⟨(Lib.itoa n).toArray⟩
theorem number_any (n : Int) (h0 : -9223372036854775808 ≤ n) (h1 : n ≤ 9223372036854775807) (w : World) (ht : Tens w) :
    Calls Tryz.prog 203 #[.int .i64 n] w fun e w' => e = .returned (.string (numS n)) ∧ Below w.heap.size w w' := by
  have HT := hide ht
  clear ht
  go_enter Tryz.func203, Tryz.ntmps203
  go_wp2_with fail
  refine (Tryz.strconv_Itoa n h0 h1 w HT.out).mono ?_
  rintro e w1 ⟨rfl, k, os, hw1⟩
  have hb : Below w.heap.size w w1 := by rw [hw1]; exact below_grow w k os
  clear hw1
  go_wp2
  go_ret
  exact ⟨rfl, hb⟩

/-- A slice of texts, read. -/
def ReadsS (w : World) (ao : Option Addr) (n : Nat) (ss : List ByteArray) : Prop :=
  ss.length = n ∧ (n = 0 ∨ ∃ b off, ao = some ⟨b, off, none⟩ ∧ ∀ i, i < n → w.cell? ⟨b, off + i, none⟩ = some (.string (ss.getD i ⟨#[]⟩)))
theorem ReadsS.at {w : World} {ao : Option Addr} {n : Nat} {ss : List ByteArray} (h : ReadsS w ao n ss) {i : Nat} (hi : i < n) :
    ∃ b off, ao = some ⟨b, off, none⟩ ∧ ∀ i, i < n → w.cell? ⟨b, off + i, none⟩ = some (.string (ss.getD i ⟨#[]⟩)) := by
  rcases h.2 with h0 | h1
  · omega
  · exact h1
theorem tens_below {w w' : World} (h : Tens w) (hb : Below w.heap.size w w') : Tens w' := by
  unfold Tens Lib.TabIs World.var? at h ⊢
  cases hg : Tryz.prog.globalNamed "internal/strconv.uint64pow10" with
  | none => rw [hg] at h; cases h
  | some g =>
    rw [hg] at h
    simp only [Option.bind_some] at h ⊢
    have hlt : g < w.heap.size := by
      rcases Nat.lt_or_ge g w.heap.size with h' | h'
      · exact h'
      · rw [Array.getElem?_eq_none h'] at h; cases h
    rw [hb.block g hlt]
    exact h

theorem decDigits_len (k : Nat) : ∀ u, u < 10 ^ (k + 1) → (Lib.decDigits u).length ≤ k + 1 := by
  induction k with
  | zero =>
    intro u hu
    rw [Lib.decDigits, dif_pos (by simpa using hu)]
    simp
  | succ k ih =>
    intro u hu
    rw [Lib.decDigits]
    split
    · simp
    · rw [List.length_append]
      have := ih (u / 10) (by rw [Nat.pow_succ] at hu; omega)
      simp only [List.length_cons, List.length_nil]
      omega
end Go.Proofs.YtoihocbnhoniaaaGreatDoor.Wf

namespace Go.Proofs.YtoihocbnhoniaaaGreatDoor.Wf
open Go.RowKit
set_option linter.unusedVariables false
set_option linter.unusedSimpArgs false

/-- The package's two errors lie in the world, whatever they are. -/
def Errs (w : World) : Prop := (∃ ev, w.cell? ⟨4, 0, none⟩ = some ev ∧ (ev = .nilIface ∨ ∃ te pe, ev = .iface te pe)) ∧ ∃ ev, w.cell? ⟨5, 0, none⟩ = some ev ∧ (ev = .nilIface ∨ ∃ te pe, ev = .iface te pe)
theorem errs_below {w w' : World} (h : Errs w) (hb : Below w.heap.size w w') : Errs w' := by
  obtain ⟨⟨e0, h0, k0⟩, e1, h1, k1⟩ := h
  exact ⟨⟨e0, (bcell hb (World.block_lt_of_cell? w _ h0)).trans h0, k0⟩, e1, (bcell hb (World.block_lt_of_cell? w _ h1)).trans h1, k1⟩
theorem below_bytes (w : World) (t : ByteArray) : Below w.heap.size w (Lib.bytesWorld w 5 t) := by
  refine ⟨rfl, rfl, rfl, by rw [Lib.bytesWorld_size]; omega, fun k hk => Lib.bytesWorld_at_old w _ t k hk⟩

set_option maxHeartbeats 1600000 in
set_option maxRecDepth 20000 in
theorem parse_any (s : ByteArray) (most : Int) (w : World) (hs : s.size ≤ 1000000) (ht : Tens w) (he : Errs w) :
    Calls Tryz.prog 181 #[.string s, .int .i64 most] w fun e w' => e = .returned (.tuple #[.int .i64 (parseS s.data.toList most).1, .bool (parseS s.data.toList most).2]) ∧ Below w.heap.size w w' := by
  have HT := hide ht
  have HE := hide he
  clear ht he
  cases ha : Lib.atoiAll s.data.toList with
  | ok n =>
    have hbd := Lib.atoiAll_bounds ha
    have HC := hide (fun w => Tryz.strconv_Atoi_ok s (by omega) n ha w)
    have HP : Hid (parseS s.data.toList most = if 0 ≤ n ∧ n ≤ most ∧ Lib.itoa n = s.data.toList then (n, true) else (0, false)) := hide (by unfold parseS; rw [ha])
    clear ha
    by_cases h1 : n < 0
    · have HF := hide (show parseS s.data.toList most = (0, false) by rw [HP.out, if_neg (by omega)])
      go_enter Tryz.func181, Tryz.ntmps181
      go_wp2_with fail
      refine (HC.out w).mono ?_
      rintro e w1 ⟨rfl, hw1⟩
      have HB : Hid (Below w.heap.size w w1) := by
        rcases hw1 with rfl | ⟨t, rfl⟩
        · exact hide (Below.refl _ _)
        · exact hide (below_bytes _ _)
      clear hw1
      go_wp2
      go_ret2
      rw [HF.out]
      exact ⟨rfl, HB.out⟩
    by_cases h2 : most < n
    · have HF := hide (show parseS s.data.toList most = (0, false) by rw [HP.out, if_neg (by omega)])
      go_enter Tryz.func181, Tryz.ntmps181
      go_wp2_with fail
      refine (HC.out w).mono ?_
      rintro e w1 ⟨rfl, hw1⟩
      have HB : Hid (Below w.heap.size w w1) := by
        rcases hw1 with rfl | ⟨t, rfl⟩
        · exact hide (Below.refl _ _)
        · exact hide (below_bytes _ _)
      clear hw1
      go_wp2
      go_ret2
      rw [HF.out]
      exact ⟨rfl, HB.out⟩
    have hnum : (numS n).toList = Lib.itoa n := by rw [ByteArray.toList_eq]; rfl
    have hst : s.toList = s.data.toList := ByteArray.toList_eq ..
    by_cases h3 : Lib.itoa n = s.data.toList
    · have HF := hide (show parseS s.data.toList most = (n, true) by rw [HP.out, if_pos ⟨by omega, by omega, h3⟩])
      have hq : ((numS n).toList == s.toList) = true := by rw [hnum, hst, h3]; simp
      clear hnum hst h3
      go_enter Tryz.func181, Tryz.ntmps181
      go_wp2_with fail
      refine (HC.out w).mono ?_
      rintro e w1 ⟨rfl, hw1⟩
      have HB : Hid (Below w.heap.size w w1) := by
        rcases hw1 with rfl | ⟨t, rfl⟩
        · exact hide (Below.refl _ _)
        · exact hide (below_bytes _ _)
      clear hw1
      go_wp2_with fail
      refine (number_any n hbd.1 hbd.2 w1 (tens_below HT.out HB.out)).mono ?_
      rintro e w2 ⟨rfl, hb2⟩
      go_wp2
      go_ret2
      rw [HF.out]
      exact ⟨rfl, HB.out.trans (hb2.mono HB.out.size)⟩
    · have HF := hide (show parseS s.data.toList most = (0, false) by rw [HP.out, if_neg (fun h => h3 h.2.2)])
      have hq : ((numS n).toList == s.toList) = false := by rw [hnum, hst, Bool.eq_false_iff]; intro h; exact h3 (by simpa using h)
      clear hnum hst h3
      go_enter Tryz.func181, Tryz.ntmps181
      go_wp2_with fail
      refine (HC.out w).mono ?_
      rintro e w1 ⟨rfl, hw1⟩
      have HB : Hid (Below w.heap.size w w1) := by
        rcases hw1 with rfl | ⟨t, rfl⟩
        · exact hide (Below.refl _ _)
        · exact hide (below_bytes _ _)
      clear hw1
      go_wp2_with fail
      refine (number_any n hbd.1 hbd.2 w1 (tens_below HT.out HB.out)).mono ?_
      rintro e w2 ⟨rfl, hb2⟩
      go_wp2
      go_ret2
      rw [HF.out]
      exact ⟨rfl, HB.out.trans (hb2.mono HB.out.size)⟩
  | «syntax» =>
    have HF : Hid (parseS s.data.toList most = (0, false)) := hide (by unfold parseS; rw [ha])
    obtain ⟨⟨ev, h0, k0⟩, _⟩ := HE.out
    have HC := hide (Tryz.strconv_Atoi_syntax s (by omega) ha ev w h0 k0)
    clear ha h0 k0
    go_enter Tryz.func181, Tryz.ntmps181
    go_wp2_with fail
    refine HC.out.mono ?_
    rintro e w1 ⟨N, rfl, _, _, hb1⟩
    go_wp2
    go_ret2
    rw [HF.out]
    exact ⟨rfl, hb1⟩
  | range =>
    have HF : Hid (parseS s.data.toList most = (0, false)) := hide (by unfold parseS; rw [ha])
    obtain ⟨_, ev, h0, k0⟩ := HE.out
    have HC := hide (Tryz.strconv_Atoi_range s (by omega) ha ev w h0 k0)
    clear ha h0 k0
    go_enter Tryz.func181, Tryz.ntmps181
    go_wp2_with fail
    refine HC.out.mono ?_
    rintro e w1 ⟨N, rfl, _, _, hb1⟩
    go_wp2
    go_ret2
    rw [HF.out]
    exact ⟨rfl, hb1⟩
end Go.Proofs.YtoihocbnhoniaaaGreatDoor.Wf

namespace Go.Proofs.YtoihocbnhoniaaaGreatDoor.Wf
open Go.RowKit
set_option linter.unusedVariables false
set_option linter.unusedSimpArgs false

theorem hexS_size (b : ByteArray) : (hexS b).size ≤ 2 * b.size + 1 := by
  rw [hexS]
  split
  · show 1 ≤ _
    omega
  · show (hexL b.data.toList).toArray.size ≤ _
    rw [List.size_toArray, hexL_length, Array.length_toList]
    have : b.data.size = b.size := rfl
    omega
end Go.Proofs.YtoihocbnhoniaaaGreatDoor.Wf

namespace Go.Proofs.YtoihocbnhoniaaaGreatDoor.Wf
open Go.RowKit
set_option linter.unusedVariables false
set_option linter.unusedSimpArgs false

def up (m : Nat) : List UInt8 := if m = 0 then [] else Lib.decDigits m
theorem dec_step (m : Nat) : Lib.decDigits m = up (m / 10) ++ [UInt8.ofNat (48 + m % 10)] := by
  rw [Lib.decDigits, up]
  split
  · rw [if_pos (by omega), show m % 10 = m by omega]
    rfl
  · rw [if_neg (by omega)]
theorem conv1 (wr : World) (x : Int) : (convert 91 9 (.slice (some ⟨wr.heap.size, 0, none⟩) 1 1)).run Tryz.prog (wr.alloc (.cells #[.int .u8 x] 5)) = .ok (.string (strOfNums [x])) (wr.alloc (.cells #[.int .u8 x] 5)) :=
  run_convert_bytes_arg (P := Tryz.prog) (wr.alloc (.cells #[.int .u8 x] 5)) 91 5 Tryz.underlying91 Tryz.underlying5 wr.heap.size 0 1 1 [x] rfl (by
    intro i hi
    obtain rfl : i = 0 := (by omega)
    simp) 9 Tryz.underlying9
def strE : Value → Nat | .string s => if s.size = 0 then 1 else 0 | _ => 0
theorem str_one (m : Nat) (l : List UInt8) : strOfNums [48 + (m : Int) % 10] ++ (⟨l.toArray⟩ : ByteArray) = ⟨(UInt8.ofNat (48 + m % 10) :: l).toArray⟩ := by
  have : strOfNums [48 + (m : Int) % 10] = ⟨[UInt8.ofNat (48 + m % 10)].toArray⟩ := by
    rw [strOfNums, List.map_cons, List.map_nil, show (48 + (m : Int) % 10).toNat = 48 + m % 10 by omega]
  rw [this, str_append]
  rfl
theorem up_step (N m : Nat) (l : List UInt8) (h : Lib.decDigits N = up m ++ l) (hm : m ≠ 0) : Lib.decDigits N = up (m / 10) ++ (UInt8.ofNat (48 + m % 10) :: l) := by
  rw [h]
  conv => lhs; rw [up, if_neg hm, dec_step m]
  rw [List.append_assoc]
  rfl

set_option maxHeartbeats 800000 in
set_option maxRecDepth 20000 in
theorem refNumber_any (n : Int) (w : World) (h0 : -9223372036854775808 ≤ n) (h1 : n ≤ 9223372036854775807) :
    Calls Tryz.prog 86 #[.int .i64 n] w fun e w' => e = .returned (.string ⟨(Lib.itoa n).toArray⟩) ∧ Below w.heap.size w w' := by
  by_cases hn : n < 0
  · have HI := hide (show Lib.itoa n = 45 :: Lib.decDigits n.natAbs by rw [Lib.itoa, if_pos hn])
    go_enter Tryz.func86, Tryz.ntmps86
    go_wp2
    have HN0 := hide (And.intro h0 hn)
    have HL : Hid ((Lib.decDigits n.natAbs).length ≤ 20) := hide (decDigits_len 19 _ (by have e : (10 : Nat) ^ (19 + 1) = 100000000000000000000 := (by decide); rw [e]; omega))
    clear h0 h1 hn
    go_loopw [0, 4] (fun v S wr => ∃ (m : Nat) (l : List UInt8), v = .int .i64 (-(m : Int)) ∧ S = .string ⟨l.toArray⟩ ∧ m ≤ 9223372036854775808 ∧ l.length ≤ 100 ∧ Hid (Lib.decDigits n.natAbs = up m ++ l) ∧ Below w.heap.size w wr) (fun v _ _ => (intOf v).natAbs)
    case atStart =>
      refine ⟨n.natAbs, [], ?_, rfl, ?_, by simp, hide ?_, Below.refl _ w⟩
      · have := HN0.out
        congr 1
        omega
      · have := HN0.out
        omega
      · have := HN0.out
        rw [up, if_neg (by omega), List.append_nil]
    case round =>
      obtain ⟨m, l, rfl, rfl, hm, hl, hd, hbel⟩ := hrel
      have hl8 : ((⟨l.toArray⟩ : ByteArray).size : Int) ≤ 8388608 := by show ((l.toArray.size : Nat) : Int) ≤ _; rw [List.size_toArray]; omega
      by_cases hz : m = 0
      · subst hz
        have HF := hide (show Lib.itoa n = 45 :: l by rw [HI.out, hd.out]; rfl)
        clear hd
        go_wp2
        go_ret
        rw [HF.out]
        exact ⟨congrArg (fun s => Ending.returned (Value.string s)) (str_append [45] l), hbel⟩
      · have hlt : -(m : Int) < 0 := by omega
        have htm : (-(m : Int)).tmod 10 = -((m % 10 : Nat) : Int) := by rw [Int.neg_tmod, Int.tmod_eq_emod_of_nonneg (by omega)]; rfl
        have htd : (-(m : Int)).tdiv 10 = -((m / 10 : Nat) : Int) := by rw [Int.neg_tdiv, Int.tdiv_eq_ediv_of_nonneg (by omega)]; rfl
        have hcv := conv1 wr (48 + (m : Int) % 10)
        have hT8 : ((strOfNums [48 + (m : Int) % 10]).size : Int) ≤ 8388608 := by rw [strOfNums_size]; simp
        have HB := hide (hbel.alloc hbel.size (.cells #[.int .u8 (48 + (m : Int) % 10)] 5))
        have HD := hide (up_step _ m l hd.out hz)
        have HLL : Hid ((UInt8.ofNat (48 + m % 10) :: l).length ≤ 100) := hide (by have h1 := HL.out; rw [HD.out, List.length_append] at h1; omega)
        clear hd
        go_wp2
        go_roundw
        case rel =>
          refine ⟨m / 10, _ :: l, ?_, ?_, by omega, HLL.out, HD, HB.out⟩
          · go_num
          · rw [str_one]
        case measure => simp [intOf]; omega
  · have HI := hide (show Lib.itoa n = Lib.decDigits n.toNat by rw [Lib.itoa, if_neg hn])
    go_enter Tryz.func86, Tryz.ntmps86
    go_wp2
    have HN0 := hide (And.intro h1 hn)
    have HL : Hid ((Lib.decDigits n.toNat).length ≤ 20) := hide (decDigits_len 19 _ (by have e : (10 : Nat) ^ (19 + 1) = 100000000000000000000 := (by decide); rw [e]; omega))
    clear h0 h1 hn
    go_loopw [0, 3] (fun v S wr => ∃ (m : Nat) (l : List UInt8), v = .int .i64 (m : Int) ∧ S = .string ⟨l.toArray⟩ ∧ m ≤ 9223372036854775807 ∧ l.length ≤ 100 ∧ Hid ((l = [] ∧ m = n.toNat) ∨ (l ≠ [] ∧ Lib.decDigits n.toNat = up m ++ l)) ∧ Below w.heap.size w wr) (fun v S _ => (intOf v).toNat + strE S)
    case atStart =>
      refine ⟨n.toNat, [], ?_, rfl, ?_, by simp, hide (Or.inl ⟨rfl, rfl⟩), Below.refl _ w⟩
      · have := HN0.out
        congr 1
        omega
      · have := HN0.out
        omega
    case round =>
      obtain ⟨m, l, rfl, rfl, hm, hl, hd, hbel⟩ := hrel
      have hl8 : ((⟨l.toArray⟩ : ByteArray).size : Int) ≤ 8388608 := by show ((l.toArray.size : Nat) : Int) ≤ _; rw [List.size_toArray]; omega
      have hsz : (⟨l.toArray⟩ : ByteArray).size = l.length := by show l.toArray.size = _; rw [List.size_toArray]
      by_cases hend : m = 0 ∧ l ≠ []
      · obtain ⟨rfl, hne⟩ := hend
        have HF := hide (show Lib.itoa n = l by
          rw [HI.out]
          rcases hd.out with ⟨h, _⟩ | ⟨_, h⟩
          · exact absurd h hne
          · rw [h]; rfl)
        have hee : l.isEmpty = false := by cases l with
          | nil => exact absurd rfl hne
          | cons a r => rfl
        clear hd hne hsz
        go_wp2
        go_ret
        rw [HF.out]
        exact ⟨rfl, hbel⟩
      · have HD : Hid (Lib.decDigits n.toNat = up (m / 10) ++ (UInt8.ofNat (48 + m % 10) :: l)) := by
          refine hide ?_
          rcases hd.out with ⟨h, h2⟩ | ⟨h, h2⟩
          · rw [h, ← h2]; exact dec_step m
          · exact up_step _ m l h2 (fun h3 => hend ⟨h3, h⟩)
        have HME : Hid (m / 10 < m + strE (.string ⟨l.toArray⟩)) := by
          refine hide ?_
          by_cases h0 : m = 0
          · have hl0 : l = [] := by
              cases l with
              | nil => rfl
              | cons a r => exact absurd ⟨h0, by simp⟩ hend
            rw [h0, hl0]
            decide
          · have : m / 10 < m := by omega
            omega
        have hcv := conv1 wr (48 + (m : Int) % 10)
        have hT8 : ((strOfNums [48 + (m : Int) % 10]).size : Int) ≤ 8388608 := by rw [strOfNums_size]; simp
        have HB := hide (hbel.alloc hbel.size (.cells #[.int .u8 (48 + (m : Int) % 10)] 5))
        have HLL : Hid ((UInt8.ofNat (48 + m % 10) :: l).length ≤ 100) := hide (by have h1 := HL.out; rw [HD.out, List.length_append] at h1; omega)
        have HEND := hide hend
        clear hd hend
        by_cases hm0 : m = 0
        · obtain rfl : l = [] := by
            cases l with
            | nil => rfl
            | cons a r => exact absurd ⟨hm0, by simp⟩ HEND.out
          subst hm0
          clear hsz hcv hT8 HB HLL HEND hl hl8
          have hcv := conv1 wr 48
          have hT8 : ((strOfNums [48]).size : Int) ≤ 8388608 := by rw [strOfNums_size]; simp
          have HB := hide (hbel.alloc hbel.size (.cells #[.int .u8 48] 5))
          go_wp2
          go_roundw
          case rel =>
            refine ⟨0, [48], ?_, ?_, by omega, by simp, hide (Or.inr ⟨by simp, HD.out⟩), HB.out⟩
            · go_num
            · rfl
          case measure =>
            show 0 + strE (.string (strOfNums [48] ++ ⟨#[]⟩)) < 0 + strE (.string ⟨#[]⟩)
            decide +kernel
        · have hgt : (0 : Int) < m := by omega
          clear hsz
          go_wp2
          go_roundw
          case rel =>
            refine ⟨m / 10, _ :: l, ?_, ?_, by omega, HLL.out, hide (Or.inr ⟨by simp, HD.out⟩), HB.out⟩
            · go_num
            · rw [str_one]
          case measure =>
            have h1 := HME.out
            have h2 : strE (.string ⟨(UInt8.ofNat (48 + m % 10) :: l).toArray⟩) = 0 := by simp [strE, ByteArray.size]
            rw [str_one, h2]
            show ((m : Int) / 10).toNat + 0 < (m : Int).toNat + _
            omega
end Go.Proofs.YtoihocbnhoniaaaGreatDoor.Wf
