/- Contract: the reference's Unhex. Contracts: Number, Line, Numbers, awake. Contract: word.Parse. Contracts: awake; the law of hex words. Contract: the reference's Parse. Contract: the reference's Number. -/
import Derived.Test.YtoihocbnhoniaaaGreatDoorQl4
import Derived.Deep.AppendLies
import Derived.Deep.RegionLaw
import Derived.Deep.RegionHeld3
import Derived.Lib.LaidTab
import Derived.Deep.RegionWith
import Derived.Test.YtoihocbnhoniaaaGreatDoorQl5
namespace Go.Proofs.YtoihocbnhoniaaaGreatDoor.Wf
open Go.RowKit
set_option linter.unusedVariables false
set_option linter.unusedSimpArgs false

theorem info5 : (Tryz.prog.info? 5).map (fun i => (i.zero, i.size, i.bytes)) = some (some (.int .u8 0), 1, 1) := by kernel_rfl
theorem info5_parts : ∃ i, Tryz.prog.info? 5 = some i ∧ i.zero = some (.int .u8 0) ∧ i.size = 1 ∧ i.bytes = 1 := by
  have h := info5
  cases hi : Tryz.prog.info? 5 with
  | none => rw [hi] at h; simp at h
  | some i =>
    rw [hi] at h
    simp only [Option.map_some, Option.some.injEq, Prod.mk.injEq] at h
    exact ⟨i, rfl, h.1, h.2.1, h.2.2⟩

theorem ownsRow_lit {w : World} {base k : Nat} {v : Value} {xs : List Value} (x : Value) (h : w.ownsRow base 5 1 v k xs) : ((w.alloc (.cells #[x] 5)).drew).ownsRow base 5 1 v k xs := by
  refine h.kept (row := none) ⟨rfl, rfl, rfl, by simp, fun i hi _ => Below.heap_alloc w _ i hi⟩ ?_
  cases v.ownBlock with
  | none => exact Or.inl rfl
  | some b => exact Or.inr (by simp)
theorem ownsRow_owned {w : World} {base k e : Nat} {v : Value} {xs : List Value} (h : w.ownsRow base e 1 v k xs) : ∀ b, v.ownBlock = some b → base ≤ b := by
  intro b hb
  rcases h.2 with ⟨rfl, _⟩ | ⟨g, cap, cur, rfl, hg, _⟩
  · simp [Value.ownBlock] at hb
  · simp only [Value.ownBlock, Option.some.injEq] at hb
    omega
theorem step_append_byte {ops : Array Oper} {o : Oper} {a : Act} {K : Act → World → Prop} {Q : Exit → Act → World → Prop} {E : Prop} {w : World} {base k : Nat} {v : Value} {xs : List Value} {b : Int}
    (hgd : o.guard = none) (s x : Operand) (ho : o.op = .call { callee := .builtin .append, args := #[s, x], argTypes := #[91, 91] })
    (hs : a.eval s = v) (hx : a.eval x = .slice (some ⟨w.heap.size, 0, none⟩) 1 1) (hown : w.ownsRow base 5 1 v k xs) (hk : k ≤ 1000000) (hbase : base ≤ w.heap.size)
    (h : ∀ v' w', w'.ownsRow base 5 1 v' (k + 1) (xs ++ [.int .u8 b]) → Below base w w' → K (a.put o.dst v') w') :
    if Region.wanted o (yielded ops a.tmps) = true then Oper.wp Tryz.prog o a (w.alloc (.cells #[.int .u8 b] 5)).drew K Q else E := by
  obtain ⟨i0, hi, hz0, hz1, hz2⟩ := info5_parts
  refine step_append_lies (w := (w.alloc (.cells #[.int .u8 b] 5)).drew) hgd s x 91 ho base 5 i0 (.int .u8 0) 1 1 Tryz.underlying91 hi hz0 hz1 hz2 rfl (by omega) v k xs hs (ownsRow_lit _ hown) ⟨w.heap.size, 0, none⟩ 1 1 [.int .u8 b] hx rfl ?_ ?_ (by omega) ?_ (by omega) ?_ (w.heap.size + 1) ?_ ?_
  · exact World.news_of_block (cs := #[.int .u8 b]) (heap_alloc_new w _)
  · intro u hu
    simp only [List.mem_cons, List.not_mem_nil, or_false] at hu
    subst hu
    rfl
  · have : maxLen = 9223372036854775807 := rfl
    omega
  · simp; omega
  · simp
  · intro g cap w1 hown1 hgrow hat hlt
    refine h _ w1 hown1 ?_
    exact (((Below.refl base w).alloc hbase _).drew).grown hgrow (by simp; omega) (ownsRow_owned hown)
theorem wrap_nib (p q : Nat) (hp : p < 16) (hq : q < 16) : IntKind.u8.wrap (IntKind.i64.wrap (IntKind.i64.wrap (16 * (p : Int)) + q)) = ((16 * p + q).toUInt8.toNat : Int) := by
  have all : ∀ p q : Fin 16, IntKind.u8.wrap (IntKind.i64.wrap (IntKind.i64.wrap (16 * (p.val : Int)) + q.val)) = ((16 * p.val + q.val).toUInt8.toNat : Int) := by decide +kernel
  exact all ⟨p, hp⟩ ⟨q, hq⟩
theorem byteCells_ints (l : List UInt8) : Lib.byteCells l = (l.map (fun c => (c.toNat : Int))).map (Value.int .u8) := by simp [Lib.byteCells]
theorem str_ints (l : List UInt8) : strOfNums (l.map (fun c => (c.toNat : Int))) = ⟨l.toArray⟩ := by
  rw [strOfNums]
  congr 2
  rw [List.map_map]
  conv => rhs; rw [← List.map_id l]
  refine List.map_congr_left fun c _ => ?_
  simp
theorem conv_nil (w : World) : (convert 91 9 (.slice none 0 0)).run Tryz.prog w = .ok (.string ⟨#[]⟩) w := by
  rw [run_convert_bytes_string w 91 9 5 none 0 0 Tryz.underlying91 Tryz.underlying5 Tryz.underlying9]
  simp [Conv.bytesToString]
  rfl
theorem digit_at (c : UInt8) (w : World) (p : Nat) (h : dv c = p) :
    Calls Tryz.prog 125 #[.int .u8 c.toNat] w fun e w' => e = .returned (.int .i64 p) ∧ w' = w := by rw [← h]; exact digit_any c w
theorem dv_at {s : ByteArray} {j j' p : Nat} (h : j < s.size) (e : j' = j) (hp : dv s[j] = p) (h' : j' < s.size) : dv s[j'] = p := by subst e; exact hp

set_option maxRecDepth 20000 in
set_option maxHeartbeats 1600000 in
theorem refUnhex_any (s : ByteArray) (w : World) (hs : s.size ≤ 1000000) :
    Calls Tryz.prog 94 #[.string s] w fun e w' => e = .returned (.tuple #[.string (unhexS s).1, .bool (unhexS s).2]) ∧ Below w.heap.size w w' := by
  by_cases hd : s.toList = [45]
  · have HU := hide (show unhexS s = (⟨#[]⟩, true) by rw [unhexS, if_pos hd])
    have hd' : (s.toList == [45]) = true := by rw [hd]; rfl
    clear hd
    go_enter Tryz.func94, Tryz.ntmps94
    go_wp2
    go_ret2
    rw [HU.out]
    exact ⟨rfl, Below.refl _ _⟩
  have hd' : (s.toList == [45]) = false := by rw [Bool.eq_false_iff]; intro h; exact hd (by simpa using h)
  go_enter Tryz.func94, Tryz.ntmps94
  go_wp2
  obtain ⟨i0, hi, hz0, hz1, hz2⟩ := info5_parts
  go_loopw [4, 5] (fun b i wr => ∃ (k : Nat), 2 * k ≤ s.size ∧ i = .int .i64 (2 * k) ∧ wr.ownsRow w.heap.size 5 1 b k (Lib.byteCells (outs s.data.toList k)) ∧ Hid (∀ i, i < k → okAt s.data.toList i) ∧ Below w.heap.size w wr) (fun _ i _ => s.size - (intOf i).toNat)
  case atStart =>
    exact ⟨0, Nat.zero_le _, rfl, World.ownsRow_nil _ _ _ _, hide (fun i hi => absurd hi (Nat.not_lt_zero _)), Below.refl _ w⟩
  case round =>
    obtain ⟨k, hk, rfl, hown, hall, hbel⟩ := hrel
    have HOWN := hide hown
    clear hown
    have HI := hide (And.intro hi (And.intro hz0 (And.intro hz1 hz2)))
    clear hi hz0 hz1 hz2
    by_cases hlt : 2 * k < s.size
    · by_cases h1 : 2 * k + 1 < s.size
      case neg =>
        have HF := hide (show unhexS s = (⟨#[]⟩, false) by rw [unhexS, if_neg hd, if_pos (Or.inr (by omega))])
        clear hd
        go_wp2
        go_ret2
        rw [HF.out]
        exact ⟨rfl, hbel⟩
      have HA := hide (at0_eq s (2 * k) hlt)
      have HA1 := hide (at0_eq s (2 * k + 1) h1)
      have HN := hide (show ¬ okAt s.data.toList k → unhexS s = (⟨#[]⟩, false) by
        intro h
        rw [unhexS, if_neg hd]
        split
        · rfl
        · rw [if_neg (fun h' => h (h' k (by omega)))])
      clear hd
      obtain ⟨p, hp⟩ : ∃ p, dv s[2 * k] = p := ⟨_, rfl⟩
      obtain ⟨q, hq⟩ : ∃ q, dv s[2 * k + 1] = q := ⟨_, rfl⟩
      have HP := hide hp
      have HQ := hide hq
      have cP : ∀ w, Calls Tryz.prog 125 #[.int .u8 s[2 * k].toNat] w fun e w' => e = .returned (.int .i64 p) ∧ w' = w := by
        intro w; rw [← hp]; exact digit_any _ w
      have cQ : ∀ w, Calls Tryz.prog 125 #[.int .u8 s[2 * k + 1].toNat] w fun e w' => e = .returned (.int .i64 q) ∧ w' = w := by
        intro w; rw [← hq]; exact digit_any _ w
      have CP := hide cP
      have CQ := hide cQ
      clear cP cQ hp hq
      by_cases h15 : (p : Int) > 15
      · have HF := hide (HN.out (fun h => by have := h.1; rw [HA.out, HP.out] at this; omega))
        go_wp2_with (first | (go_at_call 125; refine (CP.out _).mono ?_; rintro e w1 ⟨rfl, rfl⟩) | fail)
        go_ret2
        rw [HF.out]
        exact ⟨rfl, hbel⟩
      by_cases h16 : (q : Int) > 15
      · have HF := hide (HN.out (fun h => by have := h.2; rw [HA1.out, HQ.out] at this; omega))
        go_wp2_with (first | (go_at_call 125; (first | (with_reducible refine (CP.out _).mono ?_) | (with_reducible refine (CQ.out _).mono ?_)); rintro e w1 ⟨rfl, rfl⟩) | fail)
        go_ret2
        rw [HF.out]
        exact ⟨rfl, hbel⟩
      go_wp2_with (first | (go_at_call 125; (first | (with_reducible refine (CP.out _).mono ?_) | (with_reducible refine (CQ.out _).mono ?_)); rintro e w1 ⟨rfl, rfl⟩) | fail)
      have HT : True := trivial
      have hb0 : 0 ≤ 2 * (k : Int) := by omega
      have hb1 : 2 * (k : Int) < s.size := by omega
      have hb2 : 0 ≤ 2 * (k : Int) + 1 := by omega
      have hb3 : 2 * (k : Int) + 1 < s.size := by omega
      have hwr : IntKind.i64.wrap (2 * (k : Int) + 1) = 2 * k + 1 := IntWalk.i64_in _ (by omega)
      go_region_held3 (fun W => True) (exact trivial) (first | (go_at_call 125; first | (refine (digit_at _ _ p ?_).mono ?_; exact dv_at hlt (by omega) HP.out _; rintro e w1 ⟨rfl, rfl⟩) | (refine (digit_at _ _ q ?_).mono ?_; exact dv_at h1 (by omega) HQ.out _; rintro e w1 ⟨rfl, rfl⟩)) | (refine step_append_byte (by rfl) _ _ (by rfl) (by rfl) (by rfl) HOWN.out (by omega) hbel.size ?_; intro v' w2 ho hb; have HO2 := hide ho; have HB2 := hide hb; clear ho hb))
      all_goals (
        go_wp2
        go_roundw
        case rel =>
          refine ⟨k + 1, by omega, by go_num, ?_, ?_, hbel.trans HB2.out⟩
          · have h2 := HO2.out
            rw [wrap_nib p q (by omega) (by omega)] at h2
            rw [outs_succ, byteCells_append, outAt, HA.out, HA1.out, HP.out, HQ.out]
            exact h2
          · refine hide fun i hi => ?_
            by_cases hik : i = k
            · subst hik
              exact ⟨by rw [HA.out, HP.out]; omega, by rw [HA1.out, HQ.out]; omega⟩
            · exact hall.out i (by omega)
        case measure => simp [intOf]; omega)
    · have hks : 2 * k = s.size := by omega
      have HK : Hid (unhexS s = (⟨(outs s.data.toList k).toArray⟩, decide (0 < k))) := by
        refine hide ?_
        rw [unhexS, if_neg hd]
        by_cases h0 : k = 0
        · subst h0
          rw [if_pos (Or.inl (by omega))]
          rfl
        · rw [if_neg (by omega), if_pos (by rw [show s.size / 2 = k by omega]; exact hall.out), show s.size / 2 = k by omega]
          simp
          omega
      have hO := HOWN.out
      rw [byteCells_ints] at hO
      obtain ⟨ao, cap, hv, hO2⟩ := Own.ofRow hO
      have HO := hide hO2
      have hge : (s.size : Int) ≤ 2 * (k : Int) := by omega
      clear hO2 hO HOWN hks hd hk hlt
      subst hv
      rcases HO.out.2 with ⟨rfl, rfl, rfl⟩ | ⟨g, cur, rfl, _, hg, _, _, ht⟩
      · have hs0 : s.size = 0 := by omega
        have hs1 : ¬ 0 < s.size := by omega
        clear hge
        have hcv := conv_nil wr
        go_wp2
        go_ret2
        rw [HK.out]
        exact ⟨rfl, hbel⟩
      · have hcv := run_convert_bytes_arg (P := Tryz.prog) wr 91 5 Tryz.underlying91 Tryz.underlying5 g 0 k cap _ HO.out.1 (by intro i hi; rw [Nat.zero_add]; exact row_cell hg HO.out.1 ht i hi) 9 Tryz.underlying9
        rw [str_ints] at hcv
        clear ht hg
        go_wp2
        go_ret2
        rw [HK.out]
        exact ⟨rfl, hbel⟩
end Go.Proofs.YtoihocbnhoniaaaGreatDoor.Wf

namespace Go.Proofs.YtoihocbnhoniaaaGreatDoor.Wf
open Go.RowKit
set_option linter.unusedVariables false
set_option linter.unusedSimpArgs false

/-- The table of tens lies in the world. -/
def Tens (w : World) : Prop := Lib.TabIs Tryz.prog w "internal/strconv.uint64pow10" .u64 Lib.pow10Tab
theorem below_grow (w : World) (k : Nat) (os : Array Obj) : Below w.heap.size w (Go.Sort.grow (w.drewN k) os) := by
  refine ⟨rfl, rfl, rfl, ?_, ?_⟩
  · show w.heap.size ≤ (w.heap ++ os).size
    rw [Array.size_append]; omega
  · intro i hi
    show (w.heap ++ os)[i]? = w.heap[i]?
    exact Array.getElem?_append_left hi

def numS (n : Int) : ByteArray := ⟨(Lib.itoa n).toArray⟩
theorem number_any (n : Int) (h0 : -9223372036854775808 ≤ n) (h1 : n ≤ 9223372036854775807) (w : World) (ht : Tens w) :
    Calls Tryz.prog 203 #[.int .i64 n] w fun e w' => e = .returned (.string (numS n)) ∧ Below w.heap.size w w' := by
  have HT := hide ht
  clear ht
  go_enter Tryz.func203, Tryz.ntmps203
  go_wp2_with fail
  refine (Tryz.strconv_Itoa n h0 h1 w HT.out).mono ?_
  rintro e w1 ⟨rfl, k, os, hw1⟩
  have hb : Below w.heap.size w w1 := by rw [hw1]; exact below_grow w k os
  clear hw1
  go_wp2
  go_ret
  exact ⟨rfl, hb⟩

/-- A slice of texts, read. -/
def ReadsS (w : World) (ao : Option Addr) (n : Nat) (ss : List ByteArray) : Prop :=
  ss.length = n ∧ (n = 0 ∨ ∃ b off, ao = some ⟨b, off, none⟩ ∧ ∀ i, i < n → w.cell? ⟨b, off + i, none⟩ = some (.string (ss.getD i ⟨#[]⟩)))
theorem ReadsS.at {w : World} {ao : Option Addr} {n : Nat} {ss : List ByteArray} (h : ReadsS w ao n ss) {i : Nat} (hi : i < n) :
    ∃ b off, ao = some ⟨b, off, none⟩ ∧ ∀ i, i < n → w.cell? ⟨b, off + i, none⟩ = some (.string (ss.getD i ⟨#[]⟩)) := by
  rcases h.2 with h0 | h1
  · omega
  · exact h1
theorem tens_below {w w' : World} (h : Tens w) (hb : Below w.heap.size w w') : Tens w' := by
  unfold Tens Lib.TabIs World.var? at h ⊢
  cases hg : Tryz.prog.globalNamed "internal/strconv.uint64pow10" with
  | none => rw [hg] at h; cases h
  | some g =>
    rw [hg] at h
    simp only [Option.bind_some] at h ⊢
    have hlt : g < w.heap.size := by
      rcases Nat.lt_or_ge g w.heap.size with h' | h'
      · exact h'
      · rw [Array.getElem?_eq_none h'] at h; cases h
    rw [hb.block g hlt]
    exact h

theorem decDigits_len (k : Nat) : ∀ u, u < 10 ^ (k + 1) → (Lib.decDigits u).length ≤ k + 1 := by
  induction k with
  | zero =>
    intro u hu
    rw [Lib.decDigits, dif_pos (by simpa using hu)]
    simp
  | succ k ih =>
    intro u hu
    rw [Lib.decDigits]
    split
    · simp
    · rw [List.length_append]
      have := ih (u / 10) (by rw [Nat.pow_succ] at hu; omega)
      simp only [List.length_cons, List.length_nil]
      omega
end Go.Proofs.YtoihocbnhoniaaaGreatDoor.Wf

namespace Go.Proofs.YtoihocbnhoniaaaGreatDoor.Wf
open Go.RowKit
set_option linter.unusedVariables false
set_option linter.unusedSimpArgs false

/-- The package's two errors lie in the world, whatever they are. -/
def Errs (w : World) : Prop := (∃ ev, w.cell? ⟨4, 0, none⟩ = some ev ∧ (ev = .nilIface ∨ ∃ te pe, ev = .iface te pe)) ∧ ∃ ev, w.cell? ⟨5, 0, none⟩ = some ev ∧ (ev = .nilIface ∨ ∃ te pe, ev = .iface te pe)
theorem errs_below {w w' : World} (h : Errs w) (hb : Below w.heap.size w w') : Errs w' := by
  obtain ⟨⟨e0, h0, k0⟩, e1, h1, k1⟩ := h
  exact ⟨⟨e0, (bcell hb (World.block_lt_of_cell? w _ h0)).trans h0, k0⟩, e1, (bcell hb (World.block_lt_of_cell? w _ h1)).trans h1, k1⟩
theorem below_bytes (w : World) (t : ByteArray) : Below w.heap.size w (Lib.bytesWorld w 5 t) := by
  refine ⟨rfl, rfl, rfl, by rw [Lib.bytesWorld_size]; omega, fun k hk => Lib.bytesWorld_at_old w _ t k hk⟩

set_option maxHeartbeats 1600000 in
set_option maxRecDepth 20000 in
theorem parse_any (s : ByteArray) (most : Int) (w : World) (hs : s.size ≤ 1000000) (ht : Tens w) (he : Errs w) :
    Calls Tryz.prog 181 #[.string s, .int .i64 most] w fun e w' => e = .returned (.tuple #[.int .i64 (parseS s.data.toList most).1, .bool (parseS s.data.toList most).2]) ∧ Below w.heap.size w w' := by
  have HT := hide ht
  have HE := hide he
  clear ht he
  cases ha : Lib.atoiAll s.data.toList with
  | ok n =>
    have hbd := Lib.atoiAll_bounds ha
    have HC := hide (fun w => Tryz.strconv_Atoi_ok s (by omega) n ha w)
    have HP : Hid (parseS s.data.toList most = if 0 ≤ n ∧ n ≤ most ∧ Lib.itoa n = s.data.toList then (n, true) else (0, false)) := hide (by unfold parseS; rw [ha])
    clear ha
    by_cases h1 : n < 0
    · have HF := hide (show parseS s.data.toList most = (0, false) by rw [HP.out, if_neg (by omega)])
      go_enter Tryz.func181, Tryz.ntmps181
      go_wp2_with fail
      refine (HC.out w).mono ?_
      rintro e w1 ⟨rfl, hw1⟩
      have HB : Hid (Below w.heap.size w w1) := by
        rcases hw1 with rfl | ⟨t, rfl⟩
        · exact hide (Below.refl _ _)
        · exact hide (below_bytes _ _)
      clear hw1
      go_wp2
      go_ret2
      rw [HF.out]
      exact ⟨rfl, HB.out⟩
    by_cases h2 : most < n
    · have HF := hide (show parseS s.data.toList most = (0, false) by rw [HP.out, if_neg (by omega)])
      go_enter Tryz.func181, Tryz.ntmps181
      go_wp2_with fail
      refine (HC.out w).mono ?_
      rintro e w1 ⟨rfl, hw1⟩
      have HB : Hid (Below w.heap.size w w1) := by
        rcases hw1 with rfl | ⟨t, rfl⟩
        · exact hide (Below.refl _ _)
        · exact hide (below_bytes _ _)
      clear hw1
      go_wp2
      go_ret2
      rw [HF.out]
      exact ⟨rfl, HB.out⟩
    have hnum : (numS n).toList = Lib.itoa n := by rw [ByteArray.toList_eq]; rfl
    have hst : s.toList = s.data.toList := ByteArray.toList_eq ..
    by_cases h3 : Lib.itoa n = s.data.toList
    · have HF := hide (show parseS s.data.toList most = (n, true) by rw [HP.out, if_pos ⟨by omega, by omega, h3⟩])
      have hq : ((numS n).toList == s.toList) = true := by rw [hnum, hst, h3]; simp
      clear hnum hst h3
      go_enter Tryz.func181, Tryz.ntmps181
      go_wp2_with fail
      refine (HC.out w).mono ?_
      rintro e w1 ⟨rfl, hw1⟩
      have HB : Hid (Below w.heap.size w w1) := by
        rcases hw1 with rfl | ⟨t, rfl⟩
        · exact hide (Below.refl _ _)
        · exact hide (below_bytes _ _)
      clear hw1
      go_wp2_with fail
      refine (number_any n hbd.1 hbd.2 w1 (tens_below HT.out HB.out)).mono ?_
      rintro e w2 ⟨rfl, hb2⟩
      go_wp2
      go_ret2
      rw [HF.out]
      exact ⟨rfl, HB.out.trans (hb2.mono HB.out.size)⟩
    · have HF := hide (show parseS s.data.toList most = (0, false) by rw [HP.out, if_neg (fun h => h3 h.2.2)])
      have hq : ((numS n).toList == s.toList) = false := by rw [hnum, hst, Bool.eq_false_iff]; intro h; exact h3 (by simpa using h)
      clear hnum hst h3
      go_enter Tryz.func181, Tryz.ntmps181
      go_wp2_with fail
      refine (HC.out w).mono ?_
      rintro e w1 ⟨rfl, hw1⟩
      have HB : Hid (Below w.heap.size w w1) := by
        rcases hw1 with rfl | ⟨t, rfl⟩
        · exact hide (Below.refl _ _)
        · exact hide (below_bytes _ _)
      clear hw1
      go_wp2_with fail
      refine (number_any n hbd.1 hbd.2 w1 (tens_below HT.out HB.out)).mono ?_
      rintro e w2 ⟨rfl, hb2⟩
      go_wp2
      go_ret2
      rw [HF.out]
      exact ⟨rfl, HB.out.trans (hb2.mono HB.out.size)⟩
  | «syntax» =>
    have HF : Hid (parseS s.data.toList most = (0, false)) := hide (by unfold parseS; rw [ha])
    obtain ⟨⟨ev, h0, k0⟩, _⟩ := HE.out
    have HC := hide (Tryz.strconv_Atoi_syntax s (by omega) ha ev w h0 k0)
    clear ha h0 k0
    go_enter Tryz.func181, Tryz.ntmps181
    go_wp2_with fail
    refine HC.out.mono ?_
    rintro e w1 ⟨N, rfl, _, _, hb1⟩
    go_wp2
    go_ret2
    rw [HF.out]
    exact ⟨rfl, hb1⟩
  | range =>
    have HF : Hid (parseS s.data.toList most = (0, false)) := hide (by unfold parseS; rw [ha])
    obtain ⟨_, ev, h0, k0⟩ := HE.out
    have HC := hide (Tryz.strconv_Atoi_range s (by omega) ha ev w h0 k0)
    clear ha h0 k0
    go_enter Tryz.func181, Tryz.ntmps181
    go_wp2_with fail
    refine HC.out.mono ?_
    rintro e w1 ⟨N, rfl, _, _, hb1⟩
    go_wp2
    go_ret2
    rw [HF.out]
    exact ⟨rfl, hb1⟩
end Go.Proofs.YtoihocbnhoniaaaGreatDoor.Wf

namespace Go.Proofs.YtoihocbnhoniaaaGreatDoor.Wf
open Go.RowKit
set_option linter.unusedVariables false
set_option linter.unusedSimpArgs false

theorem unhexS_size (s : ByteArray) : (unhexS s).1.size ≤ s.size := by
  unfold unhexS
  split
  · exact Nat.zero_le _
  · split
    · exact Nat.zero_le _
    · split
      · show (outs s.data.toList (s.size / 2)).toArray.size ≤ _
        rw [List.size_toArray, outs_length]
        omega
      · exact Nat.zero_le _
end Go.Proofs.YtoihocbnhoniaaaGreatDoor.Wf

namespace Go.Proofs.YtoihocbnhoniaaaGreatDoor.Wf
open Go.RowKit
set_option linter.unusedVariables false
set_option linter.unusedSimpArgs false

theorem val_take (s : ByteArray) (k : Nat) (h : k < s.size) : val (s.data.toList.take (k + 1)) = val (s.data.toList.take k) * 10 + (s[k].toNat - 48) := by
  have h' : k < s.data.toList.length := by rw [Array.length_toList]; exact h
  rw [List.take_succ_eq_append_getElem h', val_snoc]
  rfl
theorem val_mono (l : List UInt8) (k : Nat) : val (l.take k) ≤ val l := by
  conv => rhs; rw [← List.take_append_drop k l]
  rw [val, val, valA, valA, List.foldl_append]
  exact valA_ge _ _
theorem head_eq (s : ByteArray) (h : 0 < s.size) : s.data.toList.getD 0 0 = s[0] := by
  have h' : 0 < s.data.toList.length := by rw [Array.length_toList]; exact h
  rw [List.getD_eq_getElem?_getD, List.getElem?_eq_getElem h']
  rfl
theorem mem_at (s : ByteArray) (k : Nat) (h : k < s.size) : s[k] ∈ s.data.toList := by
  have h' : k < s.data.toList.length := by rw [Array.length_toList]; exact h
  have := List.getElem_mem h'
  exact this
theorem good_len (l : List UInt8) (most : Int) (h : Good l most) : l.length ≤ 19 := by
  obtain ⟨hne, hd, h0, hv, _⟩ := h
  have := dec_of_val _ l rfl hne hd h0
  rw [← this]
  have e : (10 : Nat) ^ (18 + 1) = 10000000000000000000 := by decide
  exact decDigits_len 18 _ (by rw [e]; omega)

set_option maxHeartbeats 1600000 in
set_option maxRecDepth 20000 in
theorem refParse_any (s : ByteArray) (most : Int) (w : World) (hs : s.size ≤ 1000000) :
    Calls Tryz.prog 93 #[.string s, .int .i64 most] w fun e w' => e = .returned (.tuple #[.int .i64 (parseS s.data.toList most).1, .bool (parseS s.data.toList most).2]) ∧ Below w.heap.size w w' := by
  have hlen : s.data.toList.length = s.size := Array.length_toList
  have HL := hide hlen
  clear hlen
  have HBAD := hide (parseS_bad s.data.toList most)
  by_cases h0 : s.size = 0
  · have HF := hide (HBAD.out (fun h => h.1 (List.eq_nil_of_length_eq_zero (by rw [HL.out, h0]))))
    go_enter Tryz.func93, Tryz.ntmps93
    go_wp2
    go_ret2
    rw [HF.out]
    exact ⟨rfl, Below.refl _ _⟩
  by_cases h19 : 19 < s.size
  · have HF := hide (HBAD.out (fun h => by have := good_len _ _ h; rw [HL.out] at this; omega))
    go_enter Tryz.func93, Tryz.ntmps93
    go_wp2
    go_ret2
    rw [HF.out]
    exact ⟨rfl, Below.refl _ _⟩
  have hpos : 0 < s.size := by omega
  by_cases hz : 1 < s.size ∧ (s[0].toNat : Int) = 48
  · have HF := hide (HBAD.out (fun h => h.2.2.1 (by rw [HL.out]; exact hz.1) (by rw [head_eq s hpos]; exact UInt8.toNat_inj.1 (by have := hz.2; have e : (48 : UInt8).toNat = 48 := rfl; omega))))
    obtain ⟨hz1, hz2⟩ := hz
    go_enter Tryz.func93, Tryz.ntmps93
    go_wp2
    go_ret2
    rw [HF.out]
    exact ⟨rfl, Below.refl _ _⟩
  have HZ := hide hz
  clear hz
  have HNE : Hid (s.data.toList ≠ []) := hide (fun h => by have := HL.out; rw [h] at this; simp at this; omega)
  have HHD : Hid (1 < s.data.toList.length → s.data.toList.getD 0 0 ≠ 48) := by
    refine hide fun hl h => HZ.out ⟨by rw [← HL.out]; exact hl, ?_⟩
    rw [head_eq s hpos] at h
    rw [h]
    rfl
  have hn0 : ((s.size : Int) == 0) = false := by rw [beq_eq_false_iff_ne]; omega
  have hn19 : ¬ (19 : Int) < s.size := by omega
  by_cases h1 : s.size = 1
  · have hn1 : ¬ (1 : Int) < s.size := by omega
    clear h0 h1 h19
    go_enter Tryz.func93, Tryz.ntmps93
    go_wp2
    clear hn0 hn19 hn1
    go_loopw [6, 7] (fun v i wr => ∃ k : Nat, k ≤ s.size ∧ i = .int .i64 k ∧ v = .int .i64 (val (s.data.toList.take k) : Int) ∧ val (s.data.toList.take k) ≤ 9223372036854775807 ∧ Hid (∀ c ∈ s.data.toList.take k, IsD c) ∧ wr = w) (fun _ i _ => s.size - (intOf i).toNat)
    case atStart =>
      exact ⟨0, Nat.zero_le _, rfl, rfl, Nat.zero_le _, hide (fun c hc => by simp at hc), rfl⟩
    case round =>
      obtain ⟨k, hk, rfl, rfl, hv, hall, rfl⟩ := hrel
      obtain ⟨V, hV⟩ : ∃ V, V = val (s.data.toList.take k) := ⟨_, rfl⟩
      rw [← hV] at hv
      rw [← hV]
      have HV := hide hV
      clear hV
      by_cases hlt : k < s.size
      · have hc := s[k].toNat_lt
        have HM := hide (mem_at s k hlt)
        have HT := hide (val_take s k hlt)
        have HMN := hide (val_mono s.data.toList (k + 1))
        by_cases hc1 : (s[k].toNat : Int) < 48
        · have HF := hide (HBAD.out (fun h => by have := h.2.1 _ HM.out; unfold IsD at this; omega))
          go_wp2
          go_ret2
          rw [HF.out]
          exact ⟨rfl, Below.refl _ _⟩
        by_cases hc2 : 57 < (s[k].toNat : Int)
        · have HF := hide (HBAD.out (fun h => by have := h.2.1 _ HM.out; unfold IsD at this; omega))
          go_wp2
          go_ret2
          rw [HF.out]
          exact ⟨rfl, Below.refl _ _⟩
        by_cases hc3 : (9223372036854775807 - ((s[k].toNat : Int) - 48)) / 10 < (V : Int)
        · have HF := hide (HBAD.out (fun h => by have h1 := h.2.2.2.1; have h2 := HMN.out; rw [HT.out, ← HV.out] at h2; omega))
          go_wp2
          go_ret2
          rw [HF.out]
          exact ⟨rfl, Below.refl _ _⟩
        have HNV : Hid ((val (s.data.toList.take (k + 1)) : Int) = 10 * (V : Int) + ((s[k].toNat : Int) - 48)) := hide (by rw [HT.out, ← HV.out]; omega)
        have HNB : Hid (val (s.data.toList.take (k + 1)) ≤ 9223372036854775807) := hide (by rw [HT.out, ← HV.out]; omega)
        have HALL : Hid (∀ c ∈ s.data.toList.take (k + 1), IsD c) := by
          refine hide ?_
          have h' : k < s.data.toList.length := by rw [HL.out]; exact hlt
          rw [List.take_succ_eq_append_getElem h']
          intro c hcm
          rw [List.mem_append] at hcm
          rcases hcm with hcm | hcm
          · exact hall.out c hcm
          · simp only [List.mem_cons, List.not_mem_nil, or_false] at hcm
            subst hcm
            show 48 ≤ s[k].toNat ∧ s[k].toNat ≤ 57
            omega
        clear hall
        go_wp2
        go_roundw
        case rel =>
          refine ⟨k + 1, by omega, by go_num, ?_, HNB.out, HALL, trivial⟩
          rw [HNV.out]
        case measure => simp [intOf]; omega
      · have hks : k = s.size := by omega
        have HE := hide (show s.data.toList.take k = s.data.toList from List.take_of_length_le (by rw [HL.out]; omega))
        have HVV := hide (show V = val s.data.toList by rw [HV.out, HE.out])
        by_cases hm : most < (V : Int)
        · have HF := hide (HBAD.out (fun h => by have h1 := h.2.2.2.2; rw [← HVV.out] at h1; omega))
          clear hks
          go_wp2
          go_ret2
          rw [HF.out]
          exact ⟨rfl, Below.refl _ _⟩
        · have HF := hide (parseS_good s.data.toList most ⟨HNE.out, by have := hall.out; rw [HE.out] at this; exact this, HHD.out, by rw [← HVV.out]; exact hv, by rw [← HVV.out]; omega⟩)
          clear hks
          go_wp2
          go_ret2
          rw [HF.out, ← HVV.out]
          exact ⟨rfl, Below.refl _ _⟩
  · have hn1 : (1 : Int) < s.size := by omega
    have hz2 : ¬ (s[0].toNat : Int) = 48 := fun h => HZ.out ⟨by omega, h⟩
    have hz3 : ((s[0].toNat : Int) == 48) = false := by simpa using hz2
    clear h0 h1 h19
    go_enter Tryz.func93, Tryz.ntmps93
    go_wp2
    clear hn0 hn19 hn1 hz2 hz3
    go_loopw [6, 7] (fun v i wr => ∃ k : Nat, k ≤ s.size ∧ i = .int .i64 k ∧ v = .int .i64 (val (s.data.toList.take k) : Int) ∧ val (s.data.toList.take k) ≤ 9223372036854775807 ∧ Hid (∀ c ∈ s.data.toList.take k, IsD c) ∧ wr = w) (fun _ i _ => s.size - (intOf i).toNat)
    case atStart =>
      exact ⟨0, Nat.zero_le _, rfl, rfl, Nat.zero_le _, hide (fun c hc => by simp at hc), rfl⟩
    case round =>
      obtain ⟨k, hk, rfl, rfl, hv, hall, rfl⟩ := hrel
      obtain ⟨V, hV⟩ : ∃ V, V = val (s.data.toList.take k) := ⟨_, rfl⟩
      rw [← hV] at hv
      rw [← hV]
      have HV := hide hV
      clear hV
      by_cases hlt : k < s.size
      · have hc := s[k].toNat_lt
        have HM := hide (mem_at s k hlt)
        have HT := hide (val_take s k hlt)
        have HMN := hide (val_mono s.data.toList (k + 1))
        by_cases hc1 : (s[k].toNat : Int) < 48
        · have HF := hide (HBAD.out (fun h => by have := h.2.1 _ HM.out; unfold IsD at this; omega))
          go_wp2
          go_ret2
          rw [HF.out]
          exact ⟨rfl, Below.refl _ _⟩
        by_cases hc2 : 57 < (s[k].toNat : Int)
        · have HF := hide (HBAD.out (fun h => by have := h.2.1 _ HM.out; unfold IsD at this; omega))
          go_wp2
          go_ret2
          rw [HF.out]
          exact ⟨rfl, Below.refl _ _⟩
        by_cases hc3 : (9223372036854775807 - ((s[k].toNat : Int) - 48)) / 10 < (V : Int)
        · have HF := hide (HBAD.out (fun h => by have h1 := h.2.2.2.1; have h2 := HMN.out; rw [HT.out, ← HV.out] at h2; omega))
          go_wp2
          go_ret2
          rw [HF.out]
          exact ⟨rfl, Below.refl _ _⟩
        have HNV : Hid ((val (s.data.toList.take (k + 1)) : Int) = 10 * (V : Int) + ((s[k].toNat : Int) - 48)) := hide (by rw [HT.out, ← HV.out]; omega)
        have HNB : Hid (val (s.data.toList.take (k + 1)) ≤ 9223372036854775807) := hide (by rw [HT.out, ← HV.out]; omega)
        have HALL : Hid (∀ c ∈ s.data.toList.take (k + 1), IsD c) := by
          refine hide ?_
          have h' : k < s.data.toList.length := by rw [HL.out]; exact hlt
          rw [List.take_succ_eq_append_getElem h']
          intro c hcm
          rw [List.mem_append] at hcm
          rcases hcm with hcm | hcm
          · exact hall.out c hcm
          · simp only [List.mem_cons, List.not_mem_nil, or_false] at hcm
            subst hcm
            show 48 ≤ s[k].toNat ∧ s[k].toNat ≤ 57
            omega
        clear hall
        go_wp2
        go_roundw
        case rel =>
          refine ⟨k + 1, by omega, by go_num, ?_, HNB.out, HALL, trivial⟩
          rw [HNV.out]
        case measure => simp [intOf]; omega
      · have hks : k = s.size := by omega
        have HE := hide (show s.data.toList.take k = s.data.toList from List.take_of_length_le (by rw [HL.out]; omega))
        have HVV := hide (show V = val s.data.toList by rw [HV.out, HE.out])
        by_cases hm : most < (V : Int)
        · have HF := hide (HBAD.out (fun h => by have h1 := h.2.2.2.2; rw [← HVV.out] at h1; omega))
          clear hks
          go_wp2
          go_ret2
          rw [HF.out]
          exact ⟨rfl, Below.refl _ _⟩
        · have HF := hide (parseS_good s.data.toList most ⟨HNE.out, by have := hall.out; rw [HE.out] at this; exact this, HHD.out, by rw [← HVV.out]; exact hv, by rw [← HVV.out]; omega⟩)
          clear hks
          go_wp2
          go_ret2
          rw [HF.out, ← HVV.out]
          exact ⟨rfl, Below.refl _ _⟩
end Go.Proofs.YtoihocbnhoniaaaGreatDoor.Wf

namespace Go.Proofs.YtoihocbnhoniaaaGreatDoor.Wf
open Go.RowKit
set_option linter.unusedVariables false
set_option linter.unusedSimpArgs false

def up (m : Nat) : List UInt8 := if m = 0 then [] else Lib.decDigits m
theorem dec_step (m : Nat) : Lib.decDigits m = up (m / 10) ++ [UInt8.ofNat (48 + m % 10)] := by
  rw [Lib.decDigits, up]
  split
  · rw [if_pos (by omega), show m % 10 = m by omega]
    rfl
  · rw [if_neg (by omega)]
theorem conv1 (wr : World) (x : Int) : (convert 91 9 (.slice (some ⟨wr.heap.size, 0, none⟩) 1 1)).run Tryz.prog (wr.alloc (.cells #[.int .u8 x] 5)) = .ok (.string (strOfNums [x])) (wr.alloc (.cells #[.int .u8 x] 5)) :=
  run_convert_bytes_arg (P := Tryz.prog) (wr.alloc (.cells #[.int .u8 x] 5)) 91 5 Tryz.underlying91 Tryz.underlying5 wr.heap.size 0 1 1 [x] rfl (by
    intro i hi
    obtain rfl : i = 0 := (by omega)
    simp) 9 Tryz.underlying9
def strE : Value → Nat | .string s => if s.size = 0 then 1 else 0 | _ => 0
theorem str_one (m : Nat) (l : List UInt8) : strOfNums [48 + (m : Int) % 10] ++ (⟨l.toArray⟩ : ByteArray) = ⟨(UInt8.ofNat (48 + m % 10) :: l).toArray⟩ := by
  have : strOfNums [48 + (m : Int) % 10] = ⟨[UInt8.ofNat (48 + m % 10)].toArray⟩ := by
    rw [strOfNums, List.map_cons, List.map_nil, show (48 + (m : Int) % 10).toNat = 48 + m % 10 by omega]
  rw [this, str_append]
  rfl
theorem up_step (N m : Nat) (l : List UInt8) (h : Lib.decDigits N = up m ++ l) (hm : m ≠ 0) : Lib.decDigits N = up (m / 10) ++ (UInt8.ofNat (48 + m % 10) :: l) := by
  rw [h]
  conv => lhs; rw [up, if_neg hm, dec_step m]
  rw [List.append_assoc]
  rfl

set_option maxHeartbeats 800000 in
set_option maxRecDepth 20000 in
theorem refNumber_any (n : Int) (w : World) (h0 : -9223372036854775808 ≤ n) (h1 : n ≤ 9223372036854775807) :
    Calls Tryz.prog 86 #[.int .i64 n] w fun e w' => e = .returned (.string ⟨(Lib.itoa n).toArray⟩) ∧ Below w.heap.size w w' := by
  by_cases hn : n < 0
  · have HI := hide (show Lib.itoa n = 45 :: Lib.decDigits n.natAbs by rw [Lib.itoa, if_pos hn])
    go_enter Tryz.func86, Tryz.ntmps86
    go_wp2
    have HN0 := hide (And.intro h0 hn)
    have HL : Hid ((Lib.decDigits n.natAbs).length ≤ 20) := hide (decDigits_len 19 _ (by have e : (10 : Nat) ^ (19 + 1) = 100000000000000000000 := (by decide); rw [e]; omega))
    clear h0 h1 hn
    go_loopw [0, 4] (fun v S wr => ∃ (m : Nat) (l : List UInt8), v = .int .i64 (-(m : Int)) ∧ S = .string ⟨l.toArray⟩ ∧ m ≤ 9223372036854775808 ∧ l.length ≤ 100 ∧ Hid (Lib.decDigits n.natAbs = up m ++ l) ∧ Below w.heap.size w wr) (fun v _ _ => (intOf v).natAbs)
    case atStart =>
      refine ⟨n.natAbs, [], ?_, rfl, ?_, by simp, hide ?_, Below.refl _ w⟩
      · have := HN0.out
        congr 1
        omega
      · have := HN0.out
        omega
      · have := HN0.out
        rw [up, if_neg (by omega), List.append_nil]
    case round =>
      obtain ⟨m, l, rfl, rfl, hm, hl, hd, hbel⟩ := hrel
      have hl8 : ((⟨l.toArray⟩ : ByteArray).size : Int) ≤ 8388608 := by show ((l.toArray.size : Nat) : Int) ≤ _; rw [List.size_toArray]; omega
      by_cases hz : m = 0
      · subst hz
        have HF := hide (show Lib.itoa n = 45 :: l by rw [HI.out, hd.out]; rfl)
        clear hd
        go_wp2
        go_ret
        rw [HF.out]
        exact ⟨congrArg (fun s => Ending.returned (Value.string s)) (str_append [45] l), hbel⟩
      · have hlt : -(m : Int) < 0 := by omega
        have htm : (-(m : Int)).tmod 10 = -((m % 10 : Nat) : Int) := by rw [Int.neg_tmod, Int.tmod_eq_emod_of_nonneg (by omega)]; rfl
        have htd : (-(m : Int)).tdiv 10 = -((m / 10 : Nat) : Int) := by rw [Int.neg_tdiv, Int.tdiv_eq_ediv_of_nonneg (by omega)]; rfl
        have hcv := conv1 wr (48 + (m : Int) % 10)
        have hT8 : ((strOfNums [48 + (m : Int) % 10]).size : Int) ≤ 8388608 := by rw [strOfNums_size]; simp
        have HB := hide (hbel.alloc hbel.size (.cells #[.int .u8 (48 + (m : Int) % 10)] 5))
        have HD := hide (up_step _ m l hd.out hz)
        have HLL : Hid ((UInt8.ofNat (48 + m % 10) :: l).length ≤ 100) := hide (by have h1 := HL.out; rw [HD.out, List.length_append] at h1; omega)
        clear hd
        go_wp2
        go_roundw
        case rel =>
          refine ⟨m / 10, _ :: l, ?_, ?_, by omega, HLL.out, HD, HB.out⟩
          · go_num
          · rw [str_one]
        case measure => simp [intOf]; omega
  · have HI := hide (show Lib.itoa n = Lib.decDigits n.toNat by rw [Lib.itoa, if_neg hn])
    go_enter Tryz.func86, Tryz.ntmps86
    go_wp2
    have HN0 := hide (And.intro h1 hn)
    have HL : Hid ((Lib.decDigits n.toNat).length ≤ 20) := hide (decDigits_len 19 _ (by have e : (10 : Nat) ^ (19 + 1) = 100000000000000000000 := (by decide); rw [e]; omega))
    clear h0 h1 hn
    go_loopw [0, 3] (fun v S wr => ∃ (m : Nat) (l : List UInt8), v = .int .i64 (m : Int) ∧ S = .string ⟨l.toArray⟩ ∧ m ≤ 9223372036854775807 ∧ l.length ≤ 100 ∧ Hid ((l = [] ∧ m = n.toNat) ∨ (l ≠ [] ∧ Lib.decDigits n.toNat = up m ++ l)) ∧ Below w.heap.size w wr) (fun v S _ => (intOf v).toNat + strE S)
    case atStart =>
      refine ⟨n.toNat, [], ?_, rfl, ?_, by simp, hide (Or.inl ⟨rfl, rfl⟩), Below.refl _ w⟩
      · have := HN0.out
        congr 1
        omega
      · have := HN0.out
        omega
    case round =>
      obtain ⟨m, l, rfl, rfl, hm, hl, hd, hbel⟩ := hrel
      have hl8 : ((⟨l.toArray⟩ : ByteArray).size : Int) ≤ 8388608 := by show ((l.toArray.size : Nat) : Int) ≤ _; rw [List.size_toArray]; omega
      have hsz : (⟨l.toArray⟩ : ByteArray).size = l.length := by show l.toArray.size = _; rw [List.size_toArray]
      by_cases hend : m = 0 ∧ l ≠ []
      · obtain ⟨rfl, hne⟩ := hend
        have HF := hide (show Lib.itoa n = l by
          rw [HI.out]
          rcases hd.out with ⟨h, _⟩ | ⟨_, h⟩
          · exact absurd h hne
          · rw [h]; rfl)
        have hee : l.isEmpty = false := by cases l with
          | nil => exact absurd rfl hne
          | cons a r => rfl
        clear hd hne hsz
        go_wp2
        go_ret
        rw [HF.out]
        exact ⟨rfl, hbel⟩
      · have HD : Hid (Lib.decDigits n.toNat = up (m / 10) ++ (UInt8.ofNat (48 + m % 10) :: l)) := by
          refine hide ?_
          rcases hd.out with ⟨h, h2⟩ | ⟨h, h2⟩
          · rw [h, ← h2]; exact dec_step m
          · exact up_step _ m l h2 (fun h3 => hend ⟨h3, h⟩)
        have HME : Hid (m / 10 < m + strE (.string ⟨l.toArray⟩)) := by
          refine hide ?_
          by_cases h0 : m = 0
          · have hl0 : l = [] := by
              cases l with
              | nil => rfl
              | cons a r => exact absurd ⟨h0, by simp⟩ hend
            rw [h0, hl0]
            decide
          · have : m / 10 < m := by omega
            omega
        have hcv := conv1 wr (48 + (m : Int) % 10)
        have hT8 : ((strOfNums [48 + (m : Int) % 10]).size : Int) ≤ 8388608 := by rw [strOfNums_size]; simp
        have HB := hide (hbel.alloc hbel.size (.cells #[.int .u8 (48 + (m : Int) % 10)] 5))
        have HLL : Hid ((UInt8.ofNat (48 + m % 10) :: l).length ≤ 100) := hide (by have h1 := HL.out; rw [HD.out, List.length_append] at h1; omega)
        have HEND := hide hend
        clear hd hend
        by_cases hm0 : m = 0
        · obtain rfl : l = [] := by
            cases l with
            | nil => rfl
            | cons a r => exact absurd ⟨hm0, by simp⟩ HEND.out
          subst hm0
          clear hsz hcv hT8 HB HLL HEND hl hl8
          have hcv := conv1 wr 48
          have hT8 : ((strOfNums [48]).size : Int) ≤ 8388608 := by rw [strOfNums_size]; simp
          have HB := hide (hbel.alloc hbel.size (.cells #[.int .u8 48] 5))
          go_wp2
          go_roundw
          case rel =>
            refine ⟨0, [48], ?_, ?_, by omega, by simp, hide (Or.inr ⟨by simp, HD.out⟩), HB.out⟩
            · go_num
            · rfl
          case measure =>
            show 0 + strE (.string (strOfNums [48] ++ ⟨#[]⟩)) < 0 + strE (.string ⟨#[]⟩)
            decide +kernel
        · have hgt : (0 : Int) < m := by omega
          clear hsz
          go_wp2
          go_roundw
          case rel =>
            refine ⟨m / 10, _ :: l, ?_, ?_, by omega, HLL.out, hide (Or.inr ⟨by simp, HD.out⟩), HB.out⟩
            · go_num
            · rw [str_one]
          case measure =>
            have h1 := HME.out
            have h2 : strE (.string ⟨(UInt8.ofNat (48 + m % 10) :: l).toArray⟩) = 0 := by simp [strE, ByteArray.size]
            rw [str_one, h2]
            show ((m : Int) / 10).toNat + 0 < (m : Int).toNat + _
            omega
end Go.Proofs.YtoihocbnhoniaaaGreatDoor.Wf
