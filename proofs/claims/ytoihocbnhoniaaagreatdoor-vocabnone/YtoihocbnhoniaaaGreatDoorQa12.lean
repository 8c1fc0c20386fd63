/- Contract: the reference's Unhex. Contracts: Number, Line, Numbers, awake. Contract: word.Parse. Contracts: awake; the law of hex words. -/
import Derived.Test.YtoihocbnhoniaaaGreatDoorQa5
import Derived.Deep.AppendLies
import Derived.Deep.RegionLaw
import Derived.Deep.RegionHeld3
import Derived.Lib.LaidTab
import Derived.Deep.RegionWith
import Derived.Test.YtoihocbnhoniaaaGreatDoorQa6
namespace Go.Proofs.YtoihocbnhoniaaaGreatDoor.Wf
open Go.RowKit
set_option linter.unusedVariables false
set_option linter.unusedSimpArgs false

theorem info5 : (Tryz.prog.info? 5).map (fun i => (i.zero, i.size, i.bytes)) = some (some (.int .u8 0), 1, 1) := by kernel_rfl
theorem info5_parts : ∃ i, Tryz.prog.info? 5 = some i ∧ i.zero = some (.int .u8 0) ∧ i.size = 1 ∧ i.bytes = 1 := by
  have h := info5
  cases hi : Tryz.prog.info? 5 with
  | none => rw [hi] at h; simp at h
  | some i =>
    rw [hi] at h
    simp only [Option.map_some, Option.some.injEq, Prod.mk.injEq] at h
    exact ⟨i, rfl, h.1, h.2.1, h.2.2⟩

theorem ownsRow_lit {w : World} {base k : Nat} {v : Value} {xs : List Value} (x : Value) (h : w.ownsRow base 5 1 v k xs) : ((w.alloc (.cells #[x] 5)).drew).ownsRow base 5 1 v k xs := by
  refine h.kept (row := none) ⟨rfl, rfl, rfl, by simp, fun i hi _ => Below.heap_alloc w _ i hi⟩ ?_
  cases v.ownBlock with
  | none => exact Or.inl rfl
  | some b => exact Or.inr (by simp)
theorem ownsRow_owned {w : World} {base k e : Nat} {v : Value} {xs : List Value} (h : w.ownsRow base e 1 v k xs) : ∀ b, v.ownBlock = some b → base ≤ b := by
  intro b hb
  rcases h.2 with ⟨rfl, _⟩ | ⟨g, cap, cur, rfl, hg, _⟩
  · simp [Value.ownBlock] at hb
  · simp only [Value.ownBlock, Option.some.injEq] at hb
    omega
theorem step_append_byte {ops : Array Oper} {o : Oper} {a : Act} {K : Act → World → Prop} {Q : Exit → Act → World → Prop} {E : Prop} {w : World} {base k : Nat} {v : Value} {xs : List Value} {b : Int}
    (hgd : o.guard = none) (s x : Operand) (ho : o.op = .call { callee := .builtin .append, args := #[s, x], argTypes := #[91, 91] })
    (hs : a.eval s = v) (hx : a.eval x = .slice (some ⟨w.heap.size, 0, none⟩) 1 1) (hown : w.ownsRow base 5 1 v k xs) (hk : k ≤ 1000000) (hbase : base ≤ w.heap.size)
    (h : ∀ v' w', w'.ownsRow base 5 1 v' (k + 1) (xs ++ [.int .u8 b]) → Below base w w' → K (a.put o.dst v') w') :
    if Region.wanted o (yielded ops a.tmps) = true then Oper.wp Tryz.prog o a (w.alloc (.cells #[.int .u8 b] 5)).drew K Q else E := by
  obtain ⟨i0, hi, hz0, hz1, hz2⟩ := info5_parts
  refine step_append_lies (w := (w.alloc (.cells #[.int .u8 b] 5)).drew) hgd s x 91 ho base 5 i0 (.int .u8 0) 1 1 Tryz.underlying91 hi hz0 hz1 hz2 rfl (by omega) v k xs hs (ownsRow_lit _ hown) ⟨w.heap.size, 0, none⟩ 1 1 [.int .u8 b] hx rfl ?_ ?_ (by omega) ?_ (by omega) ?_ (w.heap.size + 1) ?_ ?_
  · exact World.news_of_block (cs := #[.int .u8 b]) (heap_alloc_new w _)
  · intro u hu
    simp only [List.mem_cons, List.not_mem_nil, or_false] at hu
    subst hu
    rfl
  · have : maxLen = 9223372036854775807 := rfl
    omega
  · simp; omega
  · simp
  · intro g cap w1 hown1 hgrow hat hlt
    refine h _ w1 hown1 ?_
    exact (((Below.refl base w).alloc hbase _).drew).grown hgrow (by simp; omega) (ownsRow_owned hown)
theorem wrap_nib (p q : Nat) (hp : p < 16) (hq : q < 16) : IntKind.u8.wrap (IntKind.i64.wrap (IntKind.i64.wrap (16 * (p : Int)) + q)) = ((16 * p + q).toUInt8.toNat : Int) := by
  have all : ∀ p q : Fin 16, IntKind.u8.wrap (IntKind.i64.wrap (IntKind.i64.wrap (16 * (p.val : Int)) + q.val)) = ((16 * p.val + q.val).toUInt8.toNat : Int) := by decide +kernel
  exact all ⟨p, hp⟩ ⟨q, hq⟩
theorem byteCells_ints (l : List UInt8) : Lib.byteCells l = (l.map (fun c => (c.toNat : Int))).map (Value.int .u8) := by simp [Lib.byteCells]
theorem str_ints (l : List UInt8) : strOfNums (l.map (fun c => (c.toNat : Int))) = ⟨l.toArray⟩ := by
  rw [strOfNums]
  congr 2
  rw [List.map_map]
  conv => rhs; rw [← List.map_id l]
  refine List.map_congr_left fun c _ => ?_
  simp
theorem conv_nil (w : World) : (convert 91 9 (.slice none 0 0)).run Tryz.prog w = .ok (.string ⟨#[]⟩) w := by
  rw [run_convert_bytes_string w 91 9 5 none 0 0 Tryz.underlying91 Tryz.underlying5 Tryz.underlying9]
  simp [Conv.bytesToString]
  rfl
theorem digit_at (c : UInt8) (w : World) (p : Nat) (h : dv c = p) :
    Calls Tryz.prog 125 #[.int .u8 c.toNat] w fun e w' => e = .returned (.int .i64 p) ∧ w' = w := by rw [← h]; exact digit_any c w
theorem dv_at {s : ByteArray} {j j' p : Nat} (h : j < s.size) (e : j' = j) (hp : dv s[j] = p) (h' : j' < s.size) : dv s[j'] = p := by subst e; exact hp

set_option maxRecDepth 20000 in
set_option maxHeartbeats 1600000 in
theorem refUnhex_any (s : ByteArray) (w : World) (hs : s.size ≤ 1000000) :
    Calls Tryz.prog 94 #[.string s] w fun e w' => e = .returned (.tuple #[.string (unhexS s).1, .bool (unhexS s).2]) ∧ Below w.heap.size w w' := by
  by_cases hd : s.toList = [45]
  · have HU := hide (show unhexS s = (⟨#[]⟩, true) by rw [unhexS, if_pos hd])
    have hd' : (s.toList == [45]) = true := by rw [hd]; rfl
    clear hd
    go_enter Tryz.func94, Tryz.ntmps94
    go_wp2
    go_ret2
    rw [HU.out]
    exact ⟨rfl, Below.refl _ _⟩
  have hd' : (s.toList == [45]) = false := by rw [Bool.eq_false_iff]; intro h; exact hd (by simpa using h)
  go_enter Tryz.func94, Tryz.ntmps94
  go_wp2
  obtain ⟨i0, hi, hz0, hz1, hz2⟩ := info5_parts
  go_loopw [4, 5] (fun b i wr => ∃ (k : Nat), 2 * k ≤ s.size ∧ i = .int .i64 (2 * k) ∧ wr.ownsRow w.heap.size 5 1 b k (Lib.byteCells (outs s.data.toList k)) ∧ Hid (∀ i, i < k → okAt s.data.toList i) ∧ Below w.heap.size w wr) (fun _ i _ => s.size - (intOf i).toNat)
  case atStart =>
    exact ⟨0, Nat.zero_le _, rfl, World.ownsRow_nil _ _ _ _, hide (fun i hi => absurd hi (Nat.not_lt_zero _)), Below.refl _ w⟩
  case round =>
    obtain ⟨k, hk, rfl, hown, hall, hbel⟩ := hrel
    have HOWN := hide hown
    clear hown
    have HI := hide (And.intro hi (And.intro hz0 (And.intro hz1 hz2)))
    clear hi hz0 hz1 hz2
    by_cases hlt : 2 * k < s.size
    · by_cases h1 : 2 * k + 1 < s.size
      case neg =>
        have HF := hide (show unhexS s = (⟨#[]⟩, false) by rw [unhexS, if_neg hd, if_pos (Or.inr (by omega))])
        clear hd
        go_wp2
        go_ret2
        rw [HF.out]
        exact ⟨rfl, hbel⟩
      have HA := hide (at0_eq s (2 * k) hlt)
      have HA1 := hide (at0_eq s (2 * k + 1) h1)
      have HN := hide (show ¬ okAt s.data.toList k → unhexS s = (⟨#[]⟩, false) by
        intro h
        rw [unhexS, if_neg hd]
        split
        · rfl
        · rw [if_neg (fun h' => h (h' k (by omega)))])
      clear hd
      obtain ⟨p, hp⟩ : ∃ p, dv s[2 * k] = p := ⟨_, rfl⟩
      obtain ⟨q, hq⟩ : ∃ q, dv s[2 * k + 1] = q := ⟨_, rfl⟩
      have HP := hide hp
      have HQ := hide hq
      have cP : ∀ w, Calls Tryz.prog 125 #[.int .u8 s[2 * k].toNat] w fun e w' => e = .returned (.int .i64 p) ∧ w' = w := by
        intro w; rw [← hp]; exact digit_any _ w
      have cQ : ∀ w, Calls Tryz.prog 125 #[.int .u8 s[2 * k + 1].toNat] w fun e w' => e = .returned (.int .i64 q) ∧ w' = w := by
        intro w; rw [← hq]; exact digit_any _ w
      have CP := hide cP
      have CQ := hide cQ
      clear cP cQ hp hq
      by_cases h15 : (p : Int) > 15
      · have HF := hide (HN.out (fun h => by have := h.1; rw [HA.out, HP.out] at this; omega))
        go_wp2_with (first | (go_at_call 125; refine (CP.out _).mono ?_; rintro e w1 ⟨rfl, rfl⟩) | fail)
        go_ret2
        rw [HF.out]
        exact ⟨rfl, hbel⟩
      by_cases h16 : (q : Int) > 15
      · have HF := hide (HN.out (fun h => by have := h.2; rw [HA1.out, HQ.out] at this; omega))
        go_wp2_with (first | (go_at_call 125; (first | (with_reducible refine (CP.out _).mono ?_) | (with_reducible refine (CQ.out _).mono ?_)); rintro e w1 ⟨rfl, rfl⟩) | fail)
        go_ret2
        rw [HF.out]
        exact ⟨rfl, hbel⟩
      go_wp2_with (first | (go_at_call 125; (first | (with_reducible refine (CP.out _).mono ?_) | (with_reducible refine (CQ.out _).mono ?_)); rintro e w1 ⟨rfl, rfl⟩) | fail)
      have HT : True := trivial
      have hb0 : 0 ≤ 2 * (k : Int) := by omega
      have hb1 : 2 * (k : Int) < s.size := by omega
      have hb2 : 0 ≤ 2 * (k : Int) + 1 := by omega
      have hb3 : 2 * (k : Int) + 1 < s.size := by omega
      have hwr : IntKind.i64.wrap (2 * (k : Int) + 1) = 2 * k + 1 := IntWalk.i64_in _ (by omega)
      go_region_held3 (fun W => True) (exact trivial) (first | (go_at_call 125; first | (refine (digit_at _ _ p ?_).mono ?_; exact dv_at hlt (by omega) HP.out _; rintro e w1 ⟨rfl, rfl⟩) | (refine (digit_at _ _ q ?_).mono ?_; exact dv_at h1 (by omega) HQ.out _; rintro e w1 ⟨rfl, rfl⟩)) | (refine step_append_byte (by rfl) _ _ (by rfl) (by rfl) (by rfl) HOWN.out (by omega) hbel.size ?_; intro v' w2 ho hb; have HO2 := hide ho; have HB2 := hide hb; clear ho hb))
      all_goals (
        go_wp2
        go_roundw
        case rel =>
          refine ⟨k + 1, by omega, by go_num, ?_, ?_, hbel.trans HB2.out⟩
          · have h2 := HO2.out
            rw [wrap_nib p q (by omega) (by omega)] at h2
            rw [outs_succ, byteCells_append, outAt, HA.out, HA1.out, HP.out, HQ.out]
            exact h2
          · refine hide fun i hi => ?_
            by_cases hik : i = k
            · subst hik
              exact ⟨by rw [HA.out, HP.out]; omega, by rw [HA1.out, HQ.out]; omega⟩
            · exact hall.out i (by omega)
        case measure => simp [intOf]; omega)
    · have hks : 2 * k = s.size := by omega
      have HK : Hid (unhexS s = (⟨(outs s.data.toList k).toArray⟩, decide (0 < k))) := by
        refine hide ?_
        rw [unhexS, if_neg hd]
        by_cases h0 : k = 0
        · subst h0
          rw [if_pos (Or.inl (by omega))]
          rfl
        · rw [if_neg (by omega), if_pos (by rw [show s.size / 2 = k by omega]; exact hall.out), show s.size / 2 = k by omega]
          simp
          omega
      have hO := HOWN.out
      rw [byteCells_ints] at hO
      obtain ⟨ao, cap, hv, hO2⟩ := Own.ofRow hO
      have HO := hide hO2
      have hge : (s.size : Int) ≤ 2 * (k : Int) := by omega
      clear hO2 hO HOWN hks hd hk hlt
      subst hv
      rcases HO.out.2 with ⟨rfl, rfl, rfl⟩ | ⟨g, cur, rfl, _, hg, _, _, ht⟩
      · have hs0 : s.size = 0 := by omega
        have hs1 : ¬ 0 < s.size := by omega
        clear hge
        have hcv := conv_nil wr
        go_wp2
        go_ret2
        rw [HK.out]
        exact ⟨rfl, hbel⟩
      · have hcv := run_convert_bytes_arg (P := Tryz.prog) wr 91 5 Tryz.underlying91 Tryz.underlying5 g 0 k cap _ HO.out.1 (by intro i hi; rw [Nat.zero_add]; exact row_cell hg HO.out.1 ht i hi) 9 Tryz.underlying9
        rw [str_ints] at hcv
        clear ht hg
        go_wp2
        go_ret2
        rw [HK.out]
        exact ⟨rfl, hbel⟩
end Go.Proofs.YtoihocbnhoniaaaGreatDoor.Wf

namespace Go.Proofs.YtoihocbnhoniaaaGreatDoor.Wf
open Go.RowKit
set_option linter.unusedVariables false
set_option linter.unusedSimpArgs false

/-- The table of tens lies in the world. -/
def Tens (w : World) : Prop := Lib.TabIs Tryz.prog w "internal/strconv.uint64pow10" .u64 Lib.pow10Tab
theorem below_grow (w : World) (k : Nat) (os : Array Obj) : Below w.heap.size w (Go.Sort.grow (w.drewN k) os) := by
  refine ⟨rfl, rfl, rfl, ?_, ?_⟩
  · show w.heap.size ≤ (w.heap ++ os).size
    rw [Array.size_append]; omega
  · intro i hi
    show (w.heap ++ os)[i]? = w.heap[i]?
    exact Array.getElem?_append_left hi

def numS (n : Int) : ByteArray := ⟨(Lib.itoa n).toArray⟩
theorem number_any (n : Int) (h0 : -9223372036854775808 ≤ n) (h1 : n ≤ 9223372036854775807) (w : World) (ht : Tens w) :
    Calls Tryz.prog 203 #[.int .i64 n] w fun e w' => e = .returned (.string (numS n)) ∧ Below w.heap.size w w' := by
  have HT := hide ht
  clear ht
  go_enter Tryz.func203, Tryz.ntmps203
  go_wp2_with fail
  refine (Tryz.strconv_Itoa n h0 h1 w HT.out).mono ?_
  rintro e w1 ⟨rfl, k, os, hw1⟩
  have hb : Below w.heap.size w w1 := by rw [hw1]; exact below_grow w k os
  clear hw1
  go_wp2
  go_ret
  exact ⟨rfl, hb⟩

/-- A slice of texts, read. -/
def ReadsS (w : World) (ao : Option Addr) (n : Nat) (ss : List ByteArray) : Prop :=
  ss.length = n ∧ (n = 0 ∨ ∃ b off, ao = some ⟨b, off, none⟩ ∧ ∀ i, i < n → w.cell? ⟨b, off + i, none⟩ = some (.string (ss.getD i ⟨#[]⟩)))
theorem ReadsS.at {w : World} {ao : Option Addr} {n : Nat} {ss : List ByteArray} (h : ReadsS w ao n ss) {i : Nat} (hi : i < n) :
    ∃ b off, ao = some ⟨b, off, none⟩ ∧ ∀ i, i < n → w.cell? ⟨b, off + i, none⟩ = some (.string (ss.getD i ⟨#[]⟩)) := by
  rcases h.2 with h0 | h1
  · omega
  · exact h1
def lineL (first : ByteArray) (ss : List ByteArray) : List UInt8 := first.data.toList ++ ss.flatMap (fun s => 32 :: s.data.toList)
def lineS (first : ByteArray) (ss : List ByteArray) : ByteArray := ⟨(lineL first ss).toArray⟩
theorem lineL_take (f : ByteArray) (ss : List ByteArray) (k : Nat) (h : k < ss.length) : lineL f (ss.take (k + 1)) = lineL f (ss.take k) ++ (32 :: (ss.getD k ⟨#[]⟩).data.toList) := by
  rw [lineL, List.take_succ_eq_append_getElem h, List.flatMap_append, ← List.append_assoc]
  simp [lineL, List.getD_eq_getElem?_getD, List.getElem?_eq_getElem h]
theorem lineL_len (f : ByteArray) (ss : List ByteArray) (M : Nat) (h : ∀ s ∈ ss, s.size ≤ M) : (lineL f ss).length ≤ f.size + ss.length * (M + 1) := by
  rw [lineL, List.length_append, Array.length_toList]
  have : (ss.flatMap (fun s => 32 :: s.data.toList)).length ≤ ss.length * (M + 1) := by
    induction ss with
    | nil => simp
    | cons a r ih =>
      rw [List.flatMap_cons, List.length_append, List.length_cons, List.length_cons, Array.length_toList, Nat.succ_mul]
      have h1 := h a (by simp)
      have h2 := ih (fun s hs => h s (by simp [hs]))
      have h3 : a.data.size = a.size := rfl
      omega
  have h3 : f.data.size = f.size := rfl
  omega
theorem strCells_byte (s : ByteArray) : Lib.strCells s = Lib.byteCells s.data.toList := rfl

theorem tens_below {w w' : World} (h : Tens w) (hb : Below w.heap.size w w') : Tens w' := by
  unfold Tens Lib.TabIs World.var? at h ⊢
  cases hg : Tryz.prog.globalNamed "internal/strconv.uint64pow10" with
  | none => rw [hg] at h; cases h
  | some g =>
    rw [hg] at h
    simp only [Option.bind_some] at h ⊢
    have hlt : g < w.heap.size := by
      rcases Nat.lt_or_ge g w.heap.size with h' | h'
      · exact h'
      · rw [Array.getElem?_eq_none h'] at h; cases h
    rw [hb.block g hlt]
    exact h

/-- Texts that lie in a block. -/
def OwnS (w : World) (g n : Nat) (ss : List ByteArray) : Prop := ss.length = n ∧ w.heap[g]? = some (.cells (ss.map Value.string).toArray 9 (0, 0))
theorem OwnS.cell {w : World} {g n : Nat} {ss : List ByteArray} (h : OwnS w g n ss) (i : Nat) (hi : i < n) : w.cell? ⟨g, i, none⟩ = some (.string (ss.getD i ⟨#[]⟩)) := by
  rw [Lib.cell_of_heap h.2]
  have : i < ss.length := by rw [h.1]; exact hi
  simp [List.getD_eq_getElem?_getD, List.getElem?_eq_getElem this]
theorem OwnS.frozen {w : World} {g n : Nat} {ss : List ByteArray} (h : OwnS w g n ss) (i : Nat) : w.frozen? ⟨g, i, none⟩ = false := Lib.frozen_of_heap h.2 i
theorem OwnS.lt {w : World} {g n : Nat} {ss : List ByteArray} (h : OwnS w g n ss) : g < w.heap.size := (Array.getElem?_eq_some_iff.1 h.2).1
theorem OwnS.below {w w' : World} {g n : Nat} {ss : List ByteArray} (h : OwnS w g n ss) (hb : Below w.heap.size w w') : OwnS w' g n ss := ⟨h.1, (hb.block g h.lt).trans h.2⟩
theorem OwnS.stored {w : World} {g n : Nat} {ss : List ByteArray} (h : OwnS w g n ss) (j : Nat) (s : ByteArray) : OwnS (w.setCell ⟨g, j, none⟩ (.string s)) g n (ss.set j s) := by
  refine ⟨by rw [List.length_set]; exact h.1, ?_⟩
  simp [World.setCell, Array.getElem?_modify, h.2, List.map_set]
theorem info9 : (Tryz.prog.info? 9).map (fun i => (i.zero, i.size, i.bytes)) = some (some (.string ⟨#[]⟩), 1, 16) := by kernel_rfl
theorem decDigits_len (k : Nat) : ∀ u, u < 10 ^ (k + 1) → (Lib.decDigits u).length ≤ k + 1 := by
  induction k with
  | zero =>
    intro u hu
    rw [Lib.decDigits, dif_pos (by simpa using hu)]
    simp
  | succ k ih =>
    intro u hu
    rw [Lib.decDigits]
    split
    · simp
    · rw [List.length_append]
      have := ih (u / 10) (by rw [Nat.pow_succ] at hu; omega)
      simp only [List.length_cons, List.length_nil]
      omega
theorem numS_size (z : Int) (h0 : -9223372036854775808 ≤ z) (h1 : z ≤ 9223372036854775807) : (numS z).size ≤ 1000000 := by
  show (Lib.itoa z).toArray.size ≤ _
  rw [List.size_toArray, Lib.itoa]
  have e : (10 : Nat) ^ (19 + 1) = 100000000000000000000 := by decide
  split
  · have := decDigits_len 19 z.natAbs (by rw [e]; omega)
    rw [List.length_cons]
    omega
  · have := decDigits_len 19 z.toNat (by rw [e]; omega)
    omega
theorem set_step (zs : List Int) (k n : Nat) (h : k < n) (hl : zs.length = n) : ((zs.take k).map numS ++ List.replicate (n - k) (⟨#[]⟩ : ByteArray)).set k (numS (zs.getD k 0)) = (zs.take (k + 1)).map numS ++ List.replicate (n - (k + 1)) ⟨#[]⟩ := by
  rw [List.take_succ_eq_append_getElem (by omega), List.map_append, show n - k = (n - (k + 1)) + 1 by omega, List.replicate_succ, List.append_assoc]
  have hlen : ((zs.take k).map numS).length = k := by rw [List.length_map, List.length_take]; omega
  rw [List.set_append_right _ _ (by omega), hlen, Nat.sub_self, List.set_cons_zero]
  simp [List.getD_eq_getElem?_getD, List.getElem?_eq_getElem (show k < zs.length by omega)]
def numsS (zs : List Int) : ByteArray := match zs with
  | [] => ⟨#[45]⟩
  | z :: r => lineS (numS z) (r.map numS)

end Go.Proofs.YtoihocbnhoniaaaGreatDoor.Wf

namespace Go.Proofs.YtoihocbnhoniaaaGreatDoor.Wf
open Go.RowKit
set_option linter.unusedVariables false
set_option linter.unusedSimpArgs false

/-- The package's two errors lie in the world, whatever they are. -/
def Errs (w : World) : Prop := (∃ ev, w.cell? ⟨4, 0, none⟩ = some ev ∧ (ev = .nilIface ∨ ∃ te pe, ev = .iface te pe)) ∧ ∃ ev, w.cell? ⟨5, 0, none⟩ = some ev ∧ (ev = .nilIface ∨ ∃ te pe, ev = .iface te pe)
theorem errs_below {w w' : World} (h : Errs w) (hb : Below w.heap.size w w') : Errs w' := by
  obtain ⟨⟨e0, h0, k0⟩, e1, h1, k1⟩ := h
  exact ⟨⟨e0, (bcell hb (World.block_lt_of_cell? w _ h0)).trans h0, k0⟩, e1, (bcell hb (World.block_lt_of_cell? w _ h1)).trans h1, k1⟩
theorem below_bytes (w : World) (t : ByteArray) : Below w.heap.size w (Lib.bytesWorld w 5 t) := by
  refine ⟨rfl, rfl, rfl, by rw [Lib.bytesWorld_size]; omega, fun k hk => Lib.bytesWorld_at_old w _ t k hk⟩

set_option maxHeartbeats 1600000 in
set_option maxRecDepth 20000 in
theorem parse_any (s : ByteArray) (most : Int) (w : World) (hs : s.size ≤ 1000000) (ht : Tens w) (he : Errs w) :
    Calls Tryz.prog 181 #[.string s, .int .i64 most] w fun e w' => e = .returned (.tuple #[.int .i64 (parseS s.data.toList most).1, .bool (parseS s.data.toList most).2]) ∧ Below w.heap.size w w' := by
  have HT := hide ht
  have HE := hide he
  clear ht he
  cases ha : Lib.atoiAll s.data.toList with
  | ok n =>
    have hbd := Lib.atoiAll_bounds ha
    have HC := hide (fun w => Tryz.strconv_Atoi_ok s (by omega) n ha w)
    have HP : Hid (parseS s.data.toList most = if 0 ≤ n ∧ n ≤ most ∧ Lib.itoa n = s.data.toList then (n, true) else (0, false)) := hide (by unfold parseS; rw [ha])
    clear ha
    by_cases h1 : n < 0
    · have HF := hide (show parseS s.data.toList most = (0, false) by rw [HP.out, if_neg (by omega)])
      go_enter Tryz.func181, Tryz.ntmps181
      go_wp2_with fail
      refine (HC.out w).mono ?_
      rintro e w1 ⟨rfl, hw1⟩
      have HB : Hid (Below w.heap.size w w1) := by
        rcases hw1 with rfl | ⟨t, rfl⟩
        · exact hide (Below.refl _ _)
        · exact hide (below_bytes _ _)
      clear hw1
      go_wp2
      go_ret2
      rw [HF.out]
      exact ⟨rfl, HB.out⟩
    by_cases h2 : most < n
    · have HF := hide (show parseS s.data.toList most = (0, false) by rw [HP.out, if_neg (by omega)])
      go_enter Tryz.func181, Tryz.ntmps181
      go_wp2_with fail
      refine (HC.out w).mono ?_
      rintro e w1 ⟨rfl, hw1⟩
      have HB : Hid (Below w.heap.size w w1) := by
        rcases hw1 with rfl | ⟨t, rfl⟩
        · exact hide (Below.refl _ _)
        · exact hide (below_bytes _ _)
      clear hw1
      go_wp2
      go_ret2
      rw [HF.out]
      exact ⟨rfl, HB.out⟩
    have hnum : (numS n).toList = Lib.itoa n := by rw [ByteArray.toList_eq]; rfl
    have hst : s.toList = s.data.toList := ByteArray.toList_eq ..
    by_cases h3 : Lib.itoa n = s.data.toList
    · have HF := hide (show parseS s.data.toList most = (n, true) by rw [HP.out, if_pos ⟨by omega, by omega, h3⟩])
      have hq : ((numS n).toList == s.toList) = true := by rw [hnum, hst, h3]; simp
      clear hnum hst h3
      go_enter Tryz.func181, Tryz.ntmps181
      go_wp2_with fail
      refine (HC.out w).mono ?_
      rintro e w1 ⟨rfl, hw1⟩
      have HB : Hid (Below w.heap.size w w1) := by
        rcases hw1 with rfl | ⟨t, rfl⟩
        · exact hide (Below.refl _ _)
        · exact hide (below_bytes _ _)
      clear hw1
      go_wp2_with fail
      refine (number_any n hbd.1 hbd.2 w1 (tens_below HT.out HB.out)).mono ?_
      rintro e w2 ⟨rfl, hb2⟩
      go_wp2
      go_ret2
      rw [HF.out]
      exact ⟨rfl, HB.out.trans (hb2.mono HB.out.size)⟩
    · have HF := hide (show parseS s.data.toList most = (0, false) by rw [HP.out, if_neg (fun h => h3 h.2.2)])
      have hq : ((numS n).toList == s.toList) = false := by rw [hnum, hst, Bool.eq_false_iff]; intro h; exact h3 (by simpa using h)
      clear hnum hst h3
      go_enter Tryz.func181, Tryz.ntmps181
      go_wp2_with fail
      refine (HC.out w).mono ?_
      rintro e w1 ⟨rfl, hw1⟩
      have HB : Hid (Below w.heap.size w w1) := by
        rcases hw1 with rfl | ⟨t, rfl⟩
        · exact hide (Below.refl _ _)
        · exact hide (below_bytes _ _)
      clear hw1
      go_wp2_with fail
      refine (number_any n hbd.1 hbd.2 w1 (tens_below HT.out HB.out)).mono ?_
      rintro e w2 ⟨rfl, hb2⟩
      go_wp2
      go_ret2
      rw [HF.out]
      exact ⟨rfl, HB.out.trans (hb2.mono HB.out.size)⟩
  | «syntax» =>
    have HF : Hid (parseS s.data.toList most = (0, false)) := hide (by unfold parseS; rw [ha])
    obtain ⟨⟨ev, h0, k0⟩, _⟩ := HE.out
    have HC := hide (Tryz.strconv_Atoi_syntax s (by omega) ha ev w h0 k0)
    clear ha h0 k0
    go_enter Tryz.func181, Tryz.ntmps181
    go_wp2_with fail
    refine HC.out.mono ?_
    rintro e w1 ⟨N, rfl, _, _, hb1⟩
    go_wp2
    go_ret2
    rw [HF.out]
    exact ⟨rfl, hb1⟩
  | range =>
    have HF : Hid (parseS s.data.toList most = (0, false)) := hide (by unfold parseS; rw [ha])
    obtain ⟨_, ev, h0, k0⟩ := HE.out
    have HC := hide (Tryz.strconv_Atoi_range s (by omega) ha ev w h0 k0)
    clear ha h0 k0
    go_enter Tryz.func181, Tryz.ntmps181
    go_wp2_with fail
    refine HC.out.mono ?_
    rintro e w1 ⟨N, rfl, _, _, hb1⟩
    go_wp2
    go_ret2
    rw [HF.out]
    exact ⟨rfl, hb1⟩
end Go.Proofs.YtoihocbnhoniaaaGreatDoor.Wf

namespace Go.Proofs.YtoihocbnhoniaaaGreatDoor.Wf
open Go.RowKit
set_option linter.unusedVariables false
set_option linter.unusedSimpArgs false

theorem hex_az : hexS ⟨#[97, 122]⟩ = ⟨#[54, 49, 55, 97]⟩ := by decide +kernel
theorem nums_31 : numsS [3, -1] = ⟨#[51, 32, 45, 49]⟩ := by
  simp [numsS, lineS, lineL, numS, Lib.itoa, Lib.decDigits]

theorem unhexS_size (s : ByteArray) : (unhexS s).1.size ≤ s.size := by
  unfold unhexS
  split
  · exact Nat.zero_le _
  · split
    · exact Nat.zero_le _
    · split
      · show (outs s.data.toList (s.size / 2)).toArray.size ≤ _
        rw [List.size_toArray, outs_length]
        omega
      · exact Nat.zero_le _
theorem unhexS_none (s : ByteArray) (h : (unhexS s).2 = false) : (unhexS s).1 = ⟨#[]⟩ := by
  unfold unhexS at h ⊢
  split
  · rfl
  · rename_i h1
    rw [if_neg h1] at h
    split
    · rfl
    · rename_i h2
      rw [if_neg h2] at h
      split
      · rename_i h3
        rw [if_pos h3] at h
        cases h
      · rfl
theorem hexS_size (b : ByteArray) : (hexS b).size ≤ 2 * b.size + 1 := by
  rw [hexS]
  split
  · show 1 ≤ _
    omega
  · show (hexL b.data.toList).toArray.size ≤ _
    rw [List.size_toArray, hexL_length, Array.length_toList]
    have : b.data.size = b.size := rfl
    omega
abbrev Lands (f : Nat) (args : Array Value) (v : Value) : Prop := ∀ W, Calls Tryz.prog f args W fun e w' => e = .returned v ∧ Below W.heap.size W w'

end Go.Proofs.YtoihocbnhoniaaaGreatDoor.Wf
