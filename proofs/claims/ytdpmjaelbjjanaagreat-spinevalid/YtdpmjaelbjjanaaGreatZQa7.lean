/- Contracts: spec.within, sized, room, what is right, and all. Contracts: spec.all at each kind of element. Contracts: spec.room and spec.Right. -/
import Derived.Test.YtdpmjaelbjjanaaGreatZQa1
import Derived.Test.YtdpmjaelbjjanaaGreatZQa5
import Derived.Test.YtdpmjaelbjjanaaGreatZQa6
import Derived.Test.YtdpmjaelbjjanaaGreatProg
import Derived.BigQuiet
namespace Go.Proofs.YtdpmjaelbjjanaaGreat.Wf
open Go.RowKit
set_option linter.unusedVariables false
set_option linter.unusedSimpArgs false

theorem low_alloc (w : World) (o : Obj) : Below w.heap.size w (w.alloc o) := (Below.refl _ w).alloc (Nat.le_refl _) o
theorem alloc_size (w : World) (o : Obj) : (w.alloc o).heap.size = w.heap.size + 1 := by simp
def inW (most : Int) (z : Int) : Bool := decide (0 ≤ z) && decide (z ≤ most)
theorem all_take {α : Type} (p : α → Bool) (l : List α) (d : α) (k : Nat) (h : k < l.length) (h1 : (l.take k).all p = true) (h2 : p (l.getD k d) = true) : (l.take (k + 1)).all p = true := by
  rw [List.take_succ_eq_append_getElem h, List.all_append, h1]
  simpa [List.getD_eq_getElem?_getD, h] using h2
theorem all_not {α : Type} (p : α → Bool) (l : List α) (d : α) (k : Nat) (h : k < l.length) (h2 : p (l.getD k d) = false) : l.all p = false := by
  rw [List.all_eq_false]
  refine ⟨l[k], List.getElem_mem h, ?_⟩
  simpa [List.getD_eq_getElem?_getD, h] using h2

/-! Rows of structs that are read. -/
def gM (l : List (Int × Int)) (i : Nat) : Int × Int := l.getD i (0, 0)
def gS (l : List (Int × ByteArray)) (i : Nat) : Int × ByteArray := l.getD i (0, ⟨#[]⟩)
def gC (l : List (Int × Int × Int)) (i : Nat) : Int × Int × Int := l.getD i (0, 0, 0)
def RdM (w : World) (ao : Option Addr) (n : Nat) (l : List (Int × Int)) : Prop := l.length = n ∧ (n = 0 ∨ ∃ b off, ao = some ⟨b, off, none⟩ ∧ b < w.heap.size ∧ ∀ i, i < n → w.cell? ⟨b, off + i * 2, none⟩ = some (.int .i64 (gM l i).1) ∧ w.cell? ⟨b, off + i * 2 + 1, none⟩ = some (.int .i64 (gM l i).2))
def RdS (w : World) (ao : Option Addr) (n : Nat) (l : List (Int × ByteArray)) : Prop := l.length = n ∧ (n = 0 ∨ ∃ b off, ao = some ⟨b, off, none⟩ ∧ b < w.heap.size ∧ ∀ i, i < n → w.cell? ⟨b, off + i * 2, none⟩ = some (.int .i64 (gS l i).1) ∧ w.cell? ⟨b, off + i * 2 + 1, none⟩ = some (.string (gS l i).2))
def RdC (w : World) (ao : Option Addr) (n : Nat) (l : List (Int × Int × Int)) : Prop := l.length = n ∧ (n = 0 ∨ ∃ b off, ao = some ⟨b, off, none⟩ ∧ b < w.heap.size ∧ ∀ i, i < n → w.cell? ⟨b, off + i * 3, none⟩ = some (.int .i64 (gC l i).1) ∧ w.cell? ⟨b, off + i * 3 + 1, none⟩ = some (.int .i64 (gC l i).2.1) ∧ w.cell? ⟨b, off + i * 3 + 2, none⟩ = some (.int .i64 (gC l i).2.2))
theorem RdM.kept {w w' : World} {ao : Option Addr} {n : Nat} {l : List (Int × Int)} (h : RdM w ao n l) (hb : Below w.heap.size w w') : RdM w' ao n l := by
  refine ⟨h.1, ?_⟩
  rcases h.2 with h | ⟨b, off, rfl, hlt, hc⟩
  · exact Or.inl h
  · exact Or.inr ⟨b, off, rfl, Nat.lt_of_lt_of_le hlt hb.size, fun i hi => ⟨(bcell hb hlt).trans (hc i hi).1, (bcell hb hlt).trans (hc i hi).2⟩⟩
theorem RdS.kept {w w' : World} {ao : Option Addr} {n : Nat} {l : List (Int × ByteArray)} (h : RdS w ao n l) (hb : Below w.heap.size w w') : RdS w' ao n l := by
  refine ⟨h.1, ?_⟩
  rcases h.2 with h | ⟨b, off, rfl, hlt, hc⟩
  · exact Or.inl h
  · exact Or.inr ⟨b, off, rfl, Nat.lt_of_lt_of_le hlt hb.size, fun i hi => ⟨(bcell hb hlt).trans (hc i hi).1, (bcell hb hlt).trans (hc i hi).2⟩⟩
theorem RdC.kept {w w' : World} {ao : Option Addr} {n : Nat} {l : List (Int × Int × Int)} (h : RdC w ao n l) (hb : Below w.heap.size w w') : RdC w' ao n l := by
  refine ⟨h.1, ?_⟩
  rcases h.2 with h | ⟨b, off, rfl, hlt, hc⟩
  · exact Or.inl h
  · exact Or.inr ⟨b, off, rfl, Nat.lt_of_lt_of_le hlt hb.size, fun i hi => ⟨(bcell hb hlt).trans (hc i hi).1, (bcell hb hlt).trans (hc i hi).2.1, (bcell hb hlt).trans (hc i hi).2.2⟩⟩

/-! Within. -/
theorem closure_any (most z : Int) (p : Nat) (w : World) (c0 : w.cell? ⟨p, 0, none⟩ = some (.int .i64 most)) :
    Calls Tryz.prog 155 #[.int .i64 z, .pointer (some ⟨p, 0, none⟩)] w fun e w' => e = .returned (.bool (inW most z)) ∧ w' = w := by
  unfold inW
  by_cases h0 : 0 ≤ z
  · by_cases h1 : z ≤ most
    · rw [decide_eq_true h0, decide_eq_true h1]
      go_enter Tryz.func155, Tryz.ntmps155
      go_wp2
      go_ret
      exact ⟨rfl, rfl⟩
    · rw [decide_eq_true h0, decide_eq_false h1]
      go_enter Tryz.func155, Tryz.ntmps155
      go_wp2
      go_ret
      exact ⟨rfl, rfl⟩
  · rw [decide_eq_false h0, Bool.false_and]
    go_enter Tryz.func155, Tryz.ntmps155
    go_wp2
    go_ret
    exact ⟨rfl, rfl⟩

set_option maxHeartbeats 1600000 in
set_option maxRecDepth 20000 in
theorem all_int (most : Int) (p : Nat) (ao : Option Addr) (n cap : Nat) (zs : List Int) (w : World) (c0 : w.cell? ⟨p, 0, none⟩ = some (.int .i64 most)) (hR : Reads .i64 w ao n zs) (hn : n ≤ 1000) :
    Calls Tryz.prog 154 #[.slice ao n cap, .int .i64 n, .func (.func 155) #[] #[.pointer (some ⟨p, 0, none⟩)]] w fun e w' => e = .returned (.bool (zs.all (inW most))) ∧ w' = w := by
  have HR := hide hR
  have HC := hide c0
  clear hR c0
  go_enter Tryz.func154, Tryz.ntmps154
  go_wp2
  go_loopw [8, 15, 16, 17, 18, 19, 20, 21, 22, 23] (fun _ i _ _ _ _ _ _ _ _ wr => ∃ (k : Nat), i = .int .i64 k ∧ k ≤ n ∧ Hid ((zs.take k).all (inW most) = true) ∧ wr = w) (fun _ i _ _ _ _ _ _ _ _ _ => n - (intOf i).toNat)
  case atStart => exact ⟨0, rfl, Nat.zero_le _, hide (by simp), rfl⟩
  case round =>
    obtain ⟨k, rfl, hk, HL, rfl⟩ := hrel
    by_cases hlt : k < n
    · have hk0 : (0 : Int) ≤ (k : Int) := by omega
      have hk1 : (k : Int) < (n : Int) := by omega
      obtain ⟨b, off, rfl, hc⟩ := HR.out.at hlt
      have hck := hc k hlt
      clear hc
      have HA := hide (all_take (inW most) zs 0 k (by rw [HR.out.1]; exact hlt) HL.out)
      have HN := hide (all_not (inW most) zs 0 k (by rw [HR.out.1]; exact hlt))
      generalize zs.getD k 0 = z at hck HA HN
      have KC := closure_any most z p wr HC.out
      go_wp2_with fail
      refine KC.mono ?_
      rintro e w1 ⟨rfl, rfl⟩
      cases hz : inW most z with
      | true =>
        have HZ := hide hz
        clear hz KC
        go_wp2
        case roundEnd => exact ⟨⟨k + 1, by go_num, by omega, hide (HA.out HZ.out), trivial⟩, by simp [intOf]; omega⟩
      | false =>
        have HZ := hide hz
        clear hz KC
        go_wp2
        go_ret
        rw [HN.out HZ.out]
        exact ⟨rfl, rfl⟩
    · have hkn : k = n := by omega
      subst hkn
      have HT : Hid (zs.all (inW most) = true) := hide (by have := HL.out; rwa [List.take_of_length_le (by rw [HR.out.1]; exact Nat.le_refl _)] at this)
      clear hlt hk
      go_wp2
      go_ret
      rw [HT.out]
      exact ⟨rfl, rfl⟩

set_option maxHeartbeats 1600000 in
set_option maxRecDepth 20000 in
theorem within_any (most : Int) (ao : Option Addr) (n cap : Nat) (zs : List Int) (w : World) (hR : Reads .i64 w ao n zs) (hn : n ≤ 1000) :
    Calls Tryz.prog 129 #[.int .i64 most, .slice ao n cap] w fun e w' => e = .returned (.bool (zs.all (inW most))) ∧ Below w.heap.size w w' := by
  have hb0 := low_alloc w (.cells #[.int .i64 most] 3)
  have K := all_int most w.heap.size ao n cap zs (w.alloc (.cells #[.int .i64 most] 3)) (cell_new w (.int .i64 most) 3 rfl) (hR.kept hb0) hn
  clear hR
  generalize hr : zs.all (inW most) = r at K ⊢
  go_enter Tryz.func129, Tryz.ntmps129
  go_wp2_with fail
  refine K.mono ?_
  rintro e w1 ⟨rfl, rfl⟩
  go_wp2
  go_ret
  exact ⟨rfl, hb0⟩
theorem reads1 (w : World) (x : Int) (T : Nat) : Reads .i64 (w.alloc (.cells #[.int .i64 x] T)) (some ⟨w.heap.size, 0, none⟩) 1 [x] := by
  refine ⟨rfl, Or.inr ⟨w.heap.size, 0, rfl, fun i hi => ?_⟩⟩
  obtain rfl : i = 0 := by omega
  simp
theorem reads2 (w : World) (x y : Int) (T : Nat) : Reads .i64 (w.alloc (.cells #[.int .i64 x, .int .i64 y] T)) (some ⟨w.heap.size, 0, none⟩) 2 [x, y] := by
  refine ⟨rfl, Or.inr ⟨w.heap.size, 0, rfl, fun i hi => ?_⟩⟩
  match i, hi with
  | 0, _ => simp
  | 1, _ => simp
theorem sized_any (s : ByteArray) (least : Int) (w : World) :
    Calls Tryz.prog 130 #[.string s, .int .i64 least] w fun e w' => e = .returned (.bool (decide (least ≤ (s.size : Int)) && decide ((s.size : Int) ≤ 64))) ∧ w' = w := by
  by_cases h0 : least ≤ (s.size : Int)
  · by_cases h1 : (s.size : Int) ≤ 64
    · rw [decide_eq_true h0, decide_eq_true h1]
      go_enter Tryz.func130, Tryz.ntmps130
      go_wp2
      go_ret
      exact ⟨rfl, rfl⟩
    · rw [decide_eq_true h0, decide_eq_false h1]
      go_enter Tryz.func130, Tryz.ntmps130
      go_wp2
      go_ret
      exact ⟨rfl, rfl⟩
  · rw [decide_eq_false h0, Bool.false_and]
    go_enter Tryz.func130, Tryz.ntmps130
    go_wp2
    go_ret
    exact ⟨rfl, rfl⟩

/-! What is right. -/
set_option maxHeartbeats 1600000 in
set_option maxRecDepth 20000 in
theorem rightMerge_any (m : Int × Int) (w : World) :
    Calls Tryz.prog 99 #[.agg #[.int .i64 m.1, .int .i64 m.2]] w fun e w' => e = .returned (.bool (okM m)) ∧ Below w.heap.size w w' := by
  obtain ⟨x, y⟩ := m
  have hb0 := low_alloc w (.cells #[.int .i64 x, .int .i64 y] 77)
  have hb1 := hb0.trans ((low_alloc (w.alloc (.cells #[.int .i64 x, .int .i64 y] 77)) (.cells #[.int .i64 x, .int .i64 y] 3)).mono hb0.size)
  have K := within_any 999 _ 2 2 [x, y] _ (reads2 (w.alloc (.cells #[.int .i64 x, .int .i64 y] 77)) x y 3) (by omega)
  rw [show (⟨(w.alloc (.cells #[.int .i64 x, .int .i64 y] 77)).heap.size, 0, none⟩ : Addr) = ⟨w.heap.size + 1, 0, none⟩ by rw [alloc_size]] at K
  have hr : okM (x, y) = [x, y].all (inW 999) := by
    simp only [okM, inW, List.all_cons, List.all_nil, Bool.and_true, Bool.decide_and]
    simp only [Bool.and_assoc]
  rw [hr]
  generalize [x, y].all (inW 999) = r at K ⊢
  clear hr
  go_enter Tryz.func99, Tryz.ntmps99
  go_wp2_with fail
  refine K.mono ?_
  rintro e w1 ⟨rfl, hb⟩
  go_wp2
  go_ret
  exact ⟨rfl, hb1.trans (hb.mono hb1.size)⟩

set_option maxHeartbeats 1600000 in
set_option maxRecDepth 20000 in
theorem rightJoin_any (m : Int × Int) (w : World) :
    Calls Tryz.prog 107 #[.agg #[.int .i64 m.1, .int .i64 m.2]] w fun e w' => e = .returned (.bool (okJ m)) ∧ Below w.heap.size w w' := by
  obtain ⟨x, y⟩ := m
  have hb0 := low_alloc w (.cells #[.int .i64 x, .int .i64 y] 95)
  have hb1 := hb0.trans ((low_alloc (w.alloc (.cells #[.int .i64 x, .int .i64 y] 95)) (.cells #[.int .i64 x, .int .i64 y] 3)).mono hb0.size)
  have K := within_any 15 _ 2 2 [x, y] _ (reads2 (w.alloc (.cells #[.int .i64 x, .int .i64 y] 95)) x y 3) (by omega)
  rw [show (⟨(w.alloc (.cells #[.int .i64 x, .int .i64 y] 95)).heap.size, 0, none⟩ : Addr) = ⟨w.heap.size + 1, 0, none⟩ by rw [alloc_size]] at K
  have hr : okJ (x, y) = [x, y].all (inW 15) := by
    simp only [okJ, inW, List.all_cons, List.all_nil, Bool.and_true, Bool.decide_and]
    simp only [Bool.and_assoc]
  rw [hr]
  generalize [x, y].all (inW 15) = r at K ⊢
  clear hr
  go_enter Tryz.func107, Tryz.ntmps107
  go_wp2_with fail
  refine K.mono ?_
  rintro e w1 ⟨rfl, hb⟩
  go_wp2
  go_ret
  exact ⟨rfl, hb1.trans (hb.mono hb1.size)⟩

theorem rightToken_any (s : ByteArray) (w : World) :
    Calls Tryz.prog 101 #[.string s] w fun e w' => e = .returned (.bool (okT s)) ∧ w' = w := by
  have K := sized_any s 2 w
  have hr : (decide ((2 : Int) ≤ (s.size : Int)) && decide ((s.size : Int) ≤ 64)) = okT s := by
    unfold okT
    rw [← Bool.decide_and]
    exact decide_eq_decide.2 (by omega)
  rw [hr] at K
  generalize okT s = r at K ⊢
  clear hr
  go_enter Tryz.func101, Tryz.ntmps101
  go_wp2_with fail
  refine K.mono ?_
  rintro e w1 ⟨rfl, rfl⟩
  go_wp2
  go_ret
  exact ⟨rfl, rfl⟩

set_option maxHeartbeats 1600000 in
set_option maxRecDepth 20000 in
theorem rightSpecial_any (m : Int × ByteArray) (w : World) :
    Calls Tryz.prog 103 #[.agg #[.int .i64 m.1, .string m.2]] w fun e w' => e = .returned (.bool (okS m)) ∧ Below w.heap.size w w' := by
  obtain ⟨x, s⟩ := m
  have hb0 := low_alloc w (.cells #[.int .i64 x, .string s] 79)
  have c1 : (w.alloc (.cells #[.int .i64 x, .string s] 79)).cell? ⟨w.heap.size, 1, none⟩ = some (.string s) := by simp
  have hlt : w.heap.size < (w.alloc (.cells #[.int .i64 x, .string s] 79)).heap.size := by simp
  have hb2 := low_alloc (w.alloc (.cells #[.int .i64 x, .string s] 79)) (.cells #[.int .i64 x] 3)
  have hb1 := hb0.trans (hb2.mono hb0.size)
  have d1 := (bcell hb2 hlt).trans c1
  have K := within_any 1073741824 _ 1 1 [x] _ (reads1 (w.alloc (.cells #[.int .i64 x, .string s] 79)) x 3) (by omega)
  rw [show (⟨(w.alloc (.cells #[.int .i64 x, .string s] 79)).heap.size, 0, none⟩ : Addr) = ⟨w.heap.size + 1, 0, none⟩ by rw [alloc_size]] at K
  have hr : okS (x, s) = ([x].all (inW 1073741824) && (decide ((1 : Int) ≤ (s.size : Int)) && decide ((s.size : Int) ≤ 64))) := by
    simp only [okS, inW, List.all_cons, List.all_nil, Bool.and_true]
    simp only [← Bool.decide_and]
    exact decide_eq_decide.2 (by omega)
  rw [hr]
  have hlt1 : w.heap.size < ((w.alloc (.cells #[.int .i64 x, .string s] 79)).alloc (.cells #[.int .i64 x] 3)).heap.size := Nat.lt_of_lt_of_le hlt hb2.size
  generalize hq : [x].all (inW 1073741824) = r at K ⊢
  generalize ht : (decide ((1 : Int) ≤ (s.size : Int)) && decide ((s.size : Int) ≤ 64)) = q
  have HT := hide ht
  clear hr hq ht hb0 c1 hlt hb2
  go_enter Tryz.func103, Tryz.ntmps103
  go_wp2_with fail
  refine K.mono ?_
  rintro e w1 ⟨rfl, hb⟩
  have e1 := (bcell hb hlt1).trans d1
  have hb3 := hb1.trans (hb.mono hb1.size)
  clear K d1 hb hb1 hlt1
  cases r with
  | false =>
    go_wp2
    go_ret
    exact ⟨rfl, hb3⟩
  | true =>
    have K2 := sized_any s 1 w1
    rw [HT.out] at K2
    go_wp2_with fail
    refine K2.mono ?_
    rintro e w2 ⟨rfl, rfl⟩
    go_wp2
    go_ret
    exact ⟨rfl, hb3⟩

set_option maxHeartbeats 1600000 in
set_option maxRecDepth 20000 in
theorem rightClass_any (m : Int × Int × Int) (w : World) :
    Calls Tryz.prog 105 #[.agg #[.int .i64 m.1, .int .i64 m.2.1, .int .i64 m.2.2]] w fun e w' => e = .returned (.bool (okC m)) ∧ Below w.heap.size w w' := by
  obtain ⟨x, y, z⟩ := m
  have hr : okC (x, y, z) = (([x].all (inW y) && [y].all (inW 255)) && [z].all (inW 15)) := by
    simp only [okC, inW, List.all_cons, List.all_nil, Bool.and_true]
    simp only [← Bool.decide_and]
    exact decide_eq_decide.2 (by omega)
  rw [hr]
  have K1 : ∀ W : World, Calls Tryz.prog 129 #[.int .i64 y, .slice (some ⟨W.heap.size, 0, none⟩) 1 1] (W.alloc (.cells #[.int .i64 x] 3)) fun e w' => e = .returned (.bool ([x].all (inW y))) ∧ Below (W.alloc (.cells #[.int .i64 x] 3)).heap.size (W.alloc (.cells #[.int .i64 x] 3)) w' := fun W => within_any y _ 1 1 [x] _ (reads1 W x 3) (by omega)
  have K2 : ∀ W : World, Calls Tryz.prog 129 #[.int .i64 255, .slice (some ⟨W.heap.size, 0, none⟩) 1 1] (W.alloc (.cells #[.int .i64 y] 3)) fun e w' => e = .returned (.bool ([y].all (inW 255))) ∧ Below (W.alloc (.cells #[.int .i64 y] 3)).heap.size (W.alloc (.cells #[.int .i64 y] 3)) w' := fun W => within_any 255 _ 1 1 [y] _ (reads1 W y 3) (by omega)
  have K3 : ∀ W : World, Calls Tryz.prog 129 #[.int .i64 15, .slice (some ⟨W.heap.size, 0, none⟩) 1 1] (W.alloc (.cells #[.int .i64 z] 3)) fun e w' => e = .returned (.bool ([z].all (inW 15))) ∧ Below (W.alloc (.cells #[.int .i64 z] 3)).heap.size (W.alloc (.cells #[.int .i64 z] 3)) w' := fun W => within_any 15 _ 1 1 [z] _ (reads1 W z 3) (by omega)
  generalize [x].all (inW y) = r1 at K1 ⊢
  generalize [y].all (inW 255) = r2 at K2 ⊢
  generalize [z].all (inW 15) = r3 at K3 ⊢
  have HK1 := hide K1
  have HK2 := hide K2
  have HK3 := hide K3
  clear hr K1 K2 K3
  have hb0 := low_alloc w (.cells #[.int .i64 x, .int .i64 y, .int .i64 z] 130)
  have c1 : (w.alloc (.cells #[.int .i64 x, .int .i64 y, .int .i64 z] 130)).cell? ⟨w.heap.size, 1, none⟩ = some (.int .i64 y) := by simp
  have c2 : (w.alloc (.cells #[.int .i64 x, .int .i64 y, .int .i64 z] 130)).cell? ⟨w.heap.size, 2, none⟩ = some (.int .i64 z) := by simp
  have hlt : w.heap.size < (w.alloc (.cells #[.int .i64 x, .int .i64 y, .int .i64 z] 130)).heap.size := by simp
  have K0 := HK1.out (w.alloc (.cells #[.int .i64 x, .int .i64 y, .int .i64 z] 130))
  rw [show (⟨(w.alloc (.cells #[.int .i64 x, .int .i64 y, .int .i64 z] 130)).heap.size, 0, none⟩ : Addr) = ⟨w.heap.size + 1, 0, none⟩ by rw [alloc_size]] at K0
  have HC1 := hide c1
  have HC2 := hide c2
  clear c1 c2
  go_enter Tryz.func105, Tryz.ntmps105
  go_wp2_with fail
  refine K0.mono ?_
  rintro e w1 ⟨rfl, hb⟩
  have hb1 : Below (w.alloc (.cells #[.int .i64 x, .int .i64 y, .int .i64 z] 130)).heap.size (w.alloc (.cells #[.int .i64 x, .int .i64 y, .int .i64 z] 130)) w1 := (low_alloc _ _).trans (hb.mono (low_alloc _ _).size)
  have d1 := (bcell hb1 hlt).trans HC1.out
  have d2 := (bcell hb1 hlt).trans HC2.out
  have hb01 := hb0.trans (hb1.mono hb0.size)
  have hlt1 := Nat.lt_of_lt_of_le hlt hb1.size
  clear hb hb1 HC1 HC2 hb0 hlt K0
  cases r1 with
  | false =>
    go_wp2
    go_ret
    exact ⟨rfl, hb01⟩
  | true =>
    go_wp2_with fail
    refine (HK2.out w1).mono ?_
    rintro e w2 ⟨rfl, hb⟩
    have hb1 : Below w1.heap.size w1 w2 := (low_alloc w1 _).trans (hb.mono (low_alloc w1 _).size)
    have e2 := (bcell hb1 hlt1).trans d2
    have hb02 := hb01.trans (hb1.mono hb01.size)
    clear hb hb1 d1 d2
    cases r2 with
    | false =>
      go_wp2
      go_ret
      exact ⟨rfl, hb02⟩
    | true =>
      go_wp2_with fail
      refine (HK3.out w2).mono ?_
      rintro e w3 ⟨rfl, hb⟩
      have hb1 : Below w2.heap.size w2 w3 := (low_alloc w2 _).trans (hb.mono (low_alloc w2 _).size)
      go_wp2
      go_ret
      exact ⟨rfl, hb02.trans (hb1.mono hb02.size)⟩
end Go.Proofs.YtdpmjaelbjjanaaGreat.Wf

namespace Go.Proofs.YtdpmjaelbjjanaaGreat.Wf
open Go.RowKit
set_option linter.unusedVariables false
set_option linter.unusedSimpArgs false

set_option maxHeartbeats 1600000 in
set_option maxRecDepth 20000 in
theorem allMerge_any (ao : Option Addr) (n cap : Nat) (l : List (Int × Int)) (room : Int) (w : World) (hR : RdM w ao n l) (hrm : room ≤ 1000) :
    Calls Tryz.prog 97 #[.slice ao n cap, .int .i64 room, .func (.func 99) #[] #[]] w fun e w' => e = .returned (.bool (decide ((n : Int) ≤ room) && l.all okM)) ∧ Below w.heap.size w w' := by
  have HR := hide hR
  clear hR
  by_cases hroom : (n : Int) ≤ room
  case neg =>
    have h1 : room < (n : Int) := by omega
    rw [decide_eq_false hroom]
    go_enter Tryz.func97, Tryz.ntmps97
    go_wp2
    go_ret
    exact ⟨rfl, Below.refl _ _⟩
  rw [decide_eq_true hroom, Bool.true_and]
  have h1 : ¬ room < (n : Int) := by omega
  have hn : n ≤ 1000 := by omega
  clear hrm
  go_enter Tryz.func97, Tryz.ntmps97
  go_wp2
  go_loopw [8, 15, 16, 17, 18, 19, 20, 21, 22, 23] (fun _ i _ _ _ _ _ _ _ _ wr => ∃ (k : Nat), i = .int .i64 k ∧ k ≤ n ∧ Hid ((l.take k).all okM = true) ∧ Below w.heap.size w wr) (fun _ i _ _ _ _ _ _ _ _ _ => n - (intOf i).toNat)
  case atStart => exact ⟨0, rfl, Nat.zero_le _, hide (by simp), Below.refl _ _⟩
  case round =>
    obtain ⟨k, rfl, hk, HL, hbw⟩ := hrel
    by_cases hlt : k < n
    · have hk0 : (0 : Int) ≤ (k : Int) := by omega
      have hk1 : (k : Int) < (n : Int) := by omega
      rcases (HR.out.kept hbw).2 with h0 | ⟨b, off, rfl, hbl, hc⟩
      · omega
      have hck := hc k hlt
      clear hc
      have HA := hide (all_take okM l (0, 0) k (by rw [HR.out.1]; exact hlt) HL.out)
      have HN := hide (all_not okM l (0, 0) k (by rw [HR.out.1]; exact hlt))
      change wr.cell? ⟨b, off + k * 2, none⟩ = some (.int .i64 (l.getD k (0, 0)).1) ∧ wr.cell? ⟨b, off + k * 2 + 1, none⟩ = some (.int .i64 (l.getD k (0, 0)).2) at hck
      generalize l.getD k (0, 0) = m at hck HA HN
      obtain ⟨k0, k1⟩ := hck
      have KC : ∀ W : World, Calls Tryz.prog 99 #[.agg #[.int .i64 m.1, .int .i64 m.2]] W fun e w' => e = .returned (.bool (okM m)) ∧ Below W.heap.size W w' := fun W => rightMerge_any m W
      have HKC := hide KC
      clear KC
      go_wp2_with fail
      refine (HKC.out _).mono ?_
      rintro e w1 ⟨rfl, hb1⟩
      have HB : Hid (Below w.heap.size w w1) := hide (hbw.trans (((low_alloc wr _).trans (hb1.mono (low_alloc wr _).size)).mono hbw.size))
      clear hb1
      generalize hz : okM m = z
      cases z with
      | true =>
        have HZ := hide hz
        clear hz
        go_wp2
        case roundEnd => exact ⟨⟨k + 1, by go_num, by omega, hide (HA.out HZ.out), HB.out⟩, by simp [intOf]; omega⟩
      | false =>
        have HZ := hide hz
        clear hz
        go_wp2
        go_ret
        rw [HN.out HZ.out]
        exact ⟨rfl, HB.out⟩
    · have hkn : k = n := by omega
      subst hkn
      have HT : Hid (l.all okM = true) := hide (by have := HL.out; rwa [List.take_of_length_le (by rw [HR.out.1]; exact Nat.le_refl _)] at this)
      clear hlt hk
      go_wp2
      go_ret
      rw [HT.out]
      exact ⟨rfl, hbw⟩

set_option maxHeartbeats 1600000 in
set_option maxRecDepth 20000 in
theorem allToken_any (ao : Option Addr) (n cap : Nat) (l : List (ByteArray)) (room : Int) (w : World) (hR : RdT w ao n l) (hrm : room ≤ 1000) :
    Calls Tryz.prog 100 #[.slice ao n cap, .int .i64 room, .func (.func 101) #[] #[]] w fun e w' => e = .returned (.bool (decide ((n : Int) ≤ room) && l.all okT)) ∧ Below w.heap.size w w' := by
  have HR := hide hR
  clear hR
  by_cases hroom : (n : Int) ≤ room
  case neg =>
    have h1 : room < (n : Int) := by omega
    rw [decide_eq_false hroom]
    go_enter Tryz.func100, Tryz.ntmps100
    go_wp2
    go_ret
    exact ⟨rfl, Below.refl _ _⟩
  rw [decide_eq_true hroom, Bool.true_and]
  have h1 : ¬ room < (n : Int) := by omega
  have hn : n ≤ 1000 := by omega
  clear hrm
  go_enter Tryz.func100, Tryz.ntmps100
  go_wp2
  go_loopw [8, 15, 16, 17, 18, 19, 20, 21, 22, 23] (fun _ i _ _ _ _ _ _ _ _ wr => ∃ (k : Nat), i = .int .i64 k ∧ k ≤ n ∧ Hid ((l.take k).all okT = true) ∧ Below w.heap.size w wr) (fun _ i _ _ _ _ _ _ _ _ _ => n - (intOf i).toNat)
  case atStart => exact ⟨0, rfl, Nat.zero_le _, hide (by simp), Below.refl _ _⟩
  case round =>
    obtain ⟨k, rfl, hk, HL, hbw⟩ := hrel
    by_cases hlt : k < n
    · have hk0 : (0 : Int) ≤ (k : Int) := by omega
      have hk1 : (k : Int) < (n : Int) := by omega
      rcases (HR.out.kept hbw).2 with h0 | ⟨b, off, rfl, hbl, hc⟩
      · omega
      have hck := hc k hlt
      clear hc
      have HA := hide (all_take okT l ⟨#[]⟩ k (by rw [HR.out.1]; exact hlt) HL.out)
      have HN := hide (all_not okT l ⟨#[]⟩ k (by rw [HR.out.1]; exact hlt))
      change wr.cell? ⟨b, off + k, none⟩ = some (.string (l.getD k ⟨#[]⟩)) at hck
      generalize l.getD k ⟨#[]⟩ = m at hck HA HN
      skip
      have KC : ∀ W : World, Calls Tryz.prog 101 #[.string m] W fun e w' => e = .returned (.bool (okT m)) ∧ w' = W := fun W => rightToken_any m W
      have HKC := hide KC
      clear KC
      go_wp2_with fail
      refine (HKC.out _).mono ?_
      rintro e w1 ⟨rfl, hb1⟩
      have HB : Hid (Below w.heap.size w w1) := hide (hb1 ▸ hbw)
      clear hb1
      generalize hz : okT m = z
      cases z with
      | true =>
        have HZ := hide hz
        clear hz
        go_wp2
        case roundEnd => exact ⟨⟨k + 1, by go_num, by omega, hide (HA.out HZ.out), HB.out⟩, by simp [intOf]; omega⟩
      | false =>
        have HZ := hide hz
        clear hz
        go_wp2
        go_ret
        rw [HN.out HZ.out]
        exact ⟨rfl, HB.out⟩
    · have hkn : k = n := by omega
      subst hkn
      have HT : Hid (l.all okT = true) := hide (by have := HL.out; rwa [List.take_of_length_le (by rw [HR.out.1]; exact Nat.le_refl _)] at this)
      clear hlt hk
      go_wp2
      go_ret
      rw [HT.out]
      exact ⟨rfl, hbw⟩

set_option maxHeartbeats 1600000 in
set_option maxRecDepth 20000 in
theorem allSpecial_any (ao : Option Addr) (n cap : Nat) (l : List (Int × ByteArray)) (room : Int) (w : World) (hR : RdS w ao n l) (hrm : room ≤ 1000) :
    Calls Tryz.prog 102 #[.slice ao n cap, .int .i64 room, .func (.func 103) #[] #[]] w fun e w' => e = .returned (.bool (decide ((n : Int) ≤ room) && l.all okS)) ∧ Below w.heap.size w w' := by
  have HR := hide hR
  clear hR
  by_cases hroom : (n : Int) ≤ room
  case neg =>
    have h1 : room < (n : Int) := by omega
    rw [decide_eq_false hroom]
    go_enter Tryz.func102, Tryz.ntmps102
    go_wp2
    go_ret
    exact ⟨rfl, Below.refl _ _⟩
  rw [decide_eq_true hroom, Bool.true_and]
  have h1 : ¬ room < (n : Int) := by omega
  have hn : n ≤ 1000 := by omega
  clear hrm
  go_enter Tryz.func102, Tryz.ntmps102
  go_wp2
  go_loopw [8, 15, 16, 17, 18, 19, 20, 21, 22, 23] (fun _ i _ _ _ _ _ _ _ _ wr => ∃ (k : Nat), i = .int .i64 k ∧ k ≤ n ∧ Hid ((l.take k).all okS = true) ∧ Below w.heap.size w wr) (fun _ i _ _ _ _ _ _ _ _ _ => n - (intOf i).toNat)
  case atStart => exact ⟨0, rfl, Nat.zero_le _, hide (by simp), Below.refl _ _⟩
  case round =>
    obtain ⟨k, rfl, hk, HL, hbw⟩ := hrel
    by_cases hlt : k < n
    · have hk0 : (0 : Int) ≤ (k : Int) := by omega
      have hk1 : (k : Int) < (n : Int) := by omega
      rcases (HR.out.kept hbw).2 with h0 | ⟨b, off, rfl, hbl, hc⟩
      · omega
      have hck := hc k hlt
      clear hc
      have HA := hide (all_take okS l (0, ⟨#[]⟩) k (by rw [HR.out.1]; exact hlt) HL.out)
      have HN := hide (all_not okS l (0, ⟨#[]⟩) k (by rw [HR.out.1]; exact hlt))
      change wr.cell? ⟨b, off + k * 2, none⟩ = some (.int .i64 (l.getD k (0, ⟨#[]⟩)).1) ∧ wr.cell? ⟨b, off + k * 2 + 1, none⟩ = some (.string (l.getD k (0, ⟨#[]⟩)).2) at hck
      generalize l.getD k (0, ⟨#[]⟩) = m at hck HA HN
      obtain ⟨k0, k1⟩ := hck
      have KC : ∀ W : World, Calls Tryz.prog 103 #[.agg #[.int .i64 m.1, .string m.2]] W fun e w' => e = .returned (.bool (okS m)) ∧ Below W.heap.size W w' := fun W => rightSpecial_any m W
      have HKC := hide KC
      clear KC
      go_wp2_with fail
      refine (HKC.out _).mono ?_
      rintro e w1 ⟨rfl, hb1⟩
      have HB : Hid (Below w.heap.size w w1) := hide (hbw.trans (((low_alloc wr _).trans (hb1.mono (low_alloc wr _).size)).mono hbw.size))
      clear hb1
      generalize hz : okS m = z
      cases z with
      | true =>
        have HZ := hide hz
        clear hz
        go_wp2
        case roundEnd => exact ⟨⟨k + 1, by go_num, by omega, hide (HA.out HZ.out), HB.out⟩, by simp [intOf]; omega⟩
      | false =>
        have HZ := hide hz
        clear hz
        go_wp2
        go_ret
        rw [HN.out HZ.out]
        exact ⟨rfl, HB.out⟩
    · have hkn : k = n := by omega
      subst hkn
      have HT : Hid (l.all okS = true) := hide (by have := HL.out; rwa [List.take_of_length_le (by rw [HR.out.1]; exact Nat.le_refl _)] at this)
      clear hlt hk
      go_wp2
      go_ret
      rw [HT.out]
      exact ⟨rfl, hbw⟩

set_option maxHeartbeats 1600000 in
set_option maxRecDepth 20000 in
theorem allClass_any (ao : Option Addr) (n cap : Nat) (l : List (Int × Int × Int)) (room : Int) (w : World) (hR : RdC w ao n l) (hrm : room ≤ 1000) :
    Calls Tryz.prog 104 #[.slice ao n cap, .int .i64 room, .func (.func 105) #[] #[]] w fun e w' => e = .returned (.bool (decide ((n : Int) ≤ room) && l.all okC)) ∧ Below w.heap.size w w' := by
  have HR := hide hR
  clear hR
  by_cases hroom : (n : Int) ≤ room
  case neg =>
    have h1 : room < (n : Int) := by omega
    rw [decide_eq_false hroom]
    go_enter Tryz.func104, Tryz.ntmps104
    go_wp2
    go_ret
    exact ⟨rfl, Below.refl _ _⟩
  rw [decide_eq_true hroom, Bool.true_and]
  have h1 : ¬ room < (n : Int) := by omega
  have hn : n ≤ 1000 := by omega
  clear hrm
  go_enter Tryz.func104, Tryz.ntmps104
  go_wp2
  go_loopw [8, 15, 16, 17, 18, 19, 20, 21, 22, 23] (fun _ i _ _ _ _ _ _ _ _ wr => ∃ (k : Nat), i = .int .i64 k ∧ k ≤ n ∧ Hid ((l.take k).all okC = true) ∧ Below w.heap.size w wr) (fun _ i _ _ _ _ _ _ _ _ _ => n - (intOf i).toNat)
  case atStart => exact ⟨0, rfl, Nat.zero_le _, hide (by simp), Below.refl _ _⟩
  case round =>
    obtain ⟨k, rfl, hk, HL, hbw⟩ := hrel
    by_cases hlt : k < n
    · have hk0 : (0 : Int) ≤ (k : Int) := by omega
      have hk1 : (k : Int) < (n : Int) := by omega
      rcases (HR.out.kept hbw).2 with h0 | ⟨b, off, rfl, hbl, hc⟩
      · omega
      have hck := hc k hlt
      clear hc
      have HA := hide (all_take okC l (0, 0, 0) k (by rw [HR.out.1]; exact hlt) HL.out)
      have HN := hide (all_not okC l (0, 0, 0) k (by rw [HR.out.1]; exact hlt))
      change wr.cell? ⟨b, off + k * 3, none⟩ = some (.int .i64 (l.getD k (0, 0, 0)).1) ∧ wr.cell? ⟨b, off + k * 3 + 1, none⟩ = some (.int .i64 (l.getD k (0, 0, 0)).2.1) ∧ wr.cell? ⟨b, off + k * 3 + 2, none⟩ = some (.int .i64 (l.getD k (0, 0, 0)).2.2) at hck
      generalize l.getD k (0, 0, 0) = m at hck HA HN
      obtain ⟨k0, k1, k2⟩ := hck
      have KC : ∀ W : World, Calls Tryz.prog 105 #[.agg #[.int .i64 m.1, .int .i64 m.2.1, .int .i64 m.2.2]] W fun e w' => e = .returned (.bool (okC m)) ∧ Below W.heap.size W w' := fun W => rightClass_any m W
      have HKC := hide KC
      clear KC
      go_wp2_with fail
      refine (HKC.out _).mono ?_
      rintro e w1 ⟨rfl, hb1⟩
      have HB : Hid (Below w.heap.size w w1) := hide (hbw.trans (((low_alloc wr _).trans (hb1.mono (low_alloc wr _).size)).mono hbw.size))
      clear hb1
      generalize hz : okC m = z
      cases z with
      | true =>
        have HZ := hide hz
        clear hz
        go_wp2
        case roundEnd => exact ⟨⟨k + 1, by go_num, by omega, hide (HA.out HZ.out), HB.out⟩, by simp [intOf]; omega⟩
      | false =>
        have HZ := hide hz
        clear hz
        go_wp2
        go_ret
        rw [HN.out HZ.out]
        exact ⟨rfl, HB.out⟩
    · have hkn : k = n := by omega
      subst hkn
      have HT : Hid (l.all okC = true) := hide (by have := HL.out; rwa [List.take_of_length_le (by rw [HR.out.1]; exact Nat.le_refl _)] at this)
      clear hlt hk
      go_wp2
      go_ret
      rw [HT.out]
      exact ⟨rfl, hbw⟩

set_option maxHeartbeats 1600000 in
set_option maxRecDepth 20000 in
theorem allJoin_any (ao : Option Addr) (n cap : Nat) (l : List (Int × Int)) (room : Int) (w : World) (hR : RdM w ao n l) (hrm : room ≤ 1000) :
    Calls Tryz.prog 106 #[.slice ao n cap, .int .i64 room, .func (.func 107) #[] #[]] w fun e w' => e = .returned (.bool (decide ((n : Int) ≤ room) && l.all okJ)) ∧ Below w.heap.size w w' := by
  have HR := hide hR
  clear hR
  by_cases hroom : (n : Int) ≤ room
  case neg =>
    have h1 : room < (n : Int) := by omega
    rw [decide_eq_false hroom]
    go_enter Tryz.func106, Tryz.ntmps106
    go_wp2
    go_ret
    exact ⟨rfl, Below.refl _ _⟩
  rw [decide_eq_true hroom, Bool.true_and]
  have h1 : ¬ room < (n : Int) := by omega
  have hn : n ≤ 1000 := by omega
  clear hrm
  go_enter Tryz.func106, Tryz.ntmps106
  go_wp2
  go_loopw [8, 15, 16, 17, 18, 19, 20, 21, 22, 23] (fun _ i _ _ _ _ _ _ _ _ wr => ∃ (k : Nat), i = .int .i64 k ∧ k ≤ n ∧ Hid ((l.take k).all okJ = true) ∧ Below w.heap.size w wr) (fun _ i _ _ _ _ _ _ _ _ _ => n - (intOf i).toNat)
  case atStart => exact ⟨0, rfl, Nat.zero_le _, hide (by simp), Below.refl _ _⟩
  case round =>
    obtain ⟨k, rfl, hk, HL, hbw⟩ := hrel
    by_cases hlt : k < n
    · have hk0 : (0 : Int) ≤ (k : Int) := by omega
      have hk1 : (k : Int) < (n : Int) := by omega
      rcases (HR.out.kept hbw).2 with h0 | ⟨b, off, rfl, hbl, hc⟩
      · omega
      have hck := hc k hlt
      clear hc
      have HA := hide (all_take okJ l (0, 0) k (by rw [HR.out.1]; exact hlt) HL.out)
      have HN := hide (all_not okJ l (0, 0) k (by rw [HR.out.1]; exact hlt))
      change wr.cell? ⟨b, off + k * 2, none⟩ = some (.int .i64 (l.getD k (0, 0)).1) ∧ wr.cell? ⟨b, off + k * 2 + 1, none⟩ = some (.int .i64 (l.getD k (0, 0)).2) at hck
      generalize l.getD k (0, 0) = m at hck HA HN
      obtain ⟨k0, k1⟩ := hck
      have KC : ∀ W : World, Calls Tryz.prog 107 #[.agg #[.int .i64 m.1, .int .i64 m.2]] W fun e w' => e = .returned (.bool (okJ m)) ∧ Below W.heap.size W w' := fun W => rightJoin_any m W
      have HKC := hide KC
      clear KC
      go_wp2_with fail
      refine (HKC.out _).mono ?_
      rintro e w1 ⟨rfl, hb1⟩
      have HB : Hid (Below w.heap.size w w1) := hide (hbw.trans (((low_alloc wr _).trans (hb1.mono (low_alloc wr _).size)).mono hbw.size))
      clear hb1
      generalize hz : okJ m = z
      cases z with
      | true =>
        have HZ := hide hz
        clear hz
        go_wp2
        case roundEnd => exact ⟨⟨k + 1, by go_num, by omega, hide (HA.out HZ.out), HB.out⟩, by simp [intOf]; omega⟩
      | false =>
        have HZ := hide hz
        clear hz
        go_wp2
        go_ret
        rw [HN.out HZ.out]
        exact ⟨rfl, HB.out⟩
    · have hkn : k = n := by omega
      subst hkn
      have HT : Hid (l.all okJ = true) := hide (by have := HL.out; rwa [List.take_of_length_le (by rw [HR.out.1]; exact Nat.le_refl _)] at this)
      clear hlt hk
      go_wp2
      go_ret
      rw [HT.out]
      exact ⟨rfl, hbw⟩
end Go.Proofs.YtdpmjaelbjjanaaGreat.Wf

namespace Go.Proofs.YtdpmjaelbjjanaaGreat.Wf
open Go.RowKit
set_option linter.unusedVariables false
set_option linter.unusedSimpArgs false

def roomI (k : Int) (r : Bool) : Int := if k = 1 then (if r then 0 else 744) else if k = 2 then (if r then 744 else 0) else if k = 3 then 32 else 64
theorem roomI_le (k : Int) (r : Bool) : roomI k r ≤ 1000 := by
  unfold roomI
  cases r <;> (repeat' split) <;> omega
theorem room_any (k : Int) (r : Bool) (w : World) :
    Calls Tryz.prog 98 #[.int .i64 k, .bool r] w fun e w' => e = .returned (.int .i64 (roomI k r)) ∧ w' = w := by
  unfold roomI
  by_cases h1 : k = 1
  · subst h1
    cases r <;> (go_enter Tryz.func98, Tryz.ntmps98; go_wp2; go_ret; exact ⟨rfl, rfl⟩)
  rw [if_neg h1]
  by_cases h2 : k = 2
  · subst h2
    cases r <;> (go_enter Tryz.func98, Tryz.ntmps98; go_wp2; go_ret; exact ⟨rfl, rfl⟩)
  rw [if_neg h2]
  by_cases h3 : k = 3
  · subst h3
    go_enter Tryz.func98, Tryz.ntmps98
    go_wp2
    go_ret
    exact ⟨rfl, rfl⟩
  rw [if_neg h3]
  go_enter Tryz.func98, Tryz.ntmps98
  go_wp2
  go_ret
  exact ⟨rfl, rfl⟩

/-- A spec's values. -/
structure Sv where
  r : Bool
  a1 : Option Addr
  n1 : Nat
  c1 : Nat
  a2 : Option Addr
  n2 : Nat
  c2 : Nat
  a3 : Option Addr
  n3 : Nat
  c3 : Nat
  a4 : Option Addr
  n4 : Nat
  c4 : Nat
  a5 : Option Addr
  n5 : Nat
  c5 : Nat
abbrev Sv.cs (x : Sv) : Array Value := #[.bool x.r, .slice x.a1 x.n1 x.c1, .slice x.a2 x.n2 x.c2, .slice x.a3 x.n3 x.c3, .slice x.a4 x.n4 x.c4, .slice x.a5 x.n5 x.c5]
/-- A spec lies in memory. -/
structure SpAt (w : World) (x : Sv) (s : Sp) : Prop where
  r : x.r = s.ranked
  ms : RdM w x.a1 x.n1 s.merges
  ts : RdT w x.a2 x.n2 s.tokens
  ss : RdS w x.a3 x.n3 s.specials
  cs : RdC w x.a4 x.n4 s.classes
  js : RdM w x.a5 x.n5 s.joins
theorem SpAt.kept {w w' : World} {x : Sv} {s : Sp} (h : SpAt w x s) (hb : Below w.heap.size w w') : SpAt w' x s :=
  ⟨h.r, h.ms.kept hb, h.ts.kept hb, h.ss.kept hb, h.cs.kept hb, h.js.kept hb⟩
def rightB (s : Sp) : Bool := ((((decide ((s.merges.length : Int) ≤ roomI 1 s.ranked) && s.merges.all okM) && (decide ((s.tokens.length : Int) ≤ roomI 2 s.ranked) && s.tokens.all okT)) && (decide ((s.specials.length : Int) ≤ roomI 3 s.ranked) && s.specials.all okS)) && (decide ((s.classes.length : Int) ≤ roomI 4 s.ranked) && s.classes.all okC)) && (decide ((s.joins.length : Int) ≤ roomI 5 s.ranked) && s.joins.all okJ)
theorem rightB_iff (s : Sp) : rightB s = true ↔ s.Right := by
  unfold rightB
  simp only [Bool.and_eq_true, decide_eq_true_eq, List.all_eq_true]
  have h1 : ((s.merges.length : Int) ≤ roomI 1 s.ranked) ↔ s.merges.length ≤ roomM s.ranked := by
    unfold roomI roomM
    cases s.ranked <;> simp <;> omega
  have h2 : ((s.tokens.length : Int) ≤ roomI 2 s.ranked) ↔ s.tokens.length ≤ roomT s.ranked := by
    unfold roomI roomT
    cases s.ranked <;> simp <;> omega
  have h3 : ((s.specials.length : Int) ≤ roomI 3 s.ranked) ↔ s.specials.length ≤ 32 := by
    unfold roomI
    simp
    omega
  have h4 : ((s.classes.length : Int) ≤ roomI 4 s.ranked) ↔ s.classes.length ≤ 64 := by
    unfold roomI
    simp
    omega
  have h5 : ((s.joins.length : Int) ≤ roomI 5 s.ranked) ↔ s.joins.length ≤ 64 := by
    unfold roomI
    simp
    omega
  rw [h1, h2, h3, h4, h5]
  constructor
  · rintro ⟨⟨⟨⟨⟨a, b⟩, c, d⟩, e, f⟩, g, h⟩, i, j⟩
    exact ⟨a, b, c, d, e, f, g, h, i, j⟩
  · rintro ⟨a, b, c, d, e, f, g, h, i, j⟩
    exact ⟨⟨⟨⟨⟨a, b⟩, c, d⟩, e, f⟩, g, h⟩, i, j⟩

/-- A spec in a box. -/
def BxS (q : Nat) (x : Sv) (W : World) : Prop := W.cell? ⟨q, 0, none⟩ = some (.bool x.r) ∧ W.cell? ⟨q, 1, none⟩ = some (.slice x.a1 x.n1 x.c1) ∧ W.cell? ⟨q, 2, none⟩ = some (.slice x.a2 x.n2 x.c2) ∧ W.cell? ⟨q, 3, none⟩ = some (.slice x.a3 x.n3 x.c3) ∧ W.cell? ⟨q, 4, none⟩ = some (.slice x.a4 x.n4 x.c4) ∧ W.cell? ⟨q, 5, none⟩ = some (.slice x.a5 x.n5 x.c5)
theorem BxS.kept {q : Nat} {x : Sv} {W W' : World} (h : BxS q x W) (hq : q < W.heap.size) (hb : Below W.heap.size W W') : BxS q x W' :=
  ⟨(bcell hb hq).trans h.1, (bcell hb hq).trans h.2.1, (bcell hb hq).trans h.2.2.1, (bcell hb hq).trans h.2.2.2.1, (bcell hb hq).trans h.2.2.2.2.1, (bcell hb hq).trans h.2.2.2.2.2⟩
theorem BxS.new (w : World) (x : Sv) (T : TypeId) : BxS w.heap.size x (w.alloc (.cells x.cs T)) := by
  refine ⟨?_, ?_, ?_, ?_, ?_, ?_⟩ <;> simp
structure SpI (w : World) (q : Nat) (x : Sv) (s : Sp) (W : World) : Prop where
  sp : SpAt W x s
  box : BxS q x W
  lt : q < W.heap.size
  bel : Below w.heap.size w W
theorem SpI.next {w : World} {q : Nat} {x : Sv} {s : Sp} {W W' : World} (h : SpI w q x s W) (hb : Below W.heap.size W W') : SpI w q x s W' :=
  ⟨h.sp.kept hb, h.box.kept h.lt hb, Nat.lt_of_lt_of_le h.lt hb.size, h.bel.trans (hb.mono h.bel.size)⟩
theorem SpI.new {w : World} {x : Sv} {s : Sp} (h : SpAt w x s) (T : TypeId) : SpI w w.heap.size x s (w.alloc (.cells x.cs T)) :=
  ⟨h.kept (low_alloc _ _), BxS.new w x T, by simp, low_alloc _ _⟩

/-- A region that draws its order, in whatever class of worlds. -/
theorem region_class {P : Program} {α : Type} (f : α → World) {id : Nat} {Q : Exit → Act → World → Prop} {a : Act} {w : World} {l : List Oper} (hm : P.follows .mixedOrders = true) (hB : Region.lexB .any l.toArray = true) (p0 : α) (h0 : w.drew = f p0)
    (h : wpQuiet P l.toArray (fun w' => ∃ p : α, w' = f p) (fun a' => ∀ w', (∃ p : α, w' = f p) → Q .normal a' w') l a) : (Code.region id l.toArray true).wp P Q a w :=
  wp_region_quiet (C := fun w' => ∃ p : α, w' = f p) hm hB ⟨p0, h0⟩ (by simpa using h)
theorem below_drew {B : Nat} {w W : World} (h : Below B w W) : Below B w W.drew := ⟨h.os, h.tape, h.output, h.size, h.block⟩
theorem SpI.drew {w : World} {q : Nat} {x : Sv} {s : Sp} {W : World} (h : SpI w q x s W) : SpI w q x s W.drew :=
  h.next (below_drew (Below.refl _ _))
/-- A world in which a spec lies in a box. -/
structure SpC (w : World) (q : Nat) (x : Sv) (s : Sp) where
  W : World
  h : SpI w q x s W
theorem Calls.toC {P : Program} {f : FuncId} {args : Array Value} {w : World} {q : Nat} {x : Sv} {s : Sp} (p : SpC w q x s) {v : Value} (h : Calls P f args p.W fun e w' => e = .returned v ∧ Below p.W.heap.size p.W w') : Calls P f args p.W fun e w' => e = .returned v ∧ ∃ p' : SpC w q x s, w' = p'.W :=
  h.mono fun _ _ ⟨he, hb⟩ => ⟨he, ⟨_, p.h.next hb⟩, rfl⟩

set_option maxHeartbeats 4000000 in
set_option maxRecDepth 20000 in
theorem right_any (x : Sv) (s : Sp) (w : World) (h : SpAt w x s) :
    Calls Tryz.prog 63 #[.agg x.cs] w fun e w' => e = .returned (.bool (rightB s)) ∧ Below w.heap.size w w' := by
  have HS := hide (SpI.new h 81)
  have HK1 := hide (fun (p : SpC w w.heap.size x s) => Calls.toC p (allMerge_any x.a1 x.n1 x.c1 s.merges (roomI 1 x.r) p.W p.h.sp.ms (roomI_le _ _)))
  have HK2 := hide (fun (p : SpC w w.heap.size x s) => Calls.toC p (allToken_any x.a2 x.n2 x.c2 s.tokens (roomI 2 x.r) p.W p.h.sp.ts (roomI_le _ _)))
  have HK3 := hide (fun (p : SpC w w.heap.size x s) => Calls.toC p (allSpecial_any x.a3 x.n3 x.c3 s.specials (roomI 3 x.r) p.W p.h.sp.ss (roomI_le _ _)))
  have HK4 := hide (fun (p : SpC w w.heap.size x s) => Calls.toC p (allClass_any x.a4 x.n4 x.c4 s.classes (roomI 4 x.r) p.W p.h.sp.cs (roomI_le _ _)))
  have HK5 := hide (fun (p : SpC w w.heap.size x s) => Calls.toC p (allJoin_any x.a5 x.n5 x.c5 s.joins (roomI 5 x.r) p.W p.h.sp.js (roomI_le _ _)))
  have HR := hide (fun (k : Int) (p : SpC w w.heap.size x s) => Calls.toC p ((room_any k x.r p.W).mono fun e w' ⟨he, hw⟩ => ⟨he, hw ▸ Below.refl _ _⟩))
  have hr : rightB s = (((((decide ((x.n1 : Int) ≤ roomI 1 x.r) && s.merges.all okM) && (decide ((x.n2 : Int) ≤ roomI 2 x.r) && s.tokens.all okT)) && (decide ((x.n3 : Int) ≤ roomI 3 x.r) && s.specials.all okS)) && (decide ((x.n4 : Int) ≤ roomI 4 x.r) && s.classes.all okC)) && (decide ((x.n5 : Int) ≤ roomI 5 x.r) && s.joins.all okJ)) := by
    unfold rightB
    rw [h.r, ← h.ms.1, ← h.ts.1, ← h.ss.1, ← h.cs.1, ← h.js.1]
  rw [hr]
  clear hr h
  generalize (decide ((x.n1 : Int) ≤ roomI 1 x.r) && s.merges.all okM) = r1 at HK1 ⊢
  generalize (decide ((x.n2 : Int) ≤ roomI 2 x.r) && s.tokens.all okT) = r2 at HK2 ⊢
  generalize (decide ((x.n3 : Int) ≤ roomI 3 x.r) && s.specials.all okS) = r3 at HK3 ⊢
  generalize (decide ((x.n4 : Int) ≤ roomI 4 x.r) && s.classes.all okC) = r4 at HK4 ⊢
  generalize (decide ((x.n5 : Int) ≤ roomI 5 x.r) && s.joins.all okJ) = r5 at HK5 ⊢
  have arm : r1 = false ∨ (r1 = true ∧ r2 = false) ∨ (r1 = true ∧ r2 = true ∧ r3 = false) ∨ (r1 = true ∧ r2 = true ∧ r3 = true ∧ r4 = false) ∨ (r1 = true ∧ r2 = true ∧ r3 = true ∧ r4 = true) := by
    cases r1 <;> cases r2 <;> cases r3 <;> cases r4 <;> simp
  have e0 : ∀ p : SpC w w.heap.size x s, p.W.cell? ⟨w.heap.size, 0, none⟩ = some (.bool x.r) := fun p => p.h.box.1
  have e1 : ∀ p : SpC w w.heap.size x s, p.W.cell? ⟨w.heap.size, 1, none⟩ = some (.slice x.a1 x.n1 x.c1) := fun p => p.h.box.2.1
  have e2 : ∀ p : SpC w w.heap.size x s, p.W.cell? ⟨w.heap.size, 2, none⟩ = some (.slice x.a2 x.n2 x.c2) := fun p => p.h.box.2.2.1
  have e3 : ∀ p : SpC w w.heap.size x s, p.W.cell? ⟨w.heap.size, 3, none⟩ = some (.slice x.a3 x.n3 x.c3) := fun p => p.h.box.2.2.2.1
  have e4 : ∀ p : SpC w w.heap.size x s, p.W.cell? ⟨w.heap.size, 4, none⟩ = some (.slice x.a4 x.n4 x.c4) := fun p => p.h.box.2.2.2.2.1
  have e5 : ∀ p : SpC w w.heap.size x s, p.W.cell? ⟨w.heap.size, 5, none⟩ = some (.slice x.a5 x.n5 x.c5) := fun p => p.h.box.2.2.2.2.2
  have ne : Nonempty (SpC w w.heap.size x s) := ⟨⟨_, HS.out.drew⟩⟩
  rcases arm with rfl | ⟨rfl, rfl⟩ | ⟨rfl, rfl, rfl⟩ | ⟨rfl, rfl, rfl, rfl⟩ | ⟨rfl, rfl, rfl, rfl⟩
  all_goals
    go_enter Tryz.func63, Tryz.ntmps63
    go_wp2
    refine region_class (α := SpC w w.heap.size x s) SpC.W (by kernel_rfl) (by kernel_rfl) ⟨_, HS.out.drew⟩ rfl ?_
    repeat (go_big_quiet_step (first
      | (go_at_call 98; exact HR.out _ _)
      | (go_at_call 97; exact HK1.out _)
      | (go_at_call 100; exact HK2.out _)
      | (go_at_call 102; exact HK3.out _)
      | (go_at_call 104; exact HK4.out _)
      | (go_at_call 106; exact HK5.out _)))
    refine wpQuiet_nil ?_
    intro _ hw'
    obtain ⟨⟨W, hW⟩, rfl⟩ := hw'
    go_wp2
    go_ret
    exact ⟨rfl, hW.bel⟩
end Go.Proofs.YtdpmjaelbjjanaaGreat.Wf
