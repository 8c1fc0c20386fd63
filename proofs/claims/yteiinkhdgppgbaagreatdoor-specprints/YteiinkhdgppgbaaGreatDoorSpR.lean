/- Contracts: spec.within, sized, room, what is right, and all. -/
import Derived.Test.YteiinkhdgppgbaaGreatDoorBase
import Derived.Test.YteiinkhdgppgbaaGreatDoorSpM
import Derived.Test.YteiinkhdgppgbaaGreatDoorWordN
import Derived.Test.YteiinkhdgppgbaaGreatDoorProg
import Derived.BigQuiet
namespace Go.Proofs.YteiinkhdgppgbaaGreatDoor
open Go.RowKit
set_option linter.unusedVariables false
set_option linter.unusedSimpArgs false

theorem low_alloc (w : World) (o : Obj) : Below w.heap.size w (w.alloc o) := (Below.refl _ w).alloc (Nat.le_refl _) o
theorem alloc_size (w : World) (o : Obj) : (w.alloc o).heap.size = w.heap.size + 1 := by simp
def inW (most : Int) (z : Int) : Bool := decide (0 ≤ z) && decide (z ≤ most)
theorem all_take {α : Type} (p : α → Bool) (l : List α) (d : α) (k : Nat) (h : k < l.length) (h1 : (l.take k).all p = true) (h2 : p (l.getD k d) = true) : (l.take (k + 1)).all p = true := by
  rw [List.take_succ_eq_append_getElem h, List.all_append, h1]
  simpa [List.getD_eq_getElem?_getD, h] using h2
theorem all_not {α : Type} (p : α → Bool) (l : List α) (d : α) (k : Nat) (h : k < l.length) (h2 : p (l.getD k d) = false) : l.all p = false := by
  rw [List.all_eq_false]
  refine ⟨l[k], List.getElem_mem h, ?_⟩
  simpa [List.getD_eq_getElem?_getD, h] using h2

/-! Rows of structs that are read. -/
def gM (l : List (Int × Int)) (i : Nat) : Int × Int := l.getD i (0, 0)
def gS (l : List (Int × ByteArray)) (i : Nat) : Int × ByteArray := l.getD i (0, ⟨#[]⟩)
def gC (l : List (Int × Int × Int)) (i : Nat) : Int × Int × Int := l.getD i (0, 0, 0)
def RdM (w : World) (ao : Option Addr) (n : Nat) (l : List (Int × Int)) : Prop := l.length = n ∧ (n = 0 ∨ ∃ b off, ao = some ⟨b, off, none⟩ ∧ b < w.heap.size ∧ ∀ i, i < n → w.cell? ⟨b, off + i * 2, none⟩ = some (.int .i64 (gM l i).1) ∧ w.cell? ⟨b, off + i * 2 + 1, none⟩ = some (.int .i64 (gM l i).2))
def RdS (w : World) (ao : Option Addr) (n : Nat) (l : List (Int × ByteArray)) : Prop := l.length = n ∧ (n = 0 ∨ ∃ b off, ao = some ⟨b, off, none⟩ ∧ b < w.heap.size ∧ ∀ i, i < n → w.cell? ⟨b, off + i * 2, none⟩ = some (.int .i64 (gS l i).1) ∧ w.cell? ⟨b, off + i * 2 + 1, none⟩ = some (.string (gS l i).2))
def RdC (w : World) (ao : Option Addr) (n : Nat) (l : List (Int × Int × Int)) : Prop := l.length = n ∧ (n = 0 ∨ ∃ b off, ao = some ⟨b, off, none⟩ ∧ b < w.heap.size ∧ ∀ i, i < n → w.cell? ⟨b, off + i * 3, none⟩ = some (.int .i64 (gC l i).1) ∧ w.cell? ⟨b, off + i * 3 + 1, none⟩ = some (.int .i64 (gC l i).2.1) ∧ w.cell? ⟨b, off + i * 3 + 2, none⟩ = some (.int .i64 (gC l i).2.2))
theorem RdM.kept {w w' : World} {ao : Option Addr} {n : Nat} {l : List (Int × Int)} (h : RdM w ao n l) (hb : Below w.heap.size w w') : RdM w' ao n l := by
  refine ⟨h.1, ?_⟩
  rcases h.2 with h | ⟨b, off, rfl, hlt, hc⟩
  · exact Or.inl h
  · exact Or.inr ⟨b, off, rfl, Nat.lt_of_lt_of_le hlt hb.size, fun i hi => ⟨(bcell hb hlt).trans (hc i hi).1, (bcell hb hlt).trans (hc i hi).2⟩⟩
theorem RdS.kept {w w' : World} {ao : Option Addr} {n : Nat} {l : List (Int × ByteArray)} (h : RdS w ao n l) (hb : Below w.heap.size w w') : RdS w' ao n l := by
  refine ⟨h.1, ?_⟩
  rcases h.2 with h | ⟨b, off, rfl, hlt, hc⟩
  · exact Or.inl h
  · exact Or.inr ⟨b, off, rfl, Nat.lt_of_lt_of_le hlt hb.size, fun i hi => ⟨(bcell hb hlt).trans (hc i hi).1, (bcell hb hlt).trans (hc i hi).2⟩⟩
theorem RdC.kept {w w' : World} {ao : Option Addr} {n : Nat} {l : List (Int × Int × Int)} (h : RdC w ao n l) (hb : Below w.heap.size w w') : RdC w' ao n l := by
  refine ⟨h.1, ?_⟩
  rcases h.2 with h | ⟨b, off, rfl, hlt, hc⟩
  · exact Or.inl h
  · exact Or.inr ⟨b, off, rfl, Nat.lt_of_lt_of_le hlt hb.size, fun i hi => ⟨(bcell hb hlt).trans (hc i hi).1, (bcell hb hlt).trans (hc i hi).2.1, (bcell hb hlt).trans (hc i hi).2.2⟩⟩

/-! Within. -/
theorem closure_any (most z : Int) (p : Nat) (w : World) (c0 : w.cell? ⟨p, 0, none⟩ = some (.int .i64 most)) :
    Calls Tryz.prog 64 #[.int .i64 z, .pointer (some ⟨p, 0, none⟩)] w fun e w' => e = .returned (.bool (inW most z)) ∧ w' = w := by
  unfold inW
  by_cases h0 : 0 ≤ z
  · by_cases h1 : z ≤ most
    · rw [decide_eq_true h0, decide_eq_true h1]
      go_enter Tryz.func64, Tryz.ntmps64
      go_wp2
      go_ret
      exact ⟨rfl, rfl⟩
    · rw [decide_eq_true h0, decide_eq_false h1]
      go_enter Tryz.func64, Tryz.ntmps64
      go_wp2
      go_ret
      exact ⟨rfl, rfl⟩
  · rw [decide_eq_false h0, Bool.false_and]
    go_enter Tryz.func64, Tryz.ntmps64
    go_wp2
    go_ret
    exact ⟨rfl, rfl⟩

set_option maxHeartbeats 1600000 in
set_option maxRecDepth 20000 in
theorem all_int (most : Int) (p : Nat) (ao : Option Addr) (n cap : Nat) (zs : List Int) (w : World) (c0 : w.cell? ⟨p, 0, none⟩ = some (.int .i64 most)) (hR : Reads .i64 w ao n zs) (hn : n ≤ 1000) :
    Calls Tryz.prog 63 #[.slice ao n cap, .int .i64 n, .func (.func 64) #[] #[.pointer (some ⟨p, 0, none⟩)]] w fun e w' => e = .returned (.bool (zs.all (inW most))) ∧ w' = w := by
  have HR := hide hR
  have HC := hide c0
  clear hR c0
  go_enter Tryz.func63, Tryz.ntmps63
  go_wp2
  go_loopw [8, 15, 16, 17, 18, 19, 20, 21, 22, 23] (fun _ i _ _ _ _ _ _ _ _ wr => ∃ (k : Nat), i = .int .i64 k ∧ k ≤ n ∧ Hid ((zs.take k).all (inW most) = true) ∧ wr = w) (fun _ i _ _ _ _ _ _ _ _ _ => n - (intOf i).toNat)
  case atStart => exact ⟨0, rfl, Nat.zero_le _, hide (by simp), rfl⟩
  case round =>
    obtain ⟨k, rfl, hk, HL, rfl⟩ := hrel
    by_cases hlt : k < n
    · have hk0 : (0 : Int) ≤ (k : Int) := by omega
      have hk1 : (k : Int) < (n : Int) := by omega
      obtain ⟨b, off, rfl, hc⟩ := HR.out.at hlt
      have hck := hc k hlt
      clear hc
      have HA := hide (all_take (inW most) zs 0 k (by rw [HR.out.1]; exact hlt) HL.out)
      have HN := hide (all_not (inW most) zs 0 k (by rw [HR.out.1]; exact hlt))
      generalize zs.getD k 0 = z at hck HA HN
      have KC := closure_any most z p wr HC.out
      go_wp2_with fail
      refine KC.mono ?_
      rintro e w1 ⟨rfl, rfl⟩
      cases hz : inW most z with
      | true =>
        have HZ := hide hz
        clear hz KC
        go_wp2
        case roundEnd => exact ⟨⟨k + 1, by go_num, by omega, hide (HA.out HZ.out), trivial⟩, by simp [intOf]; omega⟩
      | false =>
        have HZ := hide hz
        clear hz KC
        go_wp2
        go_ret
        rw [HN.out HZ.out]
        exact ⟨rfl, rfl⟩
    · have hkn : k = n := by omega
      subst hkn
      have HT : Hid (zs.all (inW most) = true) := hide (by have := HL.out; rwa [List.take_of_length_le (by rw [HR.out.1]; exact Nat.le_refl _)] at this)
      clear hlt hk
      go_wp2
      go_ret
      rw [HT.out]
      exact ⟨rfl, rfl⟩

set_option maxHeartbeats 1600000 in
set_option maxRecDepth 20000 in
theorem within_any (most : Int) (ao : Option Addr) (n cap : Nat) (zs : List Int) (w : World) (hR : Reads .i64 w ao n zs) (hn : n ≤ 1000) :
    Calls Tryz.prog 48 #[.int .i64 most, .slice ao n cap] w fun e w' => e = .returned (.bool (zs.all (inW most))) ∧ Below w.heap.size w w' := by
  have hb0 := low_alloc w (.cells #[.int .i64 most] 3)
  have K := all_int most w.heap.size ao n cap zs (w.alloc (.cells #[.int .i64 most] 3)) (cell_new w (.int .i64 most) 3 rfl) (hR.kept hb0) hn
  clear hR
  generalize hr : zs.all (inW most) = r at K ⊢
  go_enter Tryz.func48, Tryz.ntmps48
  go_wp2_with fail
  refine K.mono ?_
  rintro e w1 ⟨rfl, rfl⟩
  go_wp2
  go_ret
  exact ⟨rfl, hb0⟩
theorem reads1 (w : World) (x : Int) (T : Nat) : Reads .i64 (w.alloc (.cells #[.int .i64 x] T)) (some ⟨w.heap.size, 0, none⟩) 1 [x] := by
  refine ⟨rfl, Or.inr ⟨w.heap.size, 0, rfl, fun i hi => ?_⟩⟩
  obtain rfl : i = 0 := by omega
  simp
theorem reads2 (w : World) (x y : Int) (T : Nat) : Reads .i64 (w.alloc (.cells #[.int .i64 x, .int .i64 y] T)) (some ⟨w.heap.size, 0, none⟩) 2 [x, y] := by
  refine ⟨rfl, Or.inr ⟨w.heap.size, 0, rfl, fun i hi => ?_⟩⟩
  match i, hi with
  | 0, _ => simp
  | 1, _ => simp
theorem reads3 (w : World) (x y z : Int) (T : Nat) : Reads .i64 (w.alloc (.cells #[.int .i64 x, .int .i64 y, .int .i64 z] T)) (some ⟨w.heap.size, 0, none⟩) 3 [x, y, z] := by
  refine ⟨rfl, Or.inr ⟨w.heap.size, 0, rfl, fun i hi => ?_⟩⟩
  match i, hi with
  | 0, _ => simp
  | 1, _ => simp
  | 2, _ => simp

theorem sized_any (s : ByteArray) (least : Int) (w : World) :
    Calls Tryz.prog 49 #[.string s, .int .i64 least] w fun e w' => e = .returned (.bool (decide (least ≤ (s.size : Int)) && decide ((s.size : Int) ≤ 64))) ∧ w' = w := by
  by_cases h0 : least ≤ (s.size : Int)
  · by_cases h1 : (s.size : Int) ≤ 64
    · rw [decide_eq_true h0, decide_eq_true h1]
      go_enter Tryz.func49, Tryz.ntmps49
      go_wp2
      go_ret
      exact ⟨rfl, rfl⟩
    · rw [decide_eq_true h0, decide_eq_false h1]
      go_enter Tryz.func49, Tryz.ntmps49
      go_wp2
      go_ret
      exact ⟨rfl, rfl⟩
  · rw [decide_eq_false h0, Bool.false_and]
    go_enter Tryz.func49, Tryz.ntmps49
    go_wp2
    go_ret
    exact ⟨rfl, rfl⟩

/-! What is right. -/
def vM (m : Int × Int) : Value := .agg #[.int .i64 m.1, .int .i64 m.2]
def vS (s : Int × ByteArray) : Value := .agg #[.int .i64 s.1, .string s.2]
def vC (c : Int × Int × Int) : Value := .agg #[.int .i64 c.1, .int .i64 c.2.1, .int .i64 c.2.2]

set_option maxHeartbeats 1600000 in
set_option maxRecDepth 20000 in
theorem rightMerge_any (m : Int × Int) (w : World) :
    Calls Tryz.prog 22 #[.agg #[.int .i64 m.1, .int .i64 m.2]] w fun e w' => e = .returned (.bool (okM m)) ∧ Below w.heap.size w w' := by
  obtain ⟨x, y⟩ := m
  have hb0 := low_alloc w (.cells #[.int .i64 x, .int .i64 y] 55)
  have hb1 := hb0.trans ((low_alloc (w.alloc (.cells #[.int .i64 x, .int .i64 y] 55)) (.cells #[.int .i64 x, .int .i64 y] 3)).mono hb0.size)
  have K := within_any 999 _ 2 2 [x, y] _ (reads2 (w.alloc (.cells #[.int .i64 x, .int .i64 y] 55)) x y 3) (by omega)
  rw [show (⟨(w.alloc (.cells #[.int .i64 x, .int .i64 y] 55)).heap.size, 0, none⟩ : Addr) = ⟨w.heap.size + 1, 0, none⟩ by rw [alloc_size]] at K
  have hr : okM (x, y) = [x, y].all (inW 999) := by
    simp only [okM, inW, List.all_cons, List.all_nil, Bool.and_true, Bool.decide_and]
    simp only [Bool.and_assoc]
  rw [hr]
  generalize [x, y].all (inW 999) = r at K ⊢
  clear hr
  go_enter Tryz.func22, Tryz.ntmps22
  go_wp2_with fail
  refine K.mono ?_
  rintro e w1 ⟨rfl, hb⟩
  go_wp2
  go_ret
  exact ⟨rfl, hb1.trans (hb.mono hb1.size)⟩

set_option maxHeartbeats 1600000 in
set_option maxRecDepth 20000 in
theorem rightJoin_any (m : Int × Int) (w : World) :
    Calls Tryz.prog 30 #[.agg #[.int .i64 m.1, .int .i64 m.2]] w fun e w' => e = .returned (.bool (okJ m)) ∧ Below w.heap.size w w' := by
  obtain ⟨x, y⟩ := m
  have hb0 := low_alloc w (.cells #[.int .i64 x, .int .i64 y] 58)
  have hb1 := hb0.trans ((low_alloc (w.alloc (.cells #[.int .i64 x, .int .i64 y] 58)) (.cells #[.int .i64 x, .int .i64 y] 3)).mono hb0.size)
  have K := within_any 15 _ 2 2 [x, y] _ (reads2 (w.alloc (.cells #[.int .i64 x, .int .i64 y] 58)) x y 3) (by omega)
  rw [show (⟨(w.alloc (.cells #[.int .i64 x, .int .i64 y] 58)).heap.size, 0, none⟩ : Addr) = ⟨w.heap.size + 1, 0, none⟩ by rw [alloc_size]] at K
  have hr : okJ (x, y) = [x, y].all (inW 15) := by
    simp only [okJ, inW, List.all_cons, List.all_nil, Bool.and_true, Bool.decide_and]
    simp only [Bool.and_assoc]
  rw [hr]
  generalize [x, y].all (inW 15) = r at K ⊢
  clear hr
  go_enter Tryz.func30, Tryz.ntmps30
  go_wp2_with fail
  refine K.mono ?_
  rintro e w1 ⟨rfl, hb⟩
  go_wp2
  go_ret
  exact ⟨rfl, hb1.trans (hb.mono hb1.size)⟩

theorem rightToken_any (s : ByteArray) (w : World) :
    Calls Tryz.prog 24 #[.string s] w fun e w' => e = .returned (.bool (okT s)) ∧ w' = w := by
  have K := sized_any s 2 w
  have hr : (decide ((2 : Int) ≤ (s.size : Int)) && decide ((s.size : Int) ≤ 64)) = okT s := by
    unfold okT
    rw [← Bool.decide_and]
    exact decide_eq_decide.2 (by omega)
  rw [hr] at K
  generalize okT s = r at K ⊢
  clear hr
  go_enter Tryz.func24, Tryz.ntmps24
  go_wp2_with fail
  refine K.mono ?_
  rintro e w1 ⟨rfl, rfl⟩
  go_wp2
  go_ret
  exact ⟨rfl, rfl⟩

set_option maxHeartbeats 1600000 in
set_option maxRecDepth 20000 in
theorem rightSpecial_any (m : Int × ByteArray) (w : World) :
    Calls Tryz.prog 26 #[.agg #[.int .i64 m.1, .string m.2]] w fun e w' => e = .returned (.bool (okS m)) ∧ Below w.heap.size w w' := by
  obtain ⟨x, s⟩ := m
  have hb0 := low_alloc w (.cells #[.int .i64 x, .string s] 43)
  have c1 : (w.alloc (.cells #[.int .i64 x, .string s] 43)).cell? ⟨w.heap.size, 1, none⟩ = some (.string s) := by simp
  have hlt : w.heap.size < (w.alloc (.cells #[.int .i64 x, .string s] 43)).heap.size := by simp
  have hb2 := low_alloc (w.alloc (.cells #[.int .i64 x, .string s] 43)) (.cells #[.int .i64 x] 3)
  have hb1 := hb0.trans (hb2.mono hb0.size)
  have d1 := (bcell hb2 hlt).trans c1
  have K := within_any 1073741824 _ 1 1 [x] _ (reads1 (w.alloc (.cells #[.int .i64 x, .string s] 43)) x 3) (by omega)
  rw [show (⟨(w.alloc (.cells #[.int .i64 x, .string s] 43)).heap.size, 0, none⟩ : Addr) = ⟨w.heap.size + 1, 0, none⟩ by rw [alloc_size]] at K
  have hr : okS (x, s) = ([x].all (inW 1073741824) && (decide ((1 : Int) ≤ (s.size : Int)) && decide ((s.size : Int) ≤ 64))) := by
    simp only [okS, inW, List.all_cons, List.all_nil, Bool.and_true]
    simp only [← Bool.decide_and]
    exact decide_eq_decide.2 (by omega)
  rw [hr]
  have hlt1 : w.heap.size < ((w.alloc (.cells #[.int .i64 x, .string s] 43)).alloc (.cells #[.int .i64 x] 3)).heap.size := Nat.lt_of_lt_of_le hlt hb2.size
  generalize hq : [x].all (inW 1073741824) = r at K ⊢
  generalize ht : (decide ((1 : Int) ≤ (s.size : Int)) && decide ((s.size : Int) ≤ 64)) = q
  have HT := hide ht
  clear hr hq ht hb0 c1 hlt hb2
  go_enter Tryz.func26, Tryz.ntmps26
  go_wp2_with fail
  refine K.mono ?_
  rintro e w1 ⟨rfl, hb⟩
  have e1 := (bcell hb hlt1).trans d1
  have hb3 := hb1.trans (hb.mono hb1.size)
  clear K d1 hb hb1 hlt1
  cases r with
  | false =>
    go_wp2
    go_ret
    exact ⟨rfl, hb3⟩
  | true =>
    have K2 := sized_any s 1 w1
    rw [HT.out] at K2
    go_wp2_with fail
    refine K2.mono ?_
    rintro e w2 ⟨rfl, rfl⟩
    go_wp2
    go_ret
    exact ⟨rfl, hb3⟩

set_option maxHeartbeats 1600000 in
set_option maxRecDepth 20000 in
theorem rightClass_any (m : Int × Int × Int) (w : World) :
    Calls Tryz.prog 28 #[.agg #[.int .i64 m.1, .int .i64 m.2.1, .int .i64 m.2.2]] w fun e w' => e = .returned (.bool (okC m)) ∧ Below w.heap.size w w' := by
  obtain ⟨x, y, z⟩ := m
  have hr : okC (x, y, z) = (([x].all (inW y) && [y].all (inW 255)) && [z].all (inW 15)) := by
    simp only [okC, inW, List.all_cons, List.all_nil, Bool.and_true]
    simp only [← Bool.decide_and]
    exact decide_eq_decide.2 (by omega)
  rw [hr]
  have K1 : ∀ W : World, Calls Tryz.prog 48 #[.int .i64 y, .slice (some ⟨W.heap.size, 0, none⟩) 1 1] (W.alloc (.cells #[.int .i64 x] 3)) fun e w' => e = .returned (.bool ([x].all (inW y))) ∧ Below (W.alloc (.cells #[.int .i64 x] 3)).heap.size (W.alloc (.cells #[.int .i64 x] 3)) w' := fun W => within_any y _ 1 1 [x] _ (reads1 W x 3) (by omega)
  have K2 : ∀ W : World, Calls Tryz.prog 48 #[.int .i64 255, .slice (some ⟨W.heap.size, 0, none⟩) 1 1] (W.alloc (.cells #[.int .i64 y] 3)) fun e w' => e = .returned (.bool ([y].all (inW 255))) ∧ Below (W.alloc (.cells #[.int .i64 y] 3)).heap.size (W.alloc (.cells #[.int .i64 y] 3)) w' := fun W => within_any 255 _ 1 1 [y] _ (reads1 W y 3) (by omega)
  have K3 : ∀ W : World, Calls Tryz.prog 48 #[.int .i64 15, .slice (some ⟨W.heap.size, 0, none⟩) 1 1] (W.alloc (.cells #[.int .i64 z] 3)) fun e w' => e = .returned (.bool ([z].all (inW 15))) ∧ Below (W.alloc (.cells #[.int .i64 z] 3)).heap.size (W.alloc (.cells #[.int .i64 z] 3)) w' := fun W => within_any 15 _ 1 1 [z] _ (reads1 W z 3) (by omega)
  generalize [x].all (inW y) = r1 at K1 ⊢
  generalize [y].all (inW 255) = r2 at K2 ⊢
  generalize [z].all (inW 15) = r3 at K3 ⊢
  have HK1 := hide K1
  have HK2 := hide K2
  have HK3 := hide K3
  clear hr K1 K2 K3
  have hb0 := low_alloc w (.cells #[.int .i64 x, .int .i64 y, .int .i64 z] 57)
  have c1 : (w.alloc (.cells #[.int .i64 x, .int .i64 y, .int .i64 z] 57)).cell? ⟨w.heap.size, 1, none⟩ = some (.int .i64 y) := by simp
  have c2 : (w.alloc (.cells #[.int .i64 x, .int .i64 y, .int .i64 z] 57)).cell? ⟨w.heap.size, 2, none⟩ = some (.int .i64 z) := by simp
  have hlt : w.heap.size < (w.alloc (.cells #[.int .i64 x, .int .i64 y, .int .i64 z] 57)).heap.size := by simp
  have K0 := HK1.out (w.alloc (.cells #[.int .i64 x, .int .i64 y, .int .i64 z] 57))
  rw [show (⟨(w.alloc (.cells #[.int .i64 x, .int .i64 y, .int .i64 z] 57)).heap.size, 0, none⟩ : Addr) = ⟨w.heap.size + 1, 0, none⟩ by rw [alloc_size]] at K0
  have HC1 := hide c1
  have HC2 := hide c2
  clear c1 c2
  go_enter Tryz.func28, Tryz.ntmps28
  go_wp2_with fail
  refine K0.mono ?_
  rintro e w1 ⟨rfl, hb⟩
  have hb1 : Below (w.alloc (.cells #[.int .i64 x, .int .i64 y, .int .i64 z] 57)).heap.size (w.alloc (.cells #[.int .i64 x, .int .i64 y, .int .i64 z] 57)) w1 := (low_alloc _ _).trans (hb.mono (low_alloc _ _).size)
  have d1 := (bcell hb1 hlt).trans HC1.out
  have d2 := (bcell hb1 hlt).trans HC2.out
  have hb01 := hb0.trans (hb1.mono hb0.size)
  have hlt1 := Nat.lt_of_lt_of_le hlt hb1.size
  clear hb hb1 HC1 HC2 hb0 hlt K0
  cases r1 with
  | false =>
    go_wp2
    go_ret
    exact ⟨rfl, hb01⟩
  | true =>
    go_wp2_with fail
    refine (HK2.out w1).mono ?_
    rintro e w2 ⟨rfl, hb⟩
    have hb1 : Below w1.heap.size w1 w2 := (low_alloc w1 _).trans (hb.mono (low_alloc w1 _).size)
    have e2 := (bcell hb1 hlt1).trans d2
    have hb02 := hb01.trans (hb1.mono hb01.size)
    clear hb hb1 d1 d2
    cases r2 with
    | false =>
      go_wp2
      go_ret
      exact ⟨rfl, hb02⟩
    | true =>
      go_wp2_with fail
      refine (HK3.out w2).mono ?_
      rintro e w3 ⟨rfl, hb⟩
      have hb1 : Below w2.heap.size w2 w3 := (low_alloc w2 _).trans (hb.mono (low_alloc w2 _).size)
      go_wp2
      go_ret
      exact ⟨rfl, hb02.trans (hb1.mono hb02.size)⟩
end Go.Proofs.YteiinkhdgppgbaaGreatDoor
