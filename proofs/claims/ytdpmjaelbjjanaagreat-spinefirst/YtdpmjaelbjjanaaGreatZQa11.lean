/- A table of classes and joins in memory; contracts of package bound: Class, Cuts. Contracts of package bound: mark. Contracts of package bound: New. -/
import Derived.Test.YtdpmjaelbjjanaaGreatZQa10
import Derived.Test.YtdpmjaelbjjanaaGreatZQa1
import Derived.Test.YtdpmjaelbjjanaaGreatProg
import Derived.Below
import Derived.WalkKit
import Derived.WalkSpells
import Derived.WalkLawsBesides
import Derived.WalkSmall
import Derived.Laws.OwnMore
import Derived.BigRegion
namespace Go.Proofs.YtdpmjaelbjjanaaGreat.Wf.Bq
open Go.RowKit
set_option linter.unusedVariables false
set_option linter.unusedSimpArgs false

/-- A table as it lies in memory. -/
structure BAt (p : Nat) (cl : Nat → Int) (jn : Nat → Nat → Bool) (w : World) : Prop where
  lt : p < w.heap.size
  c : ∀ b, b < 256 → w.cell? ⟨p, b, none⟩ = some (.int .i64 (cl b))
  j : ∀ a b, a < 16 → b < 16 → w.cell? ⟨p, 256 + a * 16 + b, none⟩ = some (.bool (jn a b))
  f : ∀ k, k < 512 → w.frozen? ⟨p, k, none⟩ = false
theorem BAt.kept {p : Nat} {cl : Nat → Int} {jn : Nat → Nat → Bool} {w w' : World} (h : BAt p cl jn w) (hb : Below w.heap.size w w') : BAt p cl jn w' := by
  refine ⟨Nat.lt_of_lt_of_le h.lt hb.size, fun b hb' => (hb.cell h.lt).trans (h.c b hb'), fun a b h1 h2 => (hb.cell h.lt).trans (h.j a b h1 h2), fun k hk => (hb.frozen h.lt).trans (h.f k hk)⟩

theorem class_nil (b : Int) (w : World) : Calls Tryz.prog 153 #[.pointer none, .int .u8 b] w fun e w' => e = .returned (.int .i64 0) ∧ w' = w := by
  go_enter Tryz.func153, Tryz.ntmps153
  go_wp2
  go_ret
  exact ⟨rfl, rfl⟩

theorem class_any {p : Nat} {cl : Nat → Int} {jn : Nat → Nat → Bool} {w : World} (h : BAt p cl jn w) (b : Nat) (hb : b < 256) : Calls Tryz.prog 153 #[.pointer (some ⟨p, 0, none⟩), .int .u8 b] w fun e w' => e = .returned (.int .i64 (cl b)) ∧ w' = w := by
  have c0 := h.c b hb
  have hb0 : (0 : Int) ≤ (b : Int) := by omega
  have hb1 : (b : Int) < 256 := by omega
  clear h
  generalize cl b = x at *
  go_enter Tryz.func153, Tryz.ntmps153
  go_wp2
  go_ret
  exact ⟨rfl, rfl⟩

theorem isClass_any (n : Int) (w : World) : Calls Tryz.prog 158 #[.int .i64 n] w fun e w' => e = .returned (.bool (decide (0 ≤ n ∧ n ≤ 15))) ∧ w' = w := by
  go_enter Tryz.func158, Tryz.ntmps158
  by_cases h0 : 0 ≤ n
  · by_cases h1 : n ≤ 15
    · go_wp2
      go_ret
      exact ⟨by simp [h0, h1], rfl⟩
    · go_wp2
      go_ret
      exact ⟨by simp [h0, h1], rfl⟩
  · go_wp2
    go_ret
    exact ⟨by simp; omega, rfl⟩

theorem cuts_nil (a b : Int) (w : World) : Calls Tryz.prog 127 #[.pointer none, .int .u8 a, .int .u8 b] w fun e w' => e = .returned (.bool false) ∧ w' = w := by
  go_enter Tryz.func127, Tryz.ntmps127
  go_wp2_with fail
  refine (class_nil a w).mono ?_
  rintro e w1 ⟨rfl, hw⟩
  obtain rfl := hw.symm
  clear hw
  go_wp2_with fail
  refine (class_nil b w).mono ?_
  rintro e w2 ⟨rfl, hw⟩
  obtain rfl := hw.symm
  clear hw
  go_wp2
  go_ret
  exact ⟨rfl, rfl⟩

theorem cuts_any {p : Nat} {cl : Nat → Int} {jn : Nat → Nat → Bool} {w : World} (h : BAt p cl jn w) (hr : ∀ b, b < 256 → 0 ≤ cl b ∧ cl b ≤ 15) (a b : Nat) (ha : a < 256) (hb : b < 256) :
    Calls Tryz.prog 127 #[.pointer (some ⟨p, 0, none⟩), .int .u8 a, .int .u8 b] w fun e w' => e = .returned (.bool (decide (cl a ≠ cl b) && !jn (cl a).toNat (cl b).toNat)) ∧ w' = w := by
  have HA := hide (class_any h a ha)
  have HB := hide (class_any h b hb)
  have r1 := hr a ha
  have r2 := hr b hb
  have j0 := h.j (cl a).toNat (cl b).toNat (by omega) (by omega)
  clear h hr
  generalize cl a = x at *
  generalize cl b = y at *
  obtain ⟨x, rfl⟩ := Int.eq_ofNat_of_zero_le r1.1
  obtain ⟨y, rfl⟩ := Int.eq_ofNat_of_zero_le r2.1
  simp only [Int.toNat_natCast] at j0 ⊢
  generalize jn x y = z at *
  have hx0 : (0 : Int) ≤ (x : Int) := by omega
  have hx1 : (x : Int) < 16 := by omega
  have hy0 : (0 : Int) ≤ (y : Int) := by omega
  have hy1 : (y : Int) < 16 := by omega
  go_enter Tryz.func127, Tryz.ntmps127
  go_wp2_with fail
  refine (unhide HA).mono ?_
  rintro e w1 ⟨rfl, hw⟩
  obtain rfl := hw.symm
  clear hw HA
  go_wp2_with fail
  refine (unhide HB).mono ?_
  rintro e w2 ⟨rfl, hw⟩
  obtain rfl := hw.symm
  clear hw HB
  by_cases e : x = y
  · subst e
    go_wp2
    go_ret
    exact ⟨by simp, rfl⟩
  · have hne : ((x : Int) == (y : Int)) = false := by simp; omega
    go_wp2
    go_ret
    exact ⟨by simp [show ¬ ((x : Int) = (y : Int)) by omega], rfl⟩

/-- A table, or none: where it cuts. -/
def Tb (pv : Value) (q : Int → Int → Bool) (w : World) : Prop :=
  (pv = .pointer none ∧ ∀ a b, q a b = false) ∨ ∃ p cl jn, pv = .pointer (some ⟨p, 0, none⟩) ∧ BAt p cl jn w ∧ (∀ b, b < 256 → 0 ≤ cl b ∧ cl b ≤ 15) ∧ ∀ a b : Nat, a < 256 → b < 256 → q a b = (decide (cl a ≠ cl b) && !jn (cl a).toNat (cl b).toNat)
theorem Tb.kept {pv : Value} {q : Int → Int → Bool} {w w' : World} (h : Tb pv q w) (hb : Below w.heap.size w w') : Tb pv q w' := by
  rcases h with h | ⟨p, cl, jn, h1, h2, h3⟩
  · exact Or.inl h
  · exact Or.inr ⟨p, cl, jn, h1, h2.kept hb, h3⟩
theorem Tb.drewN {pv : Value} {q : Int → Int → Bool} {w : World} (h : Tb pv q w) (n : Nat) : Tb pv q (w.drewN n) := h.kept ⟨rfl, rfl, rfl, Nat.le_refl _, fun _ _ => rfl⟩

theorem cutsT {pv : Value} {q : Int → Int → Bool} {w : World} (h : Tb pv q w) (x y : UInt8) :
    Calls Tryz.prog 127 #[pv, .int .u8 (x.toNat : Int), .int .u8 (y.toNat : Int)] w fun e w' => e = .returned (.bool (q (x.toNat : Int) (y.toNat : Int))) ∧ w' = w := by
  rcases h with ⟨rfl, h⟩ | ⟨p, cl, jn, rfl, h2, h3, h4⟩
  · rw [h]
    exact cuts_nil _ _ _
  · rw [h4 _ _ x.toNat_lt y.toNat_lt]
    exact cuts_any h2 h3 x.toNat y.toNat x.toNat_lt y.toNat_lt

end Go.Proofs.YtdpmjaelbjjanaaGreat.Wf.Bq

namespace Go.Proofs.YtdpmjaelbjjanaaGreat.Wf.Bq
open Go.RowKit
set_option linter.unusedVariables false
set_option linter.unusedSimpArgs false

theorem BAt.congr {p : Nat} {cl cl' : Nat → Int} {jn jn' : Nat → Nat → Bool} {w : World} (h : BAt p cl jn w) (h1 : ∀ b, b < 256 → cl b = cl' b) (h2 : ∀ a b, a < 16 → b < 16 → jn a b = jn' a b) : BAt p cl' jn' w :=
  ⟨h.lt, fun b hb => by rw [← h1 b hb]; exact h.c b hb, fun a b ha hb => by rw [← h2 a b ha hb]; exact h.j a b ha hb, h.f⟩
theorem BAt.drew {p : Nat} {cl : Nat → Int} {jn : Nat → Nat → Bool} {w : World} (h : BAt p cl jn w) : BAt p cl jn w.drew := h.kept ⟨rfl, rfl, rfl, Nat.le_refl _, fun _ _ => rfl⟩
theorem fz_set (w : World) (p k o : Nat) (v : Value) : (w.setCell ⟨p, k, none⟩ v).frozen? ⟨p, o, none⟩ = w.frozen? ⟨p, o, none⟩ := by simp
theorem BAt.setC {p : Nat} {cl : Nat → Int} {jn : Nat → Nat → Bool} {w : World} (h : BAt p cl jn w) (k : Nat) (hk : k < 256) (x : Int) : BAt p (fun b => if b = k then x else cl b) jn (w.setCell ⟨p, k, none⟩ (.int .i64 x)) := by
  refine ⟨by have := h.lt; simpa using this, fun b hb => ?_, fun a b ha hb => ?_, fun o ho => (fz_set _ _ _ _ _).trans (h.f o ho)⟩
  · by_cases e : b = k
    · subst e
      rw [if_pos rfl]
      exact World.cell?_setCell_same _ _ _ (h.c b hb)
    · rw [if_neg e]
      exact (World.cell?_setCell_other _ _ _ _ (fun e2 => e (by injection e2 with _ e3; exact e3.symm))).trans (h.c b hb)
  · exact (World.cell?_setCell_other _ _ _ _ (fun e2 => by injection e2 with _ e3; omega)).trans (h.j a b ha hb)
theorem BAt.setJ {p : Nat} {cl : Nat → Int} {jn : Nat → Nat → Bool} {w : World} (h : BAt p cl jn w) (x y : Nat) (hx : x < 16) (hy : y < 16) : BAt p cl (fun a b => decide (a = x ∧ b = y) || jn a b) (w.setCell ⟨p, 256 + x * 16 + y, none⟩ (.bool true)) := by
  refine ⟨by have := h.lt; simpa using this, fun b hb => ?_, fun a b ha hb => ?_, fun o ho => (fz_set _ _ _ _ _).trans (h.f o ho)⟩
  · exact (World.cell?_setCell_other _ _ _ _ (fun e2 => by injection e2 with _ e3; omega)).trans (h.c b hb)
  · by_cases e : a = x ∧ b = y
    · obtain ⟨rfl, rfl⟩ := e
      simp only [and_self, decide_true, Bool.true_or]
      exact World.cell?_setCell_same _ _ _ (h.j a b ha hb)
    · rw [decide_eq_false e, Bool.false_or]
      exact (World.cell?_setCell_other _ _ _ _ (fun e2 => e (by injection e2 with _ e3; omega))).trans (h.j a b ha hb)

set_option maxRecDepth 20000 in
set_option maxHeartbeats 4000000 in
theorem mark_any {p : Nat} {cl : Nat → Int} {jn : Nat → Nat → Bool} {w : World} (h : BAt p cl jn w) (lo hi : Nat) (x : Int) (h1 : lo ≤ hi) (h2 : hi ≤ 255) :
    Calls Tryz.prog 159 #[.pointer (some ⟨p, 0, none⟩), .agg #[.int .i64 lo, .int .i64 hi, .int .i64 x]] w fun e w' => e = .returned (.tuple #[]) ∧ BAt p (fun b => if lo ≤ b ∧ b ≤ hi then x else cl b) jn w' ∧ Below p w w' := by
  have hlo : Below w.heap.size w (w.alloc (.cells #[.int .i64 lo, .int .i64 hi, .int .i64 x] 130)) := (Below.refl _ _).alloc (Nat.le_refl _) _
  have HA := hide (h.kept hlo)
  have HLT := hide h.lt
  have HB := hide (hlo.mono (Nat.le_of_lt h.lt))
  have q0 : (w.alloc (.cells #[.int .i64 lo, .int .i64 hi, .int .i64 x] 130)).cell? ⟨w.heap.size, 0, none⟩ = some (.int .i64 lo) := by simp
  have q1 : (w.alloc (.cells #[.int .i64 lo, .int .i64 hi, .int .i64 x] 130)).cell? ⟨w.heap.size, 1, none⟩ = some (.int .i64 hi) := by simp
  have q2 : (w.alloc (.cells #[.int .i64 lo, .int .i64 hi, .int .i64 x] 130)).cell? ⟨w.heap.size, 2, none⟩ = some (.int .i64 x) := by simp
  have hpq : p ≠ w.heap.size := by have := h.lt; omega
  clear h hlo
  go_enter Tryz.func159, Tryz.ntmps159
  go_wp2
  generalize w.alloc (.cells #[.int .i64 lo, .int .i64 hi, .int .i64 x] 130) = w0 at *
  generalize w.heap.size = qb at *
  go_loopw [4] (fun i wr => ∃ (k : Nat), i = .int .i64 k ∧ lo ≤ k ∧ k ≤ hi + 1 ∧ Hid (BAt p (fun b => if lo ≤ b ∧ b < k then x else cl b) jn wr) ∧ Hid (wr.cell? ⟨qb, 0, none⟩ = some (.int .i64 lo) ∧ wr.cell? ⟨qb, 1, none⟩ = some (.int .i64 hi) ∧ wr.cell? ⟨qb, 2, none⟩ = some (.int .i64 x)) ∧ Hid (Below p w wr)) (fun i _ => hi + 1 - (intOf i).toNat)
  case atStart => exact ⟨lo, rfl, Nat.le_refl _, by omega, hide (HA.out.congr (fun b hb => by rw [if_neg (by omega)]) (fun _ _ _ _ => rfl)), hide ⟨q0, q1, q2⟩, HB⟩
  case round =>
    obtain ⟨k, rfl, hk1, hk2, HI, HQ, HBl⟩ := hrel
    clear q0 q1 q2 HA HB
    obtain ⟨q0, q1, q2⟩ := HQ.out
    by_cases hlt : k ≤ hi
    · have hk0 : (0 : Int) ≤ (k : Int) := by omega
      have hki : (k : Int) ≤ (hi : Int) := by omega
      have hkb : (k : Int) < 256 := by omega
      have ck := HI.out.c k (by omega)
      have cf := HI.out.f k (by omega)
      generalize (if lo ≤ k ∧ k < k then x else cl k) = y at ck
      have HS := hide ((HI.out.setC k (by omega) x).drew)
      have HB2 : Hid (Below p w (wr.setCell ⟨p, k, none⟩ (.int .i64 x)).drew) := hide ((HBl.out.setCell (Nat.le_refl p) _).drew)
      have HQ2 : Hid ((wr.setCell ⟨p, k, none⟩ (.int .i64 x)).drew.cell? ⟨qb, 0, none⟩ = some (.int .i64 lo) ∧ (wr.setCell ⟨p, k, none⟩ (.int .i64 x)).drew.cell? ⟨qb, 1, none⟩ = some (.int .i64 hi) ∧ (wr.setCell ⟨p, k, none⟩ (.int .i64 x)).drew.cell? ⟨qb, 2, none⟩ = some (.int .i64 x)) := hide ⟨(World.cell?_setCell_other _ _ _ _ (fun e => hpq (by injection e))).trans q0, (World.cell?_setCell_other _ _ _ _ (fun e => hpq (by injection e))).trans q1, (World.cell?_setCell_other _ _ _ _ (fun e => hpq (by injection e))).trans q2⟩
      go_wp2
      go_region
      generalize (wr.setCell ⟨p, k, none⟩ (.int .i64 x)).drew = wd at *
      go_wp2
      go_roundw
      case rel => exact ⟨k + 1, by go_num, by omega, by omega, hide (HS.out.congr (fun b hb => by by_cases e : b = k; · { rw [if_pos e, if_pos (by omega)] }; · { rw [if_neg e]; by_cases e2 : lo ≤ b ∧ b < k; · { rw [if_pos e2, if_pos (by omega)] }; · { rw [if_neg e2, if_neg (by omega)] } }) (fun _ _ _ _ => rfl)), HQ2, HB2⟩
      case measure => simp [intOf]; omega
    · have hki : ¬ (k : Int) ≤ (hi : Int) := by omega
      go_wp2
      go_end0
      exact ⟨rfl, HI.out.congr (fun b hb => by by_cases e2 : lo ≤ b ∧ b < k; · { rw [if_pos e2, if_pos (by omega)] }; · { rw [if_neg e2, if_neg (by omega)] }) (fun _ _ _ _ => rfl), HBl.out⟩

end Go.Proofs.YtdpmjaelbjjanaaGreat.Wf.Bq

namespace Go.Proofs.YtdpmjaelbjjanaaGreat.Wf.Bq
open Go.RowKit
set_option linter.unusedVariables false
set_option linter.unusedSimpArgs false

theorem zeroT : ∃ z : Array Value, (∀ w, Sem.run Tryz.prog (zeroValue 241) w = .ok (.agg z) w) ∧ z.size = 512 ∧ (∀ i, i < 256 → z[i]? = some (.int .i64 0)) ∧ ∀ i, 256 ≤ i → i < 512 → z[i]? = some (.bool false) := by
  refine ⟨Array.replicate 256 (.int .i64 0) ++ Array.replicate 256 (.bool false), fun w => by kernel_rfl, by simp, fun i hi => ?_, fun i h1 h2 => ?_⟩
  · rw [Array.getElem?_append_left (by simpa using hi), Array.getElem?_replicate, if_pos hi]
  · rw [Array.getElem?_append_right (by simpa using h1), Array.getElem?_replicate, if_pos (by simp; omega)]
theorem bat_of (W : World) (p : Nat) (z : Array Value) (hh : W.heap[p]? = some (.cells z 241)) (h1 : ∀ i, i < 256 → z[i]? = some (.int .i64 0)) (h2 : ∀ i, 256 ≤ i → i < 512 → z[i]? = some (.bool false)) : BAt p (fun _ => 0) (fun _ _ => false) W := by
  refine ⟨(Array.getElem?_eq_some_iff.1 hh).1, fun b hb => ?_, fun a b ha hb => ?_, fun k hk => by simp [World.frozen?, hh]⟩
  · simp [World.cell?, hh, h1 b hb]
  · simp [World.cell?, hh, h2 (256 + a * 16 + b) (by omega) (by omega)]
theorem bat_new (w : World) (z : Array Value) (h1 : ∀ i, i < 256 → z[i]? = some (.int .i64 0)) (h2 : ∀ i, 256 ≤ i → i < 512 → z[i]? = some (.bool false)) : BAt w.heap.size (fun _ => 0) (fun _ _ => false) (w.alloc (.cells z 241)) := bat_of _ _ z (heap_alloc_new w _) h1 h2

/-- The classes, the joins that came in. -/
def RdC (w : World) (ao : Option Addr) (n : Nat) (C : List (Int × Int × Int)) : Prop :=
  C.length = n ∧ (n = 0 ∨ ∃ b off, ao = some ⟨b, off, none⟩ ∧ b < w.heap.size ∧ ∀ i, i < n → w.cell? ⟨b, off + i * 3, none⟩ = some (.int .i64 (gC C i).1) ∧ w.cell? ⟨b, off + i * 3 + 1, none⟩ = some (.int .i64 (gC C i).2.1) ∧ w.cell? ⟨b, off + i * 3 + 2, none⟩ = some (.int .i64 (gC C i).2.2))
def RdJ (w : World) (ao : Option Addr) (n : Nat) (J : List (Int × Int)) : Prop :=
  J.length = n ∧ (n = 0 ∨ ∃ b off, ao = some ⟨b, off, none⟩ ∧ b < w.heap.size ∧ ∀ i, i < n → w.cell? ⟨b, off + i * 2, none⟩ = some (.int .i64 (gJ J i).1) ∧ w.cell? ⟨b, off + i * 2 + 1, none⟩ = some (.int .i64 (gJ J i).2))
theorem RdC.kept {w w' : World} {ao : Option Addr} {n : Nat} {C : List (Int × Int × Int)} (h : RdC w ao n C) (hb : Below w.heap.size w w') : RdC w' ao n C := by
  refine ⟨h.1, ?_⟩
  rcases h.2 with h0 | ⟨b, off, rfl, hlt, hc⟩
  · exact Or.inl h0
  · exact Or.inr ⟨b, off, rfl, Nat.lt_of_lt_of_le hlt hb.size, fun i hi => ⟨(hb.cell hlt).trans (hc i hi).1, (hb.cell hlt).trans (hc i hi).2.1, (hb.cell hlt).trans (hc i hi).2.2⟩⟩
theorem RdJ.kept {w w' : World} {ao : Option Addr} {n : Nat} {J : List (Int × Int)} (h : RdJ w ao n J) (hb : Below w.heap.size w w') : RdJ w' ao n J := by
  refine ⟨h.1, ?_⟩
  rcases h.2 with h0 | ⟨b, off, rfl, hlt, hc⟩
  · exact Or.inl h0
  · exact Or.inr ⟨b, off, rfl, Nat.lt_of_lt_of_le hlt hb.size, fun i hi => ⟨(hb.cell hlt).trans (hc i hi).1, (hb.cell hlt).trans (hc i hi).2⟩⟩

/-- What comes of New. -/
def NewP (C : List (Int × Int × Int)) (J : List (Int × Int)) (w : World) (e : Ending) (w' : World) : Prop :=
  ((¬ ((∀ c ∈ C, kC c) ∧ ∀ j ∈ J, kJ j)) ∧ e = .returned (.tuple #[.pointer none, .int .i64 1])) ∨ (((∀ c ∈ C, kC c) ∧ ∀ j ∈ J, kJ j) ∧ ∃ p, e = .returned (.tuple #[.pointer (some ⟨p, 0, none⟩), .int .i64 0]) ∧ BAt p (fun b => cls C b) (fun a b => decide (((a : Int), (b : Int)) ∈ J)) w')

set_option maxRecDepth 20000 in
set_option maxHeartbeats 8000000 in
theorem bnew_any (ao : Option Addr) (n c1 : Nat) (C : List (Int × Int × Int)) (bo : Option Addr) (m c2 : Nat) (J : List (Int × Int)) (w : World) (hC : RdC w ao n C) (hJ : RdJ w bo m J) (hn : n ≤ 1000000) (hm : m ≤ 1000000) :
    Calls Tryz.prog 138 #[.slice ao n c1, .slice bo m c2] w fun e w' => NewP C J w e w' ∧ Below w.heap.size w w' := by
  obtain ⟨z, hz, hzs, hz1, hz2⟩ := zeroT
  have hzw := hz w
  have hlow : Below w.heap.size w (w.alloc (.cells z 241)) := (Below.refl _ _).alloc (Nat.le_refl _) _
  have HB0 := hide (bat_new w z hz1 hz2)
  have HL0 := hide hlow
  have HC0 := hide hC
  have HJ0 := hide hJ
  have hCl := hC.1
  have hJl := hJ.1
  have HCL := hide hCl
  have HJL := hide hJl
  clear hz1 hz2 hz hlow hC hJ hCl hJl
  go_enter Tryz.func138, Tryz.ntmps138
  go_wp2
  generalize w.alloc (.cells z 241) = w0 at *
  clear hzw hzs
  go_loopw [15] (fun i wr => ∃ (k : Nat), i = .int .i64 k ∧ k ≤ n ∧ Hid (∀ j, j < k → kC (gC C j)) ∧ Hid (BAt w.heap.size (fun b => cls (C.take k) b) (fun _ _ => false) wr) ∧ Hid (Below w.heap.size w wr)) (fun i _ => n - (intOf i).toNat)
  case atStart => exact ⟨0, rfl, Nat.zero_le _, hide (fun j hj => by omega), hide (HB0.out.congr (fun b hb => by simp [cls]) (fun _ _ _ _ => rfl)), HL0⟩
  case round =>
    obtain ⟨k, rfl, hk, HOK, HI, HB⟩ := hrel
    by_cases hlt : k < n
    · have hk0 : (0 : Int) ≤ (k : Int) := by omega
      have hk1 : (k : Int) < (n : Int) := by omega
      have hkl : k < C.length := by rw [HCL.out]; exact hlt
      have HMEM := hide (gC_mem C hkl)
      have HTK := hide (gC_take C hkl)
      rcases (HC0.out.kept HB.out).2 with h0 | ⟨b, off, rfl, hbw, hcc⟩
      · omega
      obtain ⟨d0, d1, d2⟩ := hcc k hlt
      clear hcc hkl
      have HOK2 : Hid (∀ y, y = gC C k → kC y → ∀ j, j < k + 1 → kC (gC C j)) := hide (fun y hy hk j hj => by by_cases e : j = k; · { rw [e, ← hy]; exact hk }; · { exact HOK.out j (by omega) })
      generalize gC C k = c at *
      obtain ⟨lo, hi, x⟩ := c
      simp only at d0 d1 d2
      have hla : Below wr.heap.size wr (wr.alloc (.cells #[.int .i64 lo, .int .i64 hi, .int .i64 x] 130)) := (Below.refl _ _).alloc (Nat.le_refl _) _
      have HB2 := hide (HB.out.trans (hla.mono HB.out.size))
      have HI2 := hide (HI.out.kept hla)
      clear hla
      by_cases g1 : lo < 0
      · have g1d : decide (lo < 0) = true := by simpa using g1
        go_wp2
        (try simp only [Exit.inBlock, Exit.then])
        refine bodyPost_ret (v := .tuple #[.pointer none, .int .i64 1]) (by simp [results, Tryz.results138, go_sem]) rfl ?_
        exact ⟨Or.inl ⟨fun h => by have := h.1 _ HMEM.out; unfold kC at this; simp only at this; omega, rfl⟩, HB2.out⟩
      have g1d : decide (lo < 0) = false := by simpa using g1
      by_cases g2 : hi < lo
      · have g2d : decide (hi < lo) = true := by simpa using g2
        go_wp2
        (try simp only [Exit.inBlock, Exit.then])
        refine bodyPost_ret (v := .tuple #[.pointer none, .int .i64 1]) (by simp [results, Tryz.results138, go_sem]) rfl ?_
        exact ⟨Or.inl ⟨fun h => by have := h.1 _ HMEM.out; unfold kC at this; simp only at this; omega, rfl⟩, HB2.out⟩
      have g2d : decide (hi < lo) = false := by simpa using g2
      by_cases g3 : 256 ≤ hi
      · have g3d : decide (256 ≤ hi) = true := by simpa using g3
        go_wp2
        (try simp only [Exit.inBlock, Exit.then])
        refine bodyPost_ret (v := .tuple #[.pointer none, .int .i64 1]) (by simp [results, Tryz.results138, go_sem]) rfl ?_
        exact ⟨Or.inl ⟨fun h => by have := h.1 _ HMEM.out; unfold kC at this; simp only at this; omega, rfl⟩, HB2.out⟩
      have g3d : decide (256 ≤ hi) = false := by simpa using g3
      generalize hWA : wr.alloc (.cells #[.int .i64 lo, .int .i64 hi, .int .i64 x] 130) = wa at *
      have HIC := hide (isClass_any x (wr.alloc (.cells #[.int .i64 lo, .int .i64 hi, .int .i64 x] 130)))
      rw [hWA] at HIC
      have a0 : wa.cell? ⟨wr.heap.size, 0, none⟩ = some (.int .i64 lo) := by rw [← hWA]; simp
      have a1 : wa.cell? ⟨wr.heap.size, 1, none⟩ = some (.int .i64 hi) := by rw [← hWA]; simp
      have a2 : wa.cell? ⟨wr.heap.size, 2, none⟩ = some (.int .i64 x) := by rw [← hWA]; simp
      have HA := hide (And.intro a0 (And.intro a1 a2))
      clear a0 a1 a2
      have HWA := hide hWA
      clear hWA
      go_wp2_with fail
      rw [HWA.out]
      refine (unhide HIC).mono ?_
      rintro e w1 ⟨rfl, hw⟩
      obtain rfl := hw.symm
      obtain ⟨a0, a1, a2⟩ := HA.out
      clear hw HIC HWA
      by_cases g4 : 0 ≤ x ∧ x ≤ 15
      · rw [decide_eq_true g4]
        obtain ⟨l, rfl⟩ := Int.eq_ofNat_of_zero_le (show 0 ≤ lo by omega)
        obtain ⟨h, rfl⟩ := Int.eq_ofNat_of_zero_le (show 0 ≤ hi by omega)
        have HMK := hide (mark_any HI2.out l h x (by omega) (by omega))
        have HKC : Hid (kC ((l : Int), (h : Int), x)) := hide (by unfold kC; simp only; omega)
        go_wp2_with fail
        refine (unhide HMK).mono ?_
        rintro e w2 ⟨rfl, hB2, hb2⟩
        have HB3 := hide (HB2.out.trans hb2)
        have HBA := hide hB2
        clear hb2 hB2 HMK a0 a1 a2 d0 d1 d2
        go_wp2
        go_roundw
        case rel =>
          refine ⟨k + 1, by go_num, by omega, hide (fun j hj => ?_), hide (HBA.out.congr (fun b hb => ?_) (fun _ _ _ _ => rfl)), HB3⟩
          · exact HOK2.out _ rfl HKC.out j hj
          · rw [HTK.out, cls_snoc]
            simp only
            by_cases e : l ≤ b ∧ b ≤ h
            · rw [if_pos e, if_pos (by omega)]
            · rw [if_neg e, if_neg (by omega)]
        case measure => simp [intOf]; omega
      · rw [decide_eq_false g4]
        go_wp2
        (try simp only [Exit.inBlock, Exit.then])
        refine bodyPost_ret (v := .tuple #[.pointer none, .int .i64 1]) (by simp [results, Tryz.results138, go_sem]) rfl ?_
        exact ⟨Or.inl ⟨fun h => by have := h.1 _ HMEM.out; unfold kC at this; simp only at this; omega, rfl⟩, HB2.out⟩
    · obtain rfl : k = n := by omega
      have HAC : Hid (∀ c ∈ C, kC c) := hide (fun c hc => by obtain ⟨j, hj, e⟩ := mem_gC hc; rw [← e]; exact HOK.out j (by rw [← HCL.out]; exact hj))
      have htk : C.take k = C := by rw [← HCL.out]; exact List.take_length
      rw [htk] at HI
      have HI1 := hide (HI.out.congr (fun _ _ => rfl) (fun a b _ _ => (by simp : false = decide (((a : Int), (b : Int)) ∈ J.take 0))))
      clear HI htk HOK HB0 HL0
      go_wp2
      go_loopw [46] (fun i wr => ∃ (k : Nat), i = .int .i64 k ∧ k ≤ m ∧ Hid (∀ j, j < k → kJ (gJ J j)) ∧ Hid (BAt w.heap.size (fun b => cls C b) (fun a b => decide (((a : Int), (b : Int)) ∈ J.take k)) wr) ∧ Hid (Below w.heap.size w wr)) (fun i _ => m - (intOf i).toNat)
      case atStart => exact ⟨0, rfl, Nat.zero_le _, hide (fun j hj => by omega), HI1, HB⟩
      case round =>
        clear HI1 HB
        obtain ⟨i, rfl, hi, HOJ, HI, HB⟩ := hrel
        by_cases hlt : i < m
        · have hk0 : (0 : Int) ≤ (i : Int) := by omega
          have hk1 : (i : Int) < (m : Int) := by omega
          have hkl : i < J.length := by rw [HJL.out]; exact hlt
          have HMEM := hide (gJ_mem J hkl)
          have HTK := hide (gJ_take J hkl)
          rcases (HJ0.out.kept HB.out).2 with h0 | ⟨b, off, rfl, hbw, hcc⟩
          · omega
          obtain ⟨d0, d1⟩ := hcc i hlt
          clear hcc hkl
          have HOK2 : Hid (∀ y, y = gJ J i → kJ y → ∀ j, j < i + 1 → kJ (gJ J j)) := hide (fun y hy hk j hj => by by_cases e : j = i; · { rw [e, ← hy]; exact hk }; · { exact HOJ.out j (by omega) })
          generalize gJ J i = c at *
          obtain ⟨x, y⟩ := c
          simp only at d0 d1
          have hla : Below wr.heap.size wr (wr.alloc (.cells #[.int .i64 x, .int .i64 y] 95)) := (Below.refl _ _).alloc (Nat.le_refl _) _
          have HB2 := hide (HB.out.trans (hla.mono HB.out.size))
          have HI2 := hide (HI.out.kept hla)
          clear hla
          have hpq : w.heap.size ≠ wr.heap.size := by have := HI.out.lt; omega
          generalize hWA : wr.alloc (.cells #[.int .i64 x, .int .i64 y] 95) = wa at *
          have a0 : wa.cell? ⟨wr.heap.size, 0, none⟩ = some (.int .i64 x) := by rw [← hWA]; simp
          have a1 : wa.cell? ⟨wr.heap.size, 1, none⟩ = some (.int .i64 y) := by rw [← hWA]; simp
          have HA := hide (And.intro a0 a1)
          clear a0 a1
          have HWA := hide hWA
          clear hWA
          go_wp2_with fail
          rw [HWA.out]
          obtain ⟨a0, a1⟩ := HA.out
          refine (isClass_any x wa).mono ?_
          rintro e w1 ⟨rfl, hw⟩
          obtain rfl := hw.symm
          clear hw HWA
          by_cases g4 : 0 ≤ x ∧ x ≤ 15
          · rw [decide_eq_true g4]
            go_wp2_with fail
            refine (isClass_any y wa).mono ?_
            rintro e w1 ⟨rfl, hw⟩
            obtain rfl := hw.symm
            clear hw
            by_cases g5 : 0 ≤ y ∧ y ≤ 15
            · rw [decide_eq_true g5]
              obtain ⟨u, rfl⟩ := Int.eq_ofNat_of_zero_le g4.1
              obtain ⟨v, rfl⟩ := Int.eq_ofNat_of_zero_le g5.1
              have HKJ : Hid (kJ ((u : Int), (v : Int))) := hide (by unfold kJ; simp only; omega)
              have hu0 : (0 : Int) ≤ (u : Int) := by omega
              have hu1 : (u : Int) < 16 := by omega
              have hv0 : (0 : Int) ≤ (v : Int) := by omega
              have hv1 : (v : Int) < 16 := by omega
              have ck := HI2.out.j u v (by omega) (by omega)
              have cf := HI2.out.f (256 + u * 16 + v) (by omega)
              generalize decide (((u : Int), (v : Int)) ∈ J.take i) = yy at ck
              have HS := hide ((HI2.out.setJ u v (by omega) (by omega)).drew)
              have HB3 : Hid (Below w.heap.size w (wa.setCell ⟨w.heap.size, 256 + u * 16 + v, none⟩ (.bool true)).drew) := hide ((HB2.out.setCell (Nat.le_refl _) _).drew)
              clear g4 g5 d0 d1
              go_wp2
              go_region
              generalize (wa.setCell ⟨w.heap.size, 256 + u * 16 + v, none⟩ (.bool true)).drew = wd at *
              go_wp2
              go_roundw
              case rel =>
                refine ⟨i + 1, by go_num, by omega, hide (fun j hj => HOK2.out _ rfl HKJ.out j hj), hide (HS.out.congr (fun _ _ => rfl) (fun a b ha hb => ?_)), HB3⟩
                rw [HTK.out]
                by_cases e : a = u ∧ b = v
                · obtain ⟨rfl, rfl⟩ := e
                  simp
                · rw [decide_eq_false e, Bool.false_or]
                  refine decide_eq_decide.2 ?_
                  rw [List.mem_append]
                  constructor
                  · exact Or.inl
                  · rintro (h | h)
                    · exact h
                    · simp at h
                      omega
              case measure => simp [intOf]; omega
            · rw [decide_eq_false g5]
              go_wp2
              (try simp only [Exit.inBlock, Exit.then])
              refine bodyPost_ret (v := .tuple #[.pointer none, .int .i64 1]) (by simp [results, Tryz.results138, go_sem]) rfl ?_
              exact ⟨Or.inl ⟨fun h => by have := h.2 _ HMEM.out; unfold kJ at this; simp only at this; omega, rfl⟩, HB2.out⟩
          · rw [decide_eq_false g4]
            go_wp2
            (try simp only [Exit.inBlock, Exit.then])
            refine bodyPost_ret (v := .tuple #[.pointer none, .int .i64 1]) (by simp [results, Tryz.results138, go_sem]) rfl ?_
            exact ⟨Or.inl ⟨fun h => by have := h.2 _ HMEM.out; unfold kJ at this; simp only at this; omega, rfl⟩, HB2.out⟩
        · obtain rfl : i = m := by omega
          have htk : J.take i = J := by rw [← HJL.out]; exact List.take_length
          rw [htk] at HI
          go_wp2
          (try simp only [Exit.inBlock, Exit.then])
          refine bodyPost_ret (v := .tuple #[.pointer (some ⟨w.heap.size, 0, none⟩), .int .i64 0]) (by simp [results, Tryz.results138, go_sem]) rfl ?_
          exact ⟨Or.inr ⟨⟨HAC.out, fun c hc => by obtain ⟨j, hj, e⟩ := mem_gJ hc; rw [← e]; exact HOJ.out j (by rw [← HJL.out]; exact hj)⟩, w.heap.size, rfl, HI.out⟩, HB.out⟩

/-- The table of classes and joins that are right. -/
theorem BAt.tb {p : Nat} {C : List (Int × Int × Int)} {J : List (Int × Int)} {w : World} (h : BAt p (fun b => cls C b) (fun a b => decide (((a : Int), (b : Int)) ∈ J)) w) (hC : ∀ c ∈ C, kC c) : Tb (.pointer (some ⟨p, 0, none⟩)) (cutP C J) w := by
  refine Or.inr ⟨p, _, _, rfl, h, fun b _ => cls_range' hC b, fun a b _ _ => ?_⟩
  have h1 := cls_range' hC (a : Int)
  have h2 := cls_range' hC (b : Int)
  unfold cutP
  rw [show (((cls C (a : Int)).toNat : Nat) : Int) = cls C (a : Int) by omega, show (((cls C (b : Int)).toNat : Nat) : Int) = cls C (b : Int) by omega]
  simp [Bool.decide_and]

end Go.Proofs.YtdpmjaelbjjanaaGreat.Wf.Bq
