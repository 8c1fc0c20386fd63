/- Contracts of package bound: end, Whole, Between, Pieces. Contracts of package bound: Pieces. The law's own example; BoundNone. Contracts of the document's layer 8: Right, Class, Cuts. -/
import Derived.Test.YtfjcfkkcdbojlaaGreatQa12
import Derived.Test.YtfjcfkkcdbojlaaGreatQa7
import Derived.Deep.QuietTactic
import Derived.BigQuiet
namespace Go.Proofs.YtfjcfkkcdbojlaaGreat.Wf.Bq
open Go.RowKit
set_option linter.unusedVariables false
set_option linter.unusedSimpArgs false

theorem at_getD (s : ByteArray) (k : Nat) (h : k < s.size) : s.data.toList.getD k 0 = s[k] := by
  have hl : k < s.data.toList.length := by simpa using h
  rw [List.getD_eq_getElem?_getD, List.getElem?_eq_getElem hl]
  rfl
theorem qa_at (q : Int → Int → Bool) (s : ByteArray) (k m : Nat) (e : k + 1 = m) (h : m < s.size) : q ((s[k]'(by omega)).toNat : Int) ((s[m]).toNat : Int) = qa q s.data.toList m := by
  subst e
  unfold qa
  rw [show k + 1 - 1 = k by omega, at_getD s k (by omega), at_getD s (k + 1) h]

/-- Only drawn. -/
def Drn (w w' : World) : Prop := ∃ m, w' = w.drewN m
theorem Drn.below {w w' : World} (h : Drn w w') : Below w.heap.size w w' := by
  obtain ⟨m, rfl⟩ := h
  exact ⟨rfl, rfl, rfl, Nat.le_refl _, fun _ _ => rfl⟩
theorem Drn.refl (w : World) : Drn w w := ⟨0, rfl⟩
theorem Drn.more {w w' : World} (h : Drn w w') (n : Nat) : Drn w (w'.drewN n) := by
  obtain ⟨m, rfl⟩ := h
  exact ⟨m + n, by rw [World.drewN_drewN]⟩

/-- The first piece's end. -/
structure EndP (q : Int → Int → Bool) (s : List UInt8) (k : Nat) : Prop where
  le : k ≤ s.length
  pos : 0 < s.length → 0 < k
  no : ∀ j, 0 < j → j < k → qa q s j = false
  yes : k < s.length → qa q s k = true

end Go.Proofs.YtfjcfkkcdbojlaaGreat.Wf.Bq

namespace Go.Proofs.YtfjcfkkcdbojlaaGreat.Wf.Bq
open Go.RowKit
set_option linter.unusedVariables false
set_option linter.unusedSimpArgs false

theorem rowB {w w' : World} {B : Nat} {E : TypeId} {size : Nat} {v : Value} {n : Nat} {xs : List Value} (h : w.ownsRow B E size v n xs) (hb : Below w.heap.size w w') : w'.ownsRow B E size v n xs :=
  h.kept (row := none) ⟨hb.os, hb.tape, hb.output, hb.size, fun k hk _ => hb.block k hk⟩ (by cases v.ownBlock <;> simp)
/-- Texts out of lists of bytes. -/
def bts (l : List (List UInt8)) : List ByteArray := l.map (fun x => ⟨x.toArray⟩)
theorem tv_get (l : List (List UInt8)) (i : Nat) (hi : i < l.length) : (tv l)[i]? = some (.string (gT (bts l) i)) := by
  simp [tv, gT, bts, hi]
theorem RdT.row {w : World} {base : Nat} {ao : Option Addr} {n cap : Nat} {l : List (List UInt8)} (h : w.ownsRow base 9 1 (.slice ao n cap) n (tv l)) (hl : l.length = n) : RdT w ao n (bts l) := by
  refine ⟨by simp [bts, hl], ?_⟩
  rcases Nat.eq_zero_or_pos n with h0 | h0
  · exact Or.inl h0
  obtain ⟨g, cap', e, hb, hg⟩ := h.form h0
  simp only [Value.slice.injEq] at e
  obtain ⟨rfl, -, rfl⟩ := e
  refine Or.inr ⟨g, 0, rfl, hg, fun i hi => ?_⟩
  rw [Nat.zero_add, h.cellAt i (by omega)]
  exact tv_get l i (by omega)
def szOf : Value → Nat
  | .string t => t.size
  | _ => 0
theorem qa_drop (q : Int → Int → Bool) (s : List UInt8) (a j : Nat) (ha : a ≤ s.length) (hj : 0 < j) : qa q (s.drop a) j = qa q s (a + j) := by
  have h := qa_right (q := q) (s.take a) (s.drop a) j hj
  rw [List.take_append_drop, List.length_take, Nat.min_eq_left ha] at h
  exact h.symm
/-- One piece more. -/
theorem pc_end (q : Int → Int → Bool) (s t : List UInt8) (a k : Nat) (ht : t = s.drop a) (ha : a = 0 ∨ qa q s a = true) (hlt : a < s.length) (h : EndP q t k) :
    pc q s (a + k) = pc q s a ++ [t.take k] ∧ 0 < k ∧ a + k ≤ s.length ∧ (a + k = s.length ∨ qa q s (a + k) = true) := by
  subst ht
  have hl : (s.drop a).length = s.length - a := by simp
  have h1 := h.le
  have h2 := h.pos (by omega)
  refine ⟨?_, h2, by omega, ?_⟩
  · have := pc_step ha (a + k) (by omega) (by omega) (fun j h3 h4 => by have := h.no (j - a) (by omega) (by omega); rw [qa_drop q s a _ (by omega) (by omega)] at this; rw [show a + (j - a) = j by omega] at this; exact this)
    rw [this, show a + k - a = k by omega]
  · by_cases e : a + k = s.length
    · exact Or.inl e
    · have := h.yes (by omega)
      rw [qa_drop q s a _ (by omega) h2] at this
      exact Or.inr this
/-- What holds at the head of Pieces' loop. -/
structure PiI (w : World) (q : Int → Int → Bool) (s : List UInt8) (a : Nat) (t : ByteArray) (v : Value) (n : Nat) (wr : World) : Prop where
  le : a ≤ s.length
  t : t.data.toList = s.drop a
  st : a = 0 ∨ a = s.length ∨ qa q s a = true
  len : n = (pc q s a).length
  row : wr.ownsRow w.heap.size 9 1 v n (tv (pc q s a))
  B : Below w.heap.size w wr
theorem PiI.size {w : World} {q : Int → Int → Bool} {s : List UInt8} {a : Nat} {t : ByteArray} {v : Value} {n : Nat} {wr : World} (h : PiI w q s a t v n wr) : t.size = s.length - a := by
  have h1 : t.data.toList.length = t.size := by simp
  rw [← h1, h.t]
  simp
theorem PiI.n_le {w : World} {q : Int → Int → Bool} {s : List UInt8} {a : Nat} {t : ByteArray} {v : Value} {n : Nat} {wr : World} (h : PiI w q s a t v n wr) : n ≤ a := by
  rw [h.len, pc_len]
  exact cnt_le s a

end Go.Proofs.YtfjcfkkcdbojlaaGreat.Wf.Bq

namespace Go.Proofs.YtfjcfkkcdbojlaaGreat.Wf.Bq
open Go.RowKit
set_option linter.unusedVariables false
set_option linter.unusedSimpArgs false

theorem low8 (w : World) (o : Obj) : Below w.heap.size w (w.alloc o) := (Below.refl _ _).alloc (Nat.le_refl _) _
def eC : List (Int × Int × Int) := [(97, 122, 1)]
def eJ : List (Int × Int) := [(1, 0)]
theorem eP1 : pcs (cutP eC []) [97, 98, 99, 49, 50] = [[97, 98, 99], [49, 50]] := by decide +kernel
theorem eP2 : decide ((pcs (cutP eC eJ) [97, 98, 99, 49, 50]).length < 2) = true := by decide +kernel
theorem eP3 : decide ((pcs (cutP eC []) [97, 49]).length < 2) = false := by decide +kernel
theorem eC_ok : ∀ c ∈ eC, kC c := by intro c hc; simp [eC] at hc; subst hc; unfold kC; simp
theorem eJ_ok : ∀ c ∈ eJ, kJ c := by intro c hc; simp [eJ] at hc; subst hc; unfold kJ; simp
theorem eN_ok : ∀ c ∈ ([] : List (Int × Int)), kJ c := by intro c hc; simp at hc

def noq : Int → Int → Bool := fun _ _ => false
theorem tb_nil (w : World) : Tb (.pointer none) noq w := Or.inl ⟨rfl, fun _ _ => rfl⟩
theorem noq_len (s : List UInt8) : (pcs noq s).length = if s.length = 0 then 0 else 1 := by
  rw [pcs_len]
  split
  · rename_i h; rw [h]; rfl
  · rename_i h
    have h1 := cnt_pos (q := noq) s s.length (by omega)
    have h2 := (cnt_one (q := noq) s s.length (by omega)).2 (fun j _ _ => rfl)
    omega

end Go.Proofs.YtfjcfkkcdbojlaaGreat.Wf.Bq

namespace Go.Proofs.YtfjcfkkcdbojlaaGreat.Wf.Bq
open Go.RowKit
set_option linter.unusedVariables false
set_option linter.unusedSimpArgs false

/-- A region that draws its order, in whatever class of worlds. -/
theorem region_class {P : Program} {α : Type} (f : α → World) {id : Nat} {Q : Exit → Act → World → Prop} {a : Act} {w : World} {l : List Oper} (hm : P.follows .mixedOrders = true) (hB : Region.lexB .any l.toArray = true) (p0 : α) (h0 : w.drew = f p0)
    (h : wpQuiet P l.toArray (fun w' => ∃ p : α, w' = f p) (fun a' => ∀ w', (∃ p : α, w' = f p) → Q .normal a' w') l a) : (Code.region id l.toArray true).wp P Q a w :=
  wp_region_quiet (C := fun w' => ∃ p : α, w' = f p) hm hB ⟨p0, h0⟩ (by simpa using h)
/-- Worlds in which M holds. -/
structure Wd (M : World → Prop) where
  W : World
  h : M W
theorem Calls.toW {P : Program} {f : FuncId} {args : Array Value} {M : World → Prop} (K : ∀ W W', M W → Below W.heap.size W W' → M W') (p : Wd M) {v : Value} (h : Calls P f args p.W fun e w' => e = .returned v ∧ Below p.W.heap.size p.W w') : Calls P f args p.W fun e w' => e = .returned v ∧ ∃ p' : Wd M, w' = p'.W :=
  h.mono fun _ _ ⟨he, hb⟩ => ⟨he, ⟨_, K _ _ p.h hb⟩, rfl⟩

/-- The document's table, in a box. -/
structure RbI (w : World) (q : Nat) (ao : Option Addr) (n c1 : Nat) (C : List (Int × Int × Int)) (bo : Option Addr) (m c2 : Nat) (J : List (Int × Int)) (W : World) : Prop where
  c : RdC W ao n C
  j : RdJ W bo m J
  b0 : W.cell? ⟨q, 0, none⟩ = some (.slice ao n c1)
  b1 : W.cell? ⟨q, 1, none⟩ = some (.slice bo m c2)
  lt : q < W.heap.size
  B : Below w.heap.size w W
section
variable {w : World} {q : Nat} {ao : Option Addr} {n c1 : Nat} {C : List (Int × Int × Int)} {bo : Option Addr} {m c2 : Nat} {J : List (Int × Int)} {W W' : World}
theorem RbI.next (h : RbI w q ao n c1 C bo m c2 J W) (hb : Below W.heap.size W W') : RbI w q ao n c1 C bo m c2 J W' :=
  ⟨h.c.kept hb, h.j.kept hb, (hb.cell h.lt).trans h.b0, (hb.cell h.lt).trans h.b1, Nat.lt_of_lt_of_le h.lt hb.size, h.B.trans (hb.mono h.B.size)⟩
theorem RbI.drew (h : RbI w q ao n c1 C bo m c2 J W) : RbI w q ao n c1 C bo m c2 J W.drew := h.next ⟨rfl, rfl, rfl, Nat.le_refl _, fun _ _ => rfl⟩
theorem RbI.new (hC : RdC w ao n C) (hJ : RdJ w bo m J) (c1 c2 : Nat) : RbI w w.heap.size ao n c1 C bo m c2 J (w.alloc (.cells #[.slice ao n c1, .slice bo m c2] 37)) :=
  ⟨hC.kept (low8 _ _), hJ.kept (low8 _ _), by simp, by simp, by simp, low8 _ _⟩

set_option maxRecDepth 20000 in
set_option maxHeartbeats 4000000 in
theorem rclass_any (hC : RdC w ao n C) (hJ : RdJ w bo m J) (hn : n ≤ 1000000) (b : Int) (hb : 0 ≤ b ∧ b ≤ 255) :
    Calls Tryz.prog 52 #[.agg #[.slice ao n c1, .slice bo m c2], .int .u8 b] w fun e w' => e = .returned (.int .i64 (cls C b)) ∧ Below w.heap.size w w' := by
  have HI := hide (RbI.new hC hJ c1 c2)
  have hCl := hC.1
  have HCL := hide hCl
  have b0 := HI.out.b0
  have hwb : IntKind.i64.wrap b = b := by rw [IntKind.wrap_i64]; omega
  clear hC hJ hCl
  go_enter Tryz.func52, Tryz.ntmps52
  go_wp2
  generalize w.alloc (.cells #[.slice ao n c1, .slice bo m c2] 37) = w0 at *
  generalize w.heap.size = q at *
  go_loop [5] (fun i => ∃ (k : Nat) (z : Int), i = .int .i64 z ∧ z = (k : Int) - 1 ∧ k ≤ n ∧ Hid (∀ j, k ≤ j → j < n → ¬ spn (gC C j) b)) (fun i => (intOf i + 1).toNat)
  case atStart => exact ⟨n, _, rfl, by go_num, Nat.le_refl _, hide (fun j h1 h2 => by omega)⟩
  case round =>
    obtain ⟨k, z, rfl, hz, hk, HN⟩ := hrel
    rcases Nat.eq_zero_or_pos k with h0 | h0
    · have hzn : ¬ 0 ≤ z := by omega
      have hzd : decide (0 ≤ z) = false := by simpa using hzn
      have HC0 : Hid (cls C b = 0) := hide (by have := cls_none C b n (by rw [HCL.out]; exact Nat.le_refl _) (fun j hj => HN.out j (by omega) hj); rw [← HCL.out, List.take_length] at this; exact this)
      clear hz
      go_wp2
      go_ret
      exact ⟨by rw [HC0.out]; rfl, HI.out.B⟩
    · obtain ⟨j, rfl⟩ : ∃ j, k = j + 1 := ⟨k - 1, by omega⟩
      obtain rfl : z = (j : Int) := by omega
      have hj0 : (0 : Int) ≤ (j : Int) := by omega
      have hj1 : (j : Int) < (n : Int) := by omega
      rcases HI.out.c.2 with h1 | ⟨bb, off, rfl, hbw, hcc⟩
      · omega
      obtain ⟨d0, d1, d2⟩ := hcc j (by omega)
      have HAT : Hid (spn (gC C j) b → cls C b = (gC C j).2.2) := hide (fun hs => by have := cls_at C b j hs n (by rw [HCL.out]; exact Nat.le_refl _) (by omega) (fun i h1 h2 => HN.out i (by omega) h2); rw [← HCL.out, List.take_length] at this; exact this)
      have HN2 : Hid (¬ spn (gC C j) b → ∀ i, j ≤ i → i < n → ¬ spn (gC C i) b) := hide (fun hs i h1 h2 => by by_cases e : i = j; · { rw [e]; exact hs }; · { exact HN.out i (by omega) h2 })
      clear hcc hz
      generalize gC C j = c at *
      obtain ⟨lo, hi, x⟩ := c
      simp only at d0 d1 d2
      by_cases g1 : lo ≤ b
      · have g1d : decide (lo ≤ b) = true := by simpa using g1
        by_cases g2 : b ≤ hi
        · have g2d : decide (b ≤ hi) = true := by simpa using g2
          have HF := hide (HAT.out ⟨g1, g2⟩)
          go_wp2
          go_ret
          exact ⟨by rw [HF.out]; rfl, HI.out.B⟩
        · have g2d : decide (b ≤ hi) = false := by simpa using g2
          have HF := hide (HN2.out (fun h => g2 h.2))
          go_wp2
          go_round
          case rel => exact ⟨j, _, rfl, by go_num, by omega, HF⟩
          case measure => simp [intOf]
      · have g1d : decide (lo ≤ b) = false := by simpa using g1
        have HF := hide (HN2.out (fun h => g1 h.1))
        go_wp2
        go_round
        case rel => exact ⟨j, _, rfl, by go_num, by omega, HF⟩
        case measure => simp [intOf]

/-- All is right, as it is told. -/
def RgP (C : List (Int × Int × Int)) (J : List (Int × Int)) (e : Ending) : Prop := (e = .returned (.bool true) ∧ ((∀ c ∈ C, kC c) ∧ ∀ j ∈ J, kJ j)) ∨ (e = .returned (.bool false) ∧ ¬ ((∀ c ∈ C, kC c) ∧ ∀ j ∈ J, kJ j))

set_option maxRecDepth 20000 in
set_option maxHeartbeats 8000000 in
theorem rright8_any (hC : RdC w ao n C) (hJ : RdJ w bo m J) (hn : n ≤ 1000000) (hm : m ≤ 1000000) :
    Calls Tryz.prog 65 #[.agg #[.slice ao n c1, .slice bo m c2]] w fun e w' => RgP C J e ∧ Below w.heap.size w w' := by
  have HI := hide (RbI.new hC hJ c1 c2)
  have HCL := hide hC.1
  have HJL := hide hJ.1
  clear hC hJ
  go_enter Tryz.func65, Tryz.ntmps65
  go_wp2
  generalize w.alloc (.cells #[.slice ao n c1, .slice bo m c2] 37) = w0 at *
  generalize w.heap.size = q at *
  go_loopw [3] (fun i wr => ∃ (k : Nat), i = .int .i64 k ∧ k ≤ n ∧ Hid (∀ j, j < k → kC (gC C j)) ∧ Hid (RbI w q ao n c1 C bo m c2 J wr)) (fun i _ => n - (intOf i).toNat)
  case atStart => exact ⟨0, rfl, Nat.zero_le _, hide (fun j hj => by omega), HI⟩
  case round =>
    obtain ⟨k, rfl, hk, HOK, HW⟩ := hrel
    have b0 := HW.out.b0
    by_cases hlt : k < n
    · have hk0 : (0 : Int) ≤ (k : Int) := by omega
      have hk1 : (k : Int) < (n : Int) := by omega
      have hkl : k < C.length := by rw [HCL.out]; exact hlt
      have HMEM := hide (gC_mem C hkl)
      rcases HW.out.c.2 with h0 | ⟨b, off, rfl, hbw, hcc⟩
      · omega
      obtain ⟨d0, d1, d2⟩ := hcc k hlt
      clear hcc hkl
      have HOK2 : Hid (∀ y, y = gC C k → kC y → ∀ j, j < k + 1 → kC (gC C j)) := hide (fun y hy hk j hj => by by_cases e : j = k; · { rw [e, ← hy]; exact hk }; · { exact HOK.out j (by omega) })
      generalize gC C k = c at *
      obtain ⟨lo, hi, x⟩ := c
      simp only at d0 d1 d2
      have HW2 := hide (HW.out.next (low8 wr (.cells #[.int .i64 lo, .int .i64 hi, .int .i64 x] 142)))
      have HB2 := hide HW2.out.B
      by_cases g1 : lo < 0
      · have g1d : decide (lo < 0) = true := by simpa using g1
        go_wp2
        go_ret
        exact ⟨Or.inr ⟨rfl, fun h => by have := h.1 _ HMEM.out; unfold kC at this; simp only at this; omega⟩, HB2.out⟩
      have g1d : decide (lo < 0) = false := by simpa using g1
      by_cases g2 : hi < lo
      · have g2d : decide (hi < lo) = true := by simpa using g2
        go_wp2
        go_ret
        exact ⟨Or.inr ⟨rfl, fun h => by have := h.1 _ HMEM.out; unfold kC at this; simp only at this; omega⟩, HB2.out⟩
      have g2d : decide (hi < lo) = false := by simpa using g2
      by_cases g3 : 255 < hi
      · have g3d : decide (255 < hi) = true := by simpa using g3
        go_wp2
        go_ret
        exact ⟨Or.inr ⟨rfl, fun h => by have := h.1 _ HMEM.out; unfold kC at this; simp only at this; omega⟩, HB2.out⟩
      have g3d : decide (255 < hi) = false := by simpa using g3
      by_cases g4 : x < 0
      · have g4d : decide (x < 0) = true := by simpa using g4
        go_wp2
        go_ret
        exact ⟨Or.inr ⟨rfl, fun h => by have := h.1 _ HMEM.out; unfold kC at this; simp only at this; omega⟩, HB2.out⟩
      have g4d : decide (x < 0) = false := by simpa using g4
      by_cases g5 : 15 < x
      · have g5d : decide (15 < x) = true := by simpa using g5
        go_wp2
        go_ret
        exact ⟨Or.inr ⟨rfl, fun h => by have := h.1 _ HMEM.out; unfold kC at this; simp only at this; omega⟩, HB2.out⟩
      have g5d : decide (15 < x) = false := by simpa using g5
      have HKC : Hid (kC (lo, hi, x)) := hide (by unfold kC; simp only; omega)
      go_wp2
      go_roundw
      case rel => exact ⟨k + 1, by go_num, by omega, hide (fun j hj => HOK2.out _ rfl HKC.out j hj), HW2⟩
      case measure => simp [intOf]; omega
    · have hkn : k = n := by omega
      have HAC : Hid (∀ c ∈ C, kC c) := hide (fun c hc => by obtain ⟨j, hj, e⟩ := mem_gC hc; rw [← e]; exact HOK.out j (by rw [hkn, ← HCL.out]; exact hj))
      have hk1 : ¬ (k : Int) < (n : Int) := by omega
      clear HOK hkn hlt
      go_wp2
      clear b0
      go_loopw [5] (fun i wr => ∃ (k : Nat), i = .int .i64 k ∧ k ≤ m ∧ Hid (∀ j, j < k → kJ (gJ J j)) ∧ Hid (RbI w q ao n c1 C bo m c2 J wr)) (fun i _ => m - (intOf i).toNat)
      case atStart => exact ⟨0, rfl, Nat.zero_le _, hide (fun j hj => by omega), HW⟩
      case round =>
        clear HW
        obtain ⟨i, rfl, hi, HOJ, HW⟩ := hrel
        have b1 := HW.out.b1
        by_cases hlt : i < m
        · have hk0 : (0 : Int) ≤ (i : Int) := by omega
          have hk1 : (i : Int) < (m : Int) := by omega
          have hkl : i < J.length := by rw [HJL.out]; exact hlt
          have HMEM := hide (gJ_mem J hkl)
          rcases HW.out.j.2 with h0 | ⟨b, off, rfl, hbw, hcc⟩
          · omega
          obtain ⟨d0, d1⟩ := hcc i hlt
          clear hcc hkl
          have HOK2 : Hid (∀ y, y = gJ J i → kJ y → ∀ j, j < i + 1 → kJ (gJ J j)) := hide (fun y hy hk j hj => by by_cases e : j = i; · { rw [e, ← hy]; exact hk }; · { exact HOJ.out j (by omega) })
          generalize gJ J i = c at *
          obtain ⟨x, y⟩ := c
          simp only at d0 d1
          have HW2 := hide (HW.out.next (low8 wr (.cells #[.int .i64 x, .int .i64 y] 123)))
          have HB2 := hide HW2.out.B
          by_cases g1 : x < 0
          · have g1d : decide (x < 0) = true := by simpa using g1
            go_wp2
            go_ret
            exact ⟨Or.inr ⟨rfl, fun h => by have := h.2 _ HMEM.out; unfold kJ at this; simp only at this; omega⟩, HB2.out⟩
          have g1d : decide (x < 0) = false := by simpa using g1
          by_cases g2 : 15 < x
          · have g2d : decide (15 < x) = true := by simpa using g2
            go_wp2
            go_ret
            exact ⟨Or.inr ⟨rfl, fun h => by have := h.2 _ HMEM.out; unfold kJ at this; simp only at this; omega⟩, HB2.out⟩
          have g2d : decide (15 < x) = false := by simpa using g2
          by_cases g3 : y < 0
          · have g3d : decide (y < 0) = true := by simpa using g3
            go_wp2
            go_ret
            exact ⟨Or.inr ⟨rfl, fun h => by have := h.2 _ HMEM.out; unfold kJ at this; simp only at this; omega⟩, HB2.out⟩
          have g3d : decide (y < 0) = false := by simpa using g3
          by_cases g4 : 15 < y
          · have g4d : decide (15 < y) = true := by simpa using g4
            go_wp2
            go_ret
            exact ⟨Or.inr ⟨rfl, fun h => by have := h.2 _ HMEM.out; unfold kJ at this; simp only at this; omega⟩, HB2.out⟩
          have g4d : decide (15 < y) = false := by simpa using g4
          have HKJ : Hid (kJ (x, y)) := hide (by unfold kJ; simp only; omega)
          go_wp2
          go_roundw
          case rel => exact ⟨i + 1, by go_num, by omega, hide (fun j hj => HOK2.out _ rfl HKJ.out j hj), HW2⟩
          case measure => simp [intOf]; omega
        · obtain rfl : i = m := by omega
          go_wp2
          go_ret
          exact ⟨Or.inl ⟨rfl, HAC.out, fun c hc => by obtain ⟨j, hj, e⟩ := mem_gJ hc; rw [← e]; exact HOJ.out j (by rw [← HJL.out]; exact hj)⟩, HW.out.B⟩

end

end Go.Proofs.YtfjcfkkcdbojlaaGreat.Wf.Bq
