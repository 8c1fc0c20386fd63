/- Contracts of package bound: end, Whole, Between, Pieces. Contracts of package bound: Pieces. The law's own example; BoundNone. Contracts of the document's layer 8: Right, Class, Cuts. Contracts of the document's layer 8: Cuts. -/
import Derived.Test.YtdpmjaelbjjanaaGreatZQa11
import Derived.Test.YtdpmjaelbjjanaaGreatZQa6
import Derived.Deep.QuietTactic
import Derived.BigQuiet
namespace Go.Proofs.YtdpmjaelbjjanaaGreat.Wf.Bq
open Go.RowKit
set_option linter.unusedVariables false
set_option linter.unusedSimpArgs false

theorem at_getD (s : ByteArray) (k : Nat) (h : k < s.size) : s.data.toList.getD k 0 = s[k] := by
  have hl : k < s.data.toList.length := by simpa using h
  rw [List.getD_eq_getElem?_getD, List.getElem?_eq_getElem hl]
  rfl
theorem qa_at (q : Int → Int → Bool) (s : ByteArray) (k m : Nat) (e : k + 1 = m) (h : m < s.size) : q ((s[k]'(by omega)).toNat : Int) ((s[m]).toNat : Int) = qa q s.data.toList m := by
  subst e
  unfold qa
  rw [show k + 1 - 1 = k by omega, at_getD s k (by omega), at_getD s (k + 1) h]

/-- Only drawn. -/
def Drn (w w' : World) : Prop := ∃ m, w' = w.drewN m
theorem Drn.below {w w' : World} (h : Drn w w') : Below w.heap.size w w' := by
  obtain ⟨m, rfl⟩ := h
  exact ⟨rfl, rfl, rfl, Nat.le_refl _, fun _ _ => rfl⟩
theorem Drn.refl (w : World) : Drn w w := ⟨0, rfl⟩
theorem Drn.more {w w' : World} (h : Drn w w') (n : Nat) : Drn w (w'.drewN n) := by
  obtain ⟨m, rfl⟩ := h
  exact ⟨m + n, by rw [World.drewN_drewN]⟩

/-- The first piece's end. -/
structure EndP (q : Int → Int → Bool) (s : List UInt8) (k : Nat) : Prop where
  le : k ≤ s.length
  pos : 0 < s.length → 0 < k
  no : ∀ j, 0 < j → j < k → qa q s j = false
  yes : k < s.length → qa q s k = true

set_option maxRecDepth 20000 in
set_option maxHeartbeats 4000000 in
theorem end_dr {pv : Value} {q : Int → Int → Bool} {w : World} (hT : Tb pv q w) (s : ByteArray) (hs : s.size ≤ 9223372036854775806) :
    Calls Tryz.prog 152 #[pv, .string s] w fun e w' => (∃ k : Nat, e = .returned (.int .i64 k) ∧ EndP q s.data.toList k) ∧ Drn w w' := by
  have HT := hide hT
  clear hT
  have hsl : s.data.toList.length = s.size := by simp
  have HSL := hide hsl
  clear hsl
  go_enter Tryz.func152, Tryz.ntmps152
  go_wp2
  go_loopw [5] (fun i wr => ∃ (m : Nat), i = .int .i64 (m : Int) ∧ 1 ≤ m ∧ (m = 1 ∨ m ≤ s.size) ∧ Hid (∀ j, 0 < j → j < m → qa q s.data.toList j = false) ∧ Hid (Drn w wr)) (fun i _ => s.size - (intOf i).toNat)
  case atStart => exact ⟨1, by go_num, Nat.le_refl _, Or.inl rfl, hide (fun j h1 h2 => by omega), hide (Drn.refl _)⟩
  case round =>
    obtain ⟨m, rfl, hm1, hm, HN, HB⟩ := hrel
    by_cases hlt : m < s.size
    · obtain ⟨k, hkm⟩ : ∃ k, k + 1 = m := ⟨m - 1, by omega⟩
      have hks : k < s.size := by omega
      have HQ : Hid (q (s[k].toNat : Int) (s[m].toNat : Int) = qa q s.data.toList m) := hide (qa_at q s k m hkm hlt)
      have HC := hide (fun (n : Nat) => cutsT ((HT.out.kept HB.out.below).drewN n) s[k] s[m])
      have hk2 : (k : Int) < (s.size : Int) := by omega
      have hk0 : (0 : Int) ≤ (k : Int) := by omega
      have hm0 : (0 : Int) ≤ (m : Int) := by omega
      have hm2 : (m : Int) < (s.size : Int) := by omega
      have hwr : IntKind.i64.wrap ((m : Int) - 1) = (k : Int) := by rw [IntKind.wrap_i64]; omega
      have HKM := hide hkm
      replace hkm := True.intro
      go_wp2
      go_quiet ((go_at_call 127; exact Calls.quiet_of_same (HC.out _)))
      have HD : Hid (Drn w (wr.drewN nq)) := hide (HB.out.more nq)
      clear HC
      generalize wr.drewN nq = wd at *
      rw [HQ.out]
      by_cases hq : qa q s.data.toList m = true
      · have HQ2 := hide hq
        rw [hq]
        clear hq HQ
        go_wp2
        go_ret
        exact ⟨⟨m, rfl, by rw [HSL.out]; omega, fun _ => by omega, HN.out, fun _ => HQ2.out⟩, HD.out⟩
      · have hq2 : qa q s.data.toList m = false := by simpa using hq
        have HQ2 := hide hq2
        rw [hq2]
        clear hq hq2 HQ
        go_wp2
        go_roundw
        case rel => exact ⟨m + 1, by go_num, by omega, by omega, hide (fun j h1 h2 => by by_cases e : j = m; · { rw [e]; exact HQ2.out }; · { exact HN.out j h1 (by omega) }), HD⟩
        case measure => simp [intOf]; omega
    · have hm2 : ¬ (m : Int) < (s.size : Int) := by omega
      go_wp2
      go_ret
      refine ⟨⟨s.size, rfl, by rw [HSL.out]; exact Nat.le_refl _, fun h => by rw [HSL.out] at h; exact h, fun j h1 h2 => HN.out j h1 (by omega), fun h => by rw [HSL.out] at h; omega⟩, HB.out⟩

theorem whole_dr {pv : Value} {q : Int → Int → Bool} {w : World} (hT : Tb pv q w) (s : ByteArray) (hs : s.size ≤ 9223372036854775806) :
    Calls Tryz.prog 124 #[pv, .string s] w fun e w' => e = .returned (.bool (decide ((pcs q s.data.toList).length < 2))) ∧ Drn w w' := by
  have HE := hide (end_dr hT s hs)
  have hsl : s.data.toList.length = s.size := by simp
  have HSL := hide hsl
  clear hT hsl
  go_enter Tryz.func124, Tryz.ntmps124
  go_wp2_with fail
  refine (unhide HE).mono ?_
  rintro e w1 ⟨⟨k, rfl, hk⟩, hb⟩
  have HK := hide hk
  have hle : k ≤ s.size := by have := hk.le; rw [HSL.out] at this; exact this
  have hiff : (pcs q s.data.toList).length < 2 ↔ k = s.size := by
    rw [pcs_len]
    by_cases h0 : s.data.toList.length = 0
    · rw [h0]
      simp only [cnt]
      constructor
      · intro _; rw [HSL.out] at h0; omega
      · intro _; omega
    · rw [cnt_one _ _ (by omega)]
      constructor
      · intro h
        rcases Nat.lt_or_ge k s.size with h1 | h1
        · have h2 := hk.yes (by rw [HSL.out]; exact h1)
          rw [h k (hk.pos (by omega)) (by rw [HSL.out]; exact h1)] at h2
          cases h2
        · omega
      · intro h
        have := hk.no
        rw [h, ← HSL.out] at this
        exact this
  have HI := hide hiff
  clear hk hiff HE
  by_cases e : k = s.size
  · have HT := hide (HI.out.2 e)
    have hd : ((k : Int) == (s.size : Int)) = true := by simp; omega
    go_wp2
    go_ret
    exact ⟨by simp [HT.out, e], hb⟩
  · have HT := hide (fun h => e (HI.out.1 h))
    have hd : ((k : Int) == (s.size : Int)) = false := by simp; omega
    go_wp2
    go_ret
    exact ⟨by rw [decide_eq_false HT.out]; first | rfl | simp [e], hb⟩

theorem whole_any {pv : Value} {q : Int → Int → Bool} {w : World} (hT : Tb pv q w) (s : ByteArray) (hs : s.size ≤ 9223372036854775806) :
    Calls Tryz.prog 124 #[pv, .string s] w fun e w' => e = .returned (.bool (decide ((pcs q s.data.toList).length < 2))) ∧ Below w.heap.size w w' :=
  (whole_dr hT s hs).mono fun _ _ h => ⟨h.1, h.2.below⟩

/-- Is it cut between two texts? -/
def btw (q : Int → Int → Bool) (a b : List UInt8) : Bool := decide (a ≠ []) && (decide (b ≠ []) && q ((a.getLastD 0).toNat : Int) ((b.headD 0).toNat : Int))
theorem ba_size (s : ByteArray) : s.toList.length = s.size := by rw [ByteArray.toList_eq, Array.length_toList]; rfl
theorem ba_ne {s : ByteArray} (h : 0 < s.size) : s.toList.isEmpty = false := by
  rw [← Bool.not_eq_true, List.isEmpty_iff_length_eq_zero, ba_size]
  omega
theorem ba_nil {a : ByteArray} (h : a.size = 0) : a = ⟨#[]⟩ := by
  obtain ⟨l⟩ := a
  have : l.size = 0 := h
  rw [Array.size_eq_zero_iff.1 this]
set_option maxRecDepth 20000 in
set_option maxHeartbeats 4000000 in
theorem between_dr {pv : Value} {q : Int → Int → Bool} {w : World} (hT : Tb pv q w) (a b : ByteArray) (ha : a.size ≤ 9223372036854775806) :
    Calls Tryz.prog 95 #[pv, .string a, .string b] w fun e w' => e = .returned (.bool (btw q a.data.toList b.data.toList)) ∧ Drn w w' := by
  have HT := hide hT
  clear hT
  by_cases h0 : a.size = 0
  · obtain rfl := ba_nil h0
    have hr : btw q (⟨#[]⟩ : ByteArray).data.toList b.data.toList = false := by simp [btw]
    rw [hr]
    go_enter Tryz.func95, Tryz.ntmps95
    go_wp2
    go_quiet (fail)
    have HD : Hid (Drn w (w.drewN nq)) := hide ⟨nq, rfl⟩
    generalize w.drewN nq = wd at *
    go_wp2
    go_ret
    exact ⟨rfl, HD.out⟩
  by_cases h1 : b.size = 0
  · obtain rfl := ba_nil h1
    have hr : btw q a.data.toList (⟨#[]⟩ : ByteArray).data.toList = false := by simp [btw]
    rw [hr]
    have hne := ba_ne (show 0 < a.size by omega)
    go_enter Tryz.func95, Tryz.ntmps95
    go_wp2
    go_quiet (fail)
    have HD : Hid (Drn w (w.drewN nq)) := hide ⟨nq, rfl⟩
    generalize w.drewN nq = wd at *
    go_wp2
    go_ret
    exact ⟨rfl, HD.out⟩
  obtain ⟨k, hkm⟩ : ∃ k, k + 1 = a.size := ⟨a.size - 1, by omega⟩
  have hks : k < a.size := by omega
  have hb0 : 0 < b.size := by omega
  have hr : btw q a.data.toList b.data.toList = q (a[k].toNat : Int) (b[0].toNat : Int) := by
    have e1 : a.data.toList.getLastD 0 = a[k] := by
      rw [← at_getD a k hks, List.getLastD_eq_getLast?, List.getLast?_eq_getElem?, List.getD_eq_getElem?_getD]
      congr 2
      simp
      omega
    have e2 : b.data.toList.headD 0 = b[0] := by
      rw [← at_getD b 0 hb0, List.getD_eq_getElem?_getD, List.headD_eq_head?_getD, List.head?_eq_getElem?]
    have e3 : a.data.toList ≠ [] := fun e => by have : a.data.toList.length = 0 := by rw [e]; rfl
                                                have h2 : a.data.toList.length = a.size := by simp
                                                omega
    have e4 : b.data.toList ≠ [] := fun e => by have : b.data.toList.length = 0 := by rw [e]; rfl
                                                have h2 : b.data.toList.length = b.size := by simp
                                                omega
    unfold btw
    rw [e1, e2, decide_eq_true e3, decide_eq_true e4]
    rfl
  rw [hr]
  have HC := hide (fun (n : Nat) => cutsT (HT.out.drewN n) a[k] b[0])
  have hne := ba_ne (show 0 < a.size by omega)
  have hne2 := ba_ne hb0
  have hk2 : (k : Int) < (a.size : Int) := by omega
  have hk0 : (0 : Int) ≤ (k : Int) := by omega
  have hb2 : (0 : Int) < (b.size : Int) := by omega
  have hwr : IntKind.i64.wrap ((a.size : Int) - 1) = (k : Int) := by rw [IntKind.wrap_i64]; omega
  clear hr hkm
  go_enter Tryz.func95, Tryz.ntmps95
  go_wp2
  go_quiet ((go_at_call 127; exact Calls.quiet_of_same (HC.out _)))
  have HD : Hid (Drn w (w.drewN nq)) := hide ⟨nq, rfl⟩
  clear HC
  generalize w.drewN nq = wd at *
  go_wp2
  go_ret
  exact ⟨rfl, HD.out⟩

theorem between_any {pv : Value} {q : Int → Int → Bool} {w : World} (hT : Tb pv q w) (a b : ByteArray) (ha : a.size ≤ 9223372036854775806) :
    Calls Tryz.prog 95 #[pv, .string a, .string b] w fun e w' => e = .returned (.bool (btw q a.data.toList b.data.toList)) ∧ Below w.heap.size w w' :=
  (between_dr hT a b ha).mono fun _ _ h => ⟨h.1, h.2.below⟩

end Go.Proofs.YtdpmjaelbjjanaaGreat.Wf.Bq

namespace Go.Proofs.YtdpmjaelbjjanaaGreat.Wf.Bq
open Go.RowKit
set_option linter.unusedVariables false
set_option linter.unusedSimpArgs false

theorem rowB {w w' : World} {B : Nat} {E : TypeId} {size : Nat} {v : Value} {n : Nat} {xs : List Value} (h : w.ownsRow B E size v n xs) (hb : Below w.heap.size w w') : w'.ownsRow B E size v n xs :=
  h.kept (row := none) ⟨hb.os, hb.tape, hb.output, hb.size, fun k hk _ => hb.block k hk⟩ (by cases v.ownBlock <;> simp)
/-- Texts out of lists of bytes. -/
def bts (l : List (List UInt8)) : List ByteArray := l.map (fun x => ⟨x.toArray⟩)
theorem tv_get (l : List (List UInt8)) (i : Nat) (hi : i < l.length) : (tv l)[i]? = some (.string (gT (bts l) i)) := by
  simp [tv, gT, bts, hi]
theorem RdT.row {w : World} {base : Nat} {ao : Option Addr} {n cap : Nat} {l : List (List UInt8)} (h : w.ownsRow base 9 1 (.slice ao n cap) n (tv l)) (hl : l.length = n) : RdT w ao n (bts l) := by
  refine ⟨by simp [bts, hl], ?_⟩
  rcases Nat.eq_zero_or_pos n with h0 | h0
  · exact Or.inl h0
  obtain ⟨g, cap', e, hb, hg⟩ := h.form h0
  simp only [Value.slice.injEq] at e
  obtain ⟨rfl, -, rfl⟩ := e
  refine Or.inr ⟨g, 0, rfl, hg, fun i hi => ?_⟩
  rw [Nat.zero_add, h.cellAt i (by omega)]
  exact tv_get l i (by omega)
def szOf : Value → Nat
  | .string t => t.size
  | _ => 0
end Go.Proofs.YtdpmjaelbjjanaaGreat.Wf.Bq

namespace Go.Proofs.YtdpmjaelbjjanaaGreat.Wf.Bq
open Go.RowKit
set_option linter.unusedVariables false
set_option linter.unusedSimpArgs false

theorem low8 (w : World) (o : Obj) : Below w.heap.size w (w.alloc o) := (Below.refl _ _).alloc (Nat.le_refl _) _
def eC : List (Int × Int × Int) := [(97, 122, 1)]
end Go.Proofs.YtdpmjaelbjjanaaGreat.Wf.Bq

namespace Go.Proofs.YtdpmjaelbjjanaaGreat.Wf.Bq
open Go.RowKit
set_option linter.unusedVariables false
set_option linter.unusedSimpArgs false

/-- A region that draws its order, in whatever class of worlds. -/
theorem region_class {P : Program} {α : Type} (f : α → World) {id : Nat} {Q : Exit → Act → World → Prop} {a : Act} {w : World} {l : List Oper} (hm : P.follows .mixedOrders = true) (hB : Region.lexB .any l.toArray = true) (p0 : α) (h0 : w.drew = f p0)
    (h : wpQuiet P l.toArray (fun w' => ∃ p : α, w' = f p) (fun a' => ∀ w', (∃ p : α, w' = f p) → Q .normal a' w') l a) : (Code.region id l.toArray true).wp P Q a w :=
  wp_region_quiet (C := fun w' => ∃ p : α, w' = f p) hm hB ⟨p0, h0⟩ (by simpa using h)
/-- Worlds in which M holds. -/
structure Wd (M : World → Prop) where
  W : World
  h : M W
theorem Calls.toW {P : Program} {f : FuncId} {args : Array Value} {M : World → Prop} (K : ∀ W W', M W → Below W.heap.size W W' → M W') (p : Wd M) {v : Value} (h : Calls P f args p.W fun e w' => e = .returned v ∧ Below p.W.heap.size p.W w') : Calls P f args p.W fun e w' => e = .returned v ∧ ∃ p' : Wd M, w' = p'.W :=
  h.mono fun _ _ ⟨he, hb⟩ => ⟨he, ⟨_, K _ _ p.h hb⟩, rfl⟩

/-- The document's table, in a box. -/
structure RbI (w : World) (q : Nat) (ao : Option Addr) (n c1 : Nat) (C : List (Int × Int × Int)) (bo : Option Addr) (m c2 : Nat) (J : List (Int × Int)) (W : World) : Prop where
  c : RdC W ao n C
  j : RdJ W bo m J
  b0 : W.cell? ⟨q, 0, none⟩ = some (.slice ao n c1)
  b1 : W.cell? ⟨q, 1, none⟩ = some (.slice bo m c2)
  lt : q < W.heap.size
  B : Below w.heap.size w W
section
variable {w : World} {q : Nat} {ao : Option Addr} {n c1 : Nat} {C : List (Int × Int × Int)} {bo : Option Addr} {m c2 : Nat} {J : List (Int × Int)} {W W' : World}
theorem RbI.next (h : RbI w q ao n c1 C bo m c2 J W) (hb : Below W.heap.size W W') : RbI w q ao n c1 C bo m c2 J W' :=
  ⟨h.c.kept hb, h.j.kept hb, (hb.cell h.lt).trans h.b0, (hb.cell h.lt).trans h.b1, Nat.lt_of_lt_of_le h.lt hb.size, h.B.trans (hb.mono h.B.size)⟩
theorem RbI.drew (h : RbI w q ao n c1 C bo m c2 J W) : RbI w q ao n c1 C bo m c2 J W.drew := h.next ⟨rfl, rfl, rfl, Nat.le_refl _, fun _ _ => rfl⟩
theorem RbI.new (hC : RdC w ao n C) (hJ : RdJ w bo m J) (c1 c2 : Nat) : RbI w w.heap.size ao n c1 C bo m c2 J (w.alloc (.cells #[.slice ao n c1, .slice bo m c2] 36)) :=
  ⟨hC.kept (low8 _ _), hJ.kept (low8 _ _), by simp, by simp, by simp, low8 _ _⟩

set_option maxRecDepth 20000 in
set_option maxHeartbeats 4000000 in
theorem rclass_any (hC : RdC w ao n C) (hJ : RdJ w bo m J) (hn : n ≤ 1000000) (b : Int) (hb : 0 ≤ b ∧ b ≤ 255) :
    Calls Tryz.prog 44 #[.agg #[.slice ao n c1, .slice bo m c2], .int .u8 b] w fun e w' => e = .returned (.int .i64 (cls C b)) ∧ Below w.heap.size w w' := by
  have HI := hide (RbI.new hC hJ c1 c2)
  have hCl := hC.1
  have HCL := hide hCl
  have b0 := HI.out.b0
  have hwb : IntKind.i64.wrap b = b := by rw [IntKind.wrap_i64]; omega
  clear hC hJ hCl
  go_enter Tryz.func44, Tryz.ntmps44
  go_wp2
  generalize w.alloc (.cells #[.slice ao n c1, .slice bo m c2] 36) = w0 at *
  generalize w.heap.size = q at *
  go_loop [5] (fun i => ∃ (k : Nat) (z : Int), i = .int .i64 z ∧ z = (k : Int) - 1 ∧ k ≤ n ∧ Hid (∀ j, k ≤ j → j < n → ¬ spn (gC C j) b)) (fun i => (intOf i + 1).toNat)
  case atStart => exact ⟨n, _, rfl, by go_num, Nat.le_refl _, hide (fun j h1 h2 => by omega)⟩
  case round =>
    obtain ⟨k, z, rfl, hz, hk, HN⟩ := hrel
    rcases Nat.eq_zero_or_pos k with h0 | h0
    · have hzn : ¬ 0 ≤ z := by omega
      have hzd : decide (0 ≤ z) = false := by simpa using hzn
      have HC0 : Hid (cls C b = 0) := hide (by have := cls_none C b n (by rw [HCL.out]; exact Nat.le_refl _) (fun j hj => HN.out j (by omega) hj); rw [← HCL.out, List.take_length] at this; exact this)
      clear hz
      go_wp2
      go_ret
      exact ⟨by rw [HC0.out]; rfl, HI.out.B⟩
    · obtain ⟨j, rfl⟩ : ∃ j, k = j + 1 := ⟨k - 1, by omega⟩
      obtain rfl : z = (j : Int) := by omega
      have hj0 : (0 : Int) ≤ (j : Int) := by omega
      have hj1 : (j : Int) < (n : Int) := by omega
      rcases HI.out.c.2 with h1 | ⟨bb, off, rfl, hbw, hcc⟩
      · omega
      obtain ⟨d0, d1, d2⟩ := hcc j (by omega)
      have HAT : Hid (spn (gC C j) b → cls C b = (gC C j).2.2) := hide (fun hs => by have := cls_at C b j hs n (by rw [HCL.out]; exact Nat.le_refl _) (by omega) (fun i h1 h2 => HN.out i (by omega) h2); rw [← HCL.out, List.take_length] at this; exact this)
      have HN2 : Hid (¬ spn (gC C j) b → ∀ i, j ≤ i → i < n → ¬ spn (gC C i) b) := hide (fun hs i h1 h2 => by by_cases e : i = j; · { rw [e]; exact hs }; · { exact HN.out i (by omega) h2 })
      clear hcc hz
      generalize gC C j = c at *
      obtain ⟨lo, hi, x⟩ := c
      simp only at d0 d1 d2
      by_cases g1 : lo ≤ b
      · have g1d : decide (lo ≤ b) = true := by simpa using g1
        by_cases g2 : b ≤ hi
        · have g2d : decide (b ≤ hi) = true := by simpa using g2
          have HF := hide (HAT.out ⟨g1, g2⟩)
          go_wp2
          go_ret
          exact ⟨by rw [HF.out]; rfl, HI.out.B⟩
        · have g2d : decide (b ≤ hi) = false := by simpa using g2
          have HF := hide (HN2.out (fun h => g2 h.2))
          go_wp2
          go_round
          case rel => exact ⟨j, _, rfl, by go_num, by omega, HF⟩
          case measure => simp [intOf]
      · have g1d : decide (lo ≤ b) = false := by simpa using g1
        have HF := hide (HN2.out (fun h => g1 h.1))
        go_wp2
        go_round
        case rel => exact ⟨j, _, rfl, by go_num, by omega, HF⟩
        case measure => simp [intOf]

/-- All is right, as it is told. -/
def RgP (C : List (Int × Int × Int)) (J : List (Int × Int)) (e : Ending) : Prop := (e = .returned (.bool true) ∧ ((∀ c ∈ C, kC c) ∧ ∀ j ∈ J, kJ j)) ∨ (e = .returned (.bool false) ∧ ¬ ((∀ c ∈ C, kC c) ∧ ∀ j ∈ J, kJ j))

set_option maxRecDepth 20000 in
set_option maxHeartbeats 8000000 in
theorem rright8_any (hC : RdC w ao n C) (hJ : RdJ w bo m J) (hn : n ≤ 1000000) (hm : m ≤ 1000000) :
    Calls Tryz.prog 69 #[.agg #[.slice ao n c1, .slice bo m c2]] w fun e w' => RgP C J e ∧ Below w.heap.size w w' := by
  have HI := hide (RbI.new hC hJ c1 c2)
  have HCL := hide hC.1
  have HJL := hide hJ.1
  clear hC hJ
  go_enter Tryz.func69, Tryz.ntmps69
  go_wp2
  generalize w.alloc (.cells #[.slice ao n c1, .slice bo m c2] 36) = w0 at *
  generalize w.heap.size = q at *
  go_loopw [3] (fun i wr => ∃ (k : Nat), i = .int .i64 k ∧ k ≤ n ∧ Hid (∀ j, j < k → kC (gC C j)) ∧ Hid (RbI w q ao n c1 C bo m c2 J wr)) (fun i _ => n - (intOf i).toNat)
  case atStart => exact ⟨0, rfl, Nat.zero_le _, hide (fun j hj => by omega), HI⟩
  case round =>
    obtain ⟨k, rfl, hk, HOK, HW⟩ := hrel
    have b0 := HW.out.b0
    by_cases hlt : k < n
    · have hk0 : (0 : Int) ≤ (k : Int) := by omega
      have hk1 : (k : Int) < (n : Int) := by omega
      have hkl : k < C.length := by rw [HCL.out]; exact hlt
      have HMEM := hide (gC_mem C hkl)
      rcases HW.out.c.2 with h0 | ⟨b, off, rfl, hbw, hcc⟩
      · omega
      obtain ⟨d0, d1, d2⟩ := hcc k hlt
      clear hcc hkl
      have HOK2 : Hid (∀ y, y = gC C k → kC y → ∀ j, j < k + 1 → kC (gC C j)) := hide (fun y hy hk j hj => by by_cases e : j = k; · { rw [e, ← hy]; exact hk }; · { exact HOK.out j (by omega) })
      generalize gC C k = c at *
      obtain ⟨lo, hi, x⟩ := c
      simp only at d0 d1 d2
      have HW2 := hide (HW.out.next (low8 wr (.cells #[.int .i64 lo, .int .i64 hi, .int .i64 x] 130)))
      have HB2 := hide HW2.out.B
      by_cases g1 : lo < 0
      · have g1d : decide (lo < 0) = true := by simpa using g1
        go_wp2
        go_ret
        exact ⟨Or.inr ⟨rfl, fun h => by have := h.1 _ HMEM.out; unfold kC at this; simp only at this; omega⟩, HB2.out⟩
      have g1d : decide (lo < 0) = false := by simpa using g1
      by_cases g2 : hi < lo
      · have g2d : decide (hi < lo) = true := by simpa using g2
        go_wp2
        go_ret
        exact ⟨Or.inr ⟨rfl, fun h => by have := h.1 _ HMEM.out; unfold kC at this; simp only at this; omega⟩, HB2.out⟩
      have g2d : decide (hi < lo) = false := by simpa using g2
      by_cases g3 : 255 < hi
      · have g3d : decide (255 < hi) = true := by simpa using g3
        go_wp2
        go_ret
        exact ⟨Or.inr ⟨rfl, fun h => by have := h.1 _ HMEM.out; unfold kC at this; simp only at this; omega⟩, HB2.out⟩
      have g3d : decide (255 < hi) = false := by simpa using g3
      by_cases g4 : x < 0
      · have g4d : decide (x < 0) = true := by simpa using g4
        go_wp2
        go_ret
        exact ⟨Or.inr ⟨rfl, fun h => by have := h.1 _ HMEM.out; unfold kC at this; simp only at this; omega⟩, HB2.out⟩
      have g4d : decide (x < 0) = false := by simpa using g4
      by_cases g5 : 15 < x
      · have g5d : decide (15 < x) = true := by simpa using g5
        go_wp2
        go_ret
        exact ⟨Or.inr ⟨rfl, fun h => by have := h.1 _ HMEM.out; unfold kC at this; simp only at this; omega⟩, HB2.out⟩
      have g5d : decide (15 < x) = false := by simpa using g5
      have HKC : Hid (kC (lo, hi, x)) := hide (by unfold kC; simp only; omega)
      go_wp2
      go_roundw
      case rel => exact ⟨k + 1, by go_num, by omega, hide (fun j hj => HOK2.out _ rfl HKC.out j hj), HW2⟩
      case measure => simp [intOf]; omega
    · have hkn : k = n := by omega
      have HAC : Hid (∀ c ∈ C, kC c) := hide (fun c hc => by obtain ⟨j, hj, e⟩ := mem_gC hc; rw [← e]; exact HOK.out j (by rw [hkn, ← HCL.out]; exact hj))
      have hk1 : ¬ (k : Int) < (n : Int) := by omega
      clear HOK hkn hlt
      go_wp2
      clear b0
      go_loopw [5] (fun i wr => ∃ (k : Nat), i = .int .i64 k ∧ k ≤ m ∧ Hid (∀ j, j < k → kJ (gJ J j)) ∧ Hid (RbI w q ao n c1 C bo m c2 J wr)) (fun i _ => m - (intOf i).toNat)
      case atStart => exact ⟨0, rfl, Nat.zero_le _, hide (fun j hj => by omega), HW⟩
      case round =>
        clear HW
        obtain ⟨i, rfl, hi, HOJ, HW⟩ := hrel
        have b1 := HW.out.b1
        by_cases hlt : i < m
        · have hk0 : (0 : Int) ≤ (i : Int) := by omega
          have hk1 : (i : Int) < (m : Int) := by omega
          have hkl : i < J.length := by rw [HJL.out]; exact hlt
          have HMEM := hide (gJ_mem J hkl)
          rcases HW.out.j.2 with h0 | ⟨b, off, rfl, hbw, hcc⟩
          · omega
          obtain ⟨d0, d1⟩ := hcc i hlt
          clear hcc hkl
          have HOK2 : Hid (∀ y, y = gJ J i → kJ y → ∀ j, j < i + 1 → kJ (gJ J j)) := hide (fun y hy hk j hj => by by_cases e : j = i; · { rw [e, ← hy]; exact hk }; · { exact HOJ.out j (by omega) })
          generalize gJ J i = c at *
          obtain ⟨x, y⟩ := c
          simp only at d0 d1
          have HW2 := hide (HW.out.next (low8 wr (.cells #[.int .i64 x, .int .i64 y] 95)))
          have HB2 := hide HW2.out.B
          by_cases g1 : x < 0
          · have g1d : decide (x < 0) = true := by simpa using g1
            go_wp2
            go_ret
            exact ⟨Or.inr ⟨rfl, fun h => by have := h.2 _ HMEM.out; unfold kJ at this; simp only at this; omega⟩, HB2.out⟩
          have g1d : decide (x < 0) = false := by simpa using g1
          by_cases g2 : 15 < x
          · have g2d : decide (15 < x) = true := by simpa using g2
            go_wp2
            go_ret
            exact ⟨Or.inr ⟨rfl, fun h => by have := h.2 _ HMEM.out; unfold kJ at this; simp only at this; omega⟩, HB2.out⟩
          have g2d : decide (15 < x) = false := by simpa using g2
          by_cases g3 : y < 0
          · have g3d : decide (y < 0) = true := by simpa using g3
            go_wp2
            go_ret
            exact ⟨Or.inr ⟨rfl, fun h => by have := h.2 _ HMEM.out; unfold kJ at this; simp only at this; omega⟩, HB2.out⟩
          have g3d : decide (y < 0) = false := by simpa using g3
          by_cases g4 : 15 < y
          · have g4d : decide (15 < y) = true := by simpa using g4
            go_wp2
            go_ret
            exact ⟨Or.inr ⟨rfl, fun h => by have := h.2 _ HMEM.out; unfold kJ at this; simp only at this; omega⟩, HB2.out⟩
          have g4d : decide (15 < y) = false := by simpa using g4
          have HKJ : Hid (kJ (x, y)) := hide (by unfold kJ; simp only; omega)
          go_wp2
          go_roundw
          case rel => exact ⟨i + 1, by go_num, by omega, hide (fun j hj => HOK2.out _ rfl HKJ.out j hj), HW2⟩
          case measure => simp [intOf]; omega
        · obtain rfl : i = m := by omega
          go_wp2
          go_ret
          exact ⟨Or.inl ⟨rfl, HAC.out, fun c hc => by obtain ⟨j, hj, e⟩ := mem_gJ hc; rw [← e]; exact HOJ.out j (by rw [← HJL.out]; exact hj)⟩, HW.out.B⟩

end

end Go.Proofs.YtdpmjaelbjjanaaGreat.Wf.Bq

namespace Go.Proofs.YtdpmjaelbjjanaaGreat.Wf.Bq
open Go.RowKit
set_option linter.unusedVariables false
set_option linter.unusedSimpArgs false

section
variable {w : World} {q : Nat} {ao : Option Addr} {n c1 : Nat} {C : List (Int × Int × Int)} {bo : Option Addr} {m c2 : Nat} {J : List (Int × Int)} {W W' : World}
set_option maxRecDepth 20000 in
set_option maxHeartbeats 8000000 in
theorem rcuts_any (hC : RdC w ao n C) (hJ : RdJ w bo m J) (hn : n ≤ 1000000) (hm : m ≤ 1000000) (a b : Int) (ha : 0 ≤ a ∧ a ≤ 255) (hb : 0 ≤ b ∧ b ≤ 255) :
    Calls Tryz.prog 15 #[.agg #[.slice ao n c1, .slice bo m c2], .int .u8 a, .int .u8 b] w fun e w' => e = .returned (.bool (cutP C J a b)) ∧ Below w.heap.size w w' := by
  have HI := hide (RbI.new hC hJ c1 c2)
  have HJL := hide hJ.1
  have HK := hide (fun (p : Wd (RbI w w.heap.size ao n c1 C bo m c2 J)) (z : Int) (hz : 0 ≤ z ∧ z ≤ 255) => Calls.toW (fun _ _ h hb => h.next hb) p (rclass_any (c1 := c1) (c2 := c2) p.h.c p.h.j hn z hz))
  have e0 : ∀ p : Wd (RbI w w.heap.size ao n c1 C bo m c2 J), p.W.cell? ⟨w.heap.size, 0, none⟩ = some (.slice ao n c1) := fun p => p.h.b0
  have e1 : ∀ p : Wd (RbI w w.heap.size ao n c1 C bo m c2 J), p.W.cell? ⟨w.heap.size, 1, none⟩ = some (.slice bo m c2) := fun p => p.h.b1
  have ne : Nonempty (Wd (RbI w w.heap.size ao n c1 C bo m c2 J)) := ⟨⟨_, HI.out.drew⟩⟩
  have HCU : Hid (cutP C J a b = decide (cls C a ≠ cls C b ∧ (cls C a, cls C b) ∉ J)) := hide rfl
  clear hC hJ
  go_enter Tryz.func15, Tryz.ntmps15
  go_wp2
  refine region_class (α := Wd (RbI w w.heap.size ao n c1 C bo m c2 J)) Wd.W (by kernel_rfl) (by kernel_rfl) ⟨_, HI.out.drew⟩ rfl ?_
  repeat (go_big_quiet_step ((go_at_call 44; exact HK.out _ _ (by first | exact ha | exact hb))))
  refine wpQuiet_nil ?_
  intro _ hw'
  obtain ⟨⟨W, hW⟩, rfl⟩ := hw'
  have HW := hide hW
  have b1 := hW.b1
  clear hW HK e0 e1 ne HI
  generalize cls C a = x at *
  generalize cls C b = y at *
  go_wp2
  generalize w.heap.size = q at *
  go_loop [9] (fun i => ∃ (k : Nat), i = .int .i64 k ∧ k ≤ m ∧ Hid (∀ j, j < k → gJ J j ≠ (x, y))) (fun i => m - (intOf i).toNat)
  case atStart => exact ⟨0, rfl, Nat.zero_le _, hide (fun j hj => by omega)⟩
  case round =>
    obtain ⟨k, rfl, hk, HN⟩ := hrel
    by_cases hlt : k < m
    · have hk0 : (0 : Int) ≤ (k : Int) := by omega
      have hk1 : (k : Int) < (m : Int) := by omega
      have hkl : k < J.length := by rw [HJL.out]; exact hlt
      have HMEM := hide (gJ_mem J hkl)
      rcases HW.out.j.2 with h0 | ⟨bb, off, rfl, hbw, hcc⟩
      · omega
      obtain ⟨d0, d1⟩ := hcc k hlt
      have HN2 : Hid (gJ J k ≠ (x, y) → ∀ j, j < k + 1 → gJ J j ≠ (x, y)) := hide (fun h j hj => by by_cases e : j = k; · { rw [e]; exact h }; · { exact HN.out j (by omega) })
      clear hcc hkl
      generalize gJ J k = c at *
      obtain ⟨u, v⟩ := c
      simp only at d0 d1
      by_cases g1 : u = x
      · subst g1
        have g1d : (u == u) = true := by simp
        by_cases g2 : v = y
        · subst g2
          have HF : Hid (cutP C J a b = false) := hide (by rw [HCU.out]; simp [HMEM.out])
          go_wp2
          go_ret
          exact ⟨by rw [HF.out]; rfl, HW.out.B⟩
        · have g2d : (v == y) = false := by simpa using g2
          have HF := hide (HN2.out (fun e => g2 (by injection e)))
          go_wp2
          go_round
          case rel => exact ⟨k + 1, by go_num, by omega, HF⟩
          case measure => simp [intOf]; omega
      · have g1d : (u == x) = false := by simpa using g1
        have HF := hide (HN2.out (fun e => g1 (by injection e)))
        go_wp2
        go_round
        case rel => exact ⟨k + 1, by go_num, by omega, HF⟩
        case measure => simp [intOf]; omega
    · have hk1 : ¬ (k : Int) < (m : Int) := by omega
      have HF : Hid (cutP C J a b = !(x == y)) := hide (by
        rw [HCU.out]
        have hno : (x, y) ∉ J := fun h => by obtain ⟨j, hj, e⟩ := mem_gJ h; exact HN.out j (by rw [HJL.out] at hj; omega) e
        by_cases e : x = y
        · simp [e]
        · simp [e, hno])
      go_wp2
      go_ret
      exact ⟨by rw [HF.out]; first | rfl | simp, HW.out.B⟩
end

end Go.Proofs.YtdpmjaelbjjanaaGreat.Wf.Bq
