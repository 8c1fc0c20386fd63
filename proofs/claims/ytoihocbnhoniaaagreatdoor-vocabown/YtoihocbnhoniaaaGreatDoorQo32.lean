/- Tables of tokens that are told by their bytes: the plain mathematics. Texts in memory, for tables that are told by their bytes; the law's Texts and few. A spec in memory, over the texts of tokens. The document's Great, and what it bounds, over the texts of tokens. Contracts of the law's own helpers: Ints, All, table. Contracts of package grow: take. Contracts of package grow: Import, Export. Contracts of the document's layer 7: Import. -/
import Derived.Test.YtoihocbnhoniaaaGreatDoorQo30
import Derived.Test.YtoihocbnhoniaaaGreatDoorQo31
import Derived.Test.YtoihocbnhoniaaaGreatDoorQo27
import Derived.BigQuiet
import Derived.Lib.AppendZeros
import Derived.Deep.AppendLies
import Derived.Laws.OwnMore
import Derived.Test.YtoihocbnhoniaaaGreatDoorQo19
import Derived.BigRegion
import Derived.Test.YtoihocbnhoniaaaGreatDoorQo26
import Derived.Deep.RegionWith
import Derived.Test.YtoihocbnhoniaaaGreatDoorQo29
import Derived.Deep.RegionHeld3
namespace Go.Proofs.YtoihocbnhoniaaaGreatDoor
open Go.RowKit Go.Maps
set_option linter.unusedVariables false
set_option linter.unusedSimpArgs false

/-- What is made of some bytes, if it is two. -/
def tkP (tx : List ByteArray) (mg : List (Int × Int)) (s : ByteArray) : Int × Int := (gI (made mg tx.length s) 0, gI (made mg tx.length s) 1)
/-- The error's number. -/
def tkC (tx : List ByteArray) (mg : List (Int × Int)) (s : ByteArray) : Int := if (made mg tx.length s).length = 2 then addC tx (tkP tx mg s) else 2
def tkT (tx : List ByteArray) (mg : List (Int × Int)) (s : ByteArray) : List ByteArray := if (made mg tx.length s).length = 2 then nextT tx (tkP tx mg s) else tx
def tkM (tx : List ByteArray) (mg : List (Int × Int)) (s : ByteArray) : List (Int × Int) := if (made mg tx.length s).length = 2 then nextM tx mg (tkP tx mg s) else mg
theorem tk_rch {tx : List ByteArray} {mg : List (Int × Int)} (h : Rch tx mg) (s : ByteArray) : Rch (tkT tx mg s) (tkM tx mg s) := by
  unfold tkT tkM
  split
  · exact h.next _
  · exact h
def gT (l : List ByteArray) (i : Nat) : ByteArray := l.getD i ⟨#[]⟩
/-- The table behind the first k texts. -/
def imS (l : List ByteArray) : Nat → List ByteArray × List (Int × Int)
  | 0 => (tb 256, [])
  | k + 1 => (tkT (imS l k).1 (imS l k).2 (gT l k), tkM (imS l k).1 (imS l k).2 (gT l k))
def imC (l : List ByteArray) (k : Nat) : Int := tkC (imS l k).1 (imS l k).2 (gT l k)
theorem imS_rch (l : List ByteArray) : ∀ k, Rch (imS l k).1 (imS l k).2
  | 0 => Rch.begin
  | k + 1 => tk_rch (imS_rch l k) _
end Go.Proofs.YtoihocbnhoniaaaGreatDoor

namespace Go.Proofs.YtoihocbnhoniaaaGreatDoor
open Go.RowKit
set_option linter.unusedVariables false
set_option linter.unusedSimpArgs false

/-- Texts that are read. -/
def RdT (w : World) (ao : Option Addr) (n : Nat) (l : List ByteArray) : Prop := l.length = n ∧ (n = 0 ∨ ∃ b off, ao = some ⟨b, off, none⟩ ∧ b < w.heap.size ∧ ∀ i, i < n → w.cell? ⟨b, off + i, none⟩ = some (.string (gT l i)))
theorem RdT.kept {w w' : World} {ao : Option Addr} {n : Nat} {l : List ByteArray} (h : RdT w ao n l) (hb : Below w.heap.size w w') : RdT w' ao n l := by
  refine ⟨h.1, ?_⟩
  rcases h.2 with h0 | ⟨b, off, rfl, hlt, hc⟩
  · exact Or.inl h0
  · exact Or.inr ⟨b, off, rfl, Nat.lt_of_lt_of_le hlt hb.size, fun i hi => (hb.cell hlt).trans (hc i hi)⟩
theorem RdT.take {w : World} {ao : Option Addr} {n : Nat} {l : List ByteArray} (h : RdT w ao n l) {m : Nat} (hm : m ≤ n) : RdT w ao m (l.take m) := by
  refine ⟨by rw [List.length_take, h.1]; omega, ?_⟩
  rcases h.2 with h0 | ⟨b, off, rfl, hlt, hc⟩
  · exact Or.inl (by omega)
  · refine Or.inr ⟨b, off, rfl, hlt, fun i hi => ?_⟩
    rw [hc i (by omega)]
    congr 2
    unfold gT
    rw [List.getD_eq_getElem?_getD, List.getD_eq_getElem?_getD, List.getElem?_take_of_lt hi]

theorem RdT.row {w : World} {base : Nat} {ao : Option Addr} {n cap : Nat} {l : List ByteArray} (h : w.ownsRow base 9 1 (.slice ao n cap) n (l.map Value.string)) (hl : l.length = n) : RdT w ao n l := by
  refine ⟨hl, ?_⟩
  rcases Nat.eq_zero_or_pos n with h0 | h0
  · exact Or.inl h0
  obtain ⟨g, cap', e, hb, hg⟩ := h.form h0
  simp only [Value.slice.injEq] at e
  obtain ⟨rfl, -, rfl⟩ := e
  refine Or.inr ⟨g, 0, rfl, hg, fun i hi => ?_⟩
  rw [Nat.zero_add, h.cellAt i (by omega)]
  have : i < l.length := by omega
  simp [gT, this]

end Go.Proofs.YtoihocbnhoniaaaGreatDoor

namespace Go.Proofs.YtoihocbnhoniaaaGreatDoor
open Go.RowKit Go.Maps
set_option linter.unusedVariables false
set_option linter.unusedSimpArgs false

/-- A spec, as plain data: what is read of it here. -/
structure Sp where
  ranked : Bool
  merges : List (Int × Int)
  tokens : List ByteArray
  specials : List (Int × ByteArray)
def gS (l : List (Int × ByteArray)) (i : Nat) : Int × ByteArray := l.getD i (0, ⟨#[]⟩)
def RdS (w : World) (ao : Option Addr) (n : Nat) (l : List (Int × ByteArray)) : Prop := l.length = n ∧ (n = 0 ∨ ∃ b off, ao = some ⟨b, off, none⟩ ∧ b < w.heap.size ∧ ∀ i, i < n → w.cell? ⟨b, off + i * 2, none⟩ = some (.int .i64 (gS l i).1) ∧ w.cell? ⟨b, off + i * 2 + 1, none⟩ = some (.string (gS l i).2))
theorem RdS.kept {w w' : World} {ao : Option Addr} {n : Nat} {l : List (Int × ByteArray)} (h : RdS w ao n l) (hb : Below w.heap.size w w') : RdS w' ao n l := by
  refine ⟨h.1, ?_⟩
  rcases h.2 with h0 | ⟨b, off, rfl, hlt, hc⟩
  · exact Or.inl h0
  · exact Or.inr ⟨b, off, rfl, Nat.lt_of_lt_of_le hlt hb.size, fun i hi => ⟨(hb.cell hlt).trans (hc i hi).1, (hb.cell hlt).trans (hc i hi).2⟩⟩
/-- A spec's values. -/
structure Sv where
  r : Bool
  a1 : Option Addr
  n1 : Nat
  c1 : Nat
  a2 : Option Addr
  n2 : Nat
  c2 : Nat
  a3 : Option Addr
  n3 : Nat
  c3 : Nat
  a4 : Option Addr
  n4 : Nat
  c4 : Nat
  a5 : Option Addr
  n5 : Nat
  c5 : Nat
abbrev Sv.cs (x : Sv) : Array Value := #[.bool x.r, .slice x.a1 x.n1 x.c1, .slice x.a2 x.n2 x.c2, .slice x.a3 x.n3 x.c3, .slice x.a4 x.n4 x.c4, .slice x.a5 x.n5 x.c5]
/-- A spec lies in memory. -/
structure SpAt (w : World) (x : Sv) (s : Sp) : Prop where
  r : x.r = s.ranked
  ms : ReadsM w x.a1 x.n1 s.merges
  ts : RdT w x.a2 x.n2 s.tokens
  ss : RdS w x.a3 x.n3 s.specials
  z1 : x.n1 ≤ 9223372036854775807
  z2 : x.n2 ≤ 9223372036854775807
theorem SpAt.kept {w w' : World} {x : Sv} {s : Sp} (h : SpAt w x s) (hb : Below w.heap.size w w') : SpAt w' x s :=
  ⟨h.r, h.ms.kept hb, h.ts.kept hb, h.ss.kept hb, h.z1, h.z2⟩
theorem low_alloc (w : World) (o : Obj) : Below w.heap.size w (w.alloc o) := (Below.refl _ _).alloc (Nat.le_refl _) _
/-- A spec in a box. -/
def BxS (q : Nat) (x : Sv) (W : World) : Prop := W.cell? ⟨q, 0, none⟩ = some (.bool x.r) ∧ W.cell? ⟨q, 1, none⟩ = some (.slice x.a1 x.n1 x.c1) ∧ W.cell? ⟨q, 2, none⟩ = some (.slice x.a2 x.n2 x.c2) ∧ W.cell? ⟨q, 3, none⟩ = some (.slice x.a3 x.n3 x.c3) ∧ W.cell? ⟨q, 4, none⟩ = some (.slice x.a4 x.n4 x.c4) ∧ W.cell? ⟨q, 5, none⟩ = some (.slice x.a5 x.n5 x.c5)
theorem BxS.kept {q : Nat} {x : Sv} {W W' : World} (h : BxS q x W) (hq : q < W.heap.size) (hb : Below W.heap.size W W') : BxS q x W' :=
  ⟨(hb.cell (p := ⟨q, _, none⟩) hq).trans h.1, (hb.cell (p := ⟨q, _, none⟩) hq).trans h.2.1, (hb.cell (p := ⟨q, _, none⟩) hq).trans h.2.2.1, (hb.cell (p := ⟨q, _, none⟩) hq).trans h.2.2.2.1, (hb.cell (p := ⟨q, _, none⟩) hq).trans h.2.2.2.2.1, (hb.cell (p := ⟨q, _, none⟩) hq).trans h.2.2.2.2.2⟩
theorem BxS.new (w : World) (x : Sv) (T : TypeId) : BxS w.heap.size x (w.alloc (.cells x.cs T)) := by
  refine ⟨?_, ?_, ?_, ?_, ?_, ?_⟩ <;> simp
structure SpI (w : World) (q : Nat) (x : Sv) (s : Sp) (W : World) : Prop where
  sp : SpAt W x s
  box : BxS q x W
  lt : q < W.heap.size
  bel : Below w.heap.size w W
theorem SpI.next {w : World} {q : Nat} {x : Sv} {s : Sp} {W W' : World} (h : SpI w q x s W) (hb : Below W.heap.size W W') : SpI w q x s W' :=
  ⟨h.sp.kept hb, h.box.kept h.lt hb, Nat.lt_of_lt_of_le h.lt hb.size, h.bel.trans (hb.mono h.bel.size)⟩
theorem SpI.new {w : World} {x : Sv} {s : Sp} (h : SpAt w x s) (T : TypeId) : SpI w w.heap.size x s (w.alloc (.cells x.cs T)) :=
  ⟨h.kept (low_alloc _ _), BxS.new w x T, by simp, low_alloc _ _⟩

end Go.Proofs.YtoihocbnhoniaaaGreatDoor

namespace Go.Proofs.YtoihocbnhoniaaaGreatDoor
open Go.RowKit
set_option linter.unusedVariables false
set_option linter.unusedSimpArgs false

end Go.Proofs.YtoihocbnhoniaaaGreatDoor

namespace Go.Proofs.YtoihocbnhoniaaaGreatDoor
open Go.RowKit Go.Maps
set_option linter.unusedVariables false
set_option linter.unusedSimpArgs false
attribute [local go_sem ↓] Go.wp_at_zero Go.wp_at_succ

section
variable {vb vm : Value} {tx : List ByteArray} {mg : List (Int × Int)}
end

end Go.Proofs.YtoihocbnhoniaaaGreatDoor

namespace Go.Proofs.YtoihocbnhoniaaaGreatDoor
open Go.RowKit Go.Maps
set_option linter.unusedVariables false
set_option linter.unusedSimpArgs false
attribute [local go_sem ↓] Go.wp_at_zero Go.wp_at_succ

section
variable {F : List Nat} {p : Nat} {v0 v1 : Value} {b2 b3 : Nat} {tx : List ByteArray} {mg : List (Int × Int)} {w : World}
set_option maxRecDepth 20000 in
set_option maxHeartbeats 4000000 in
theorem take_any (h : TAt F p v0 v1 b2 b3 tx mg (lgs tx) w) (hk : Tok tx mg) (base : Nat) (hF : ∀ k ∈ F, base ≤ k) (hb : base ≤ w.heap.size) (s : ByteArray) (hs : s.size ≤ 100000) :
    Calls Tryz.prog 177 #[.pointer (some ⟨p, 0, none⟩), .string s] w fun e w' => e = .returned (.int .i64 (tkC tx mg s)) ∧ (∃ F' v0' v1', TAt F' p v0' v1' b2 b3 (tkT tx mg s) (tkM tx mg s) (lgs (tkT tx mg s)) w' ∧ (∀ k ∈ F', base ≤ k)) ∧ Below base w w' := by
  have HE := hide (encode_any w h hk s hs)
  have HT := hide h
  have HK := hide hk
  have HFB := hide hF
  have HML := hide (made_len mg tx.length s)
  have HTC : Hid (tkC tx mg s = if (made mg tx.length s).length = 2 then addC tx (tkP tx mg s) else 2) := hide rfl
  have HTT : Hid (tkT tx mg s = if (made mg tx.length s).length = 2 then nextT tx (tkP tx mg s) else tx) := hide rfl
  have HTM : Hid (tkM tx mg s = if (made mg tx.length s).length = 2 then nextM tx mg (tkP tx mg s) else mg) := hide rfl
  have HTP : Hid (tkP tx mg s = (gI (made mg tx.length s) 0, gI (made mg tx.length s) 1)) := hide rfl
  clear h hk hF
  generalize made mg tx.length s = A at *
  generalize tkP tx mg s = P at *
  generalize tkT tx mg s = T' at *
  generalize tkM tx mg s = M' at *
  generalize tkC tx mg s = C' at *
  go_enter Tryz.func177, Tryz.ntmps177
  go_wp2_with fail
  refine (unhide HE).mono ?_
  rintro e w1 ⟨⟨v, rfl, hv⟩, hb1⟩
  obtain ⟨av, cv, hvv⟩ := row_form hv
  subst hvv
  have HT1 := hide (HT.out.keptB hb1)
  have HB1 := hide hb1
  have HR := hide hv
  clear hv hb1 HE
  by_cases h2 : A.length = 2
  · have HC2 : Hid (C' = addC tx P) := hide (by rw [HTC.out, if_pos h2])
    have HT2 : Hid (T' = nextT tx P) := hide (by rw [HTT.out, if_pos h2])
    have HM2 : Hid (M' = nextM tx mg P) := hide (by rw [HTM.out, if_pos h2])
    obtain ⟨g, cg, hvg, hgl, c0⟩ := row_at HR.out (show 0 < A.length by omega)
    obtain ⟨g', cg', hvg', -, c1⟩ := row_at HR.out (show 1 < A.length by omega)
    simp only [Value.slice.injEq] at hvg hvg'
    obtain ⟨rfl, _, rfl⟩ := hvg
    obtain ⟨hgg, _, _⟩ := hvg'
    simp at hgg
    subst hgg
    have hp1 : gI A 0 = P.1 := by rw [HTP.out]
    have hp2 : gI A 1 = P.2 := by rw [HTP.out]
    rw [hp1] at c0
    rw [hp2] at c1
    have HAD : Hid (Calls Tryz.prog 113 #[.pointer (some ⟨p, 0, none⟩), .agg #[.int .i64 P.1, .int .i64 P.2]] w1.drew fun e w' => (∃ zz : Int, e = .returned (.tuple #[.int .i64 zz, .int .i64 C'])) ∧ ∃ F' v0' v1', TAt F' p v0' v1' b2 b3 T' M' (lgs T') w' ∧ (∀ k ∈ F', base ≤ k) ∧ Below base w w') := hide ((add_any (HT1.out.keptB (below_drew' w1)) HK.out P).mono (by
      rintro e w2 ⟨rfl, F2, v2, v3, hT2, hFr2, hN2⟩
      rw [HC2.out, HT2.out, HM2.out]
      refine ⟨⟨_, rfl⟩, F2, v2, v3, hT2, fun k hk => ?_, ?_⟩
      · rcases hN2 k hk with h | h
        · exact HFB.out k h
        · have h1 : w.heap.size ≤ w1.heap.size := HB1.out.size
          have h3 : w1.drew.heap.size = w1.heap.size := rfl
          omega
      · have h1 : w.heap.size ≤ w1.heap.size := HB1.out.size
        exact (HB1.out.mono hb).trans ((below_drew' w1).mono (by omega) |>.trans (hFr2.below (by show base ≤ w1.heap.size; omega) HFB.out))))
    rw [h2]
    clear hp1 hp2 HTP HTC HTT HTM HR HML
    obtain ⟨P1, P2⟩ := P
    simp only at c0 c1
    go_wp2
    go_region_with (go_at_call 113; refine (unhide HAD).mono ?_; rintro e w2 ⟨⟨zz, rfl⟩, hQ⟩; have HQ := hide hQ; clear hQ)
    all_goals
      go_wp2
      go_ret
      obtain ⟨F2, v2, v3, hT2, hF2, hB2⟩ := HQ.out
      exact ⟨rfl, ⟨F2, v2, v3, hT2, hF2⟩, hB2⟩
  · have HC2 : Hid (C' = 2) := hide (by rw [HTC.out, if_neg h2])
    have HT2 : Hid (T' = tx) := hide (by rw [HTT.out, if_neg h2])
    have HM2 : Hid (M' = mg) := hide (by rw [HTM.out, if_neg h2])
    have h2d : ((A.length : Int) == 2) = false := by simp; omega
    have h2e : ((A.length : Int) != 2) = true := by simp; omega
    clear HTP HTC HTT HTM HR HML
    generalize A.length = N at *
    go_wp2
    go_ret
    refine ⟨by rw [HC2.out]; rfl, ⟨F, v0, v1, ?_, HFB.out⟩, HB1.out.mono hb⟩
    rw [HT2.out, HM2.out]
    exact HT1.out
end

end Go.Proofs.YtoihocbnhoniaaaGreatDoor

namespace Go.Proofs.YtoihocbnhoniaaaGreatDoor
open Go.RowKit Go.Maps
set_option linter.unusedVariables false
set_option linter.unusedSimpArgs false
attribute [local go_sem ↓] Go.wp_at_zero Go.wp_at_succ

/-- What comes of Import. -/
def ImP (l : List ByteArray) (n : Nat) (w : World) (e : Ending) (w' : World) : Prop :=
  (∃ k : Nat, k < n ∧ (∀ j, j < k → imC l j = 0) ∧ imC l k ≠ 0 ∧ e = .returned (.tuple #[.pointer none, .int .i64 k, .int .i64 (imC l k)])) ∨
  ((∀ j, j < n → imC l j = 0) ∧ ∃ p F v0 v1 b2 b3, e = .returned (.tuple #[.pointer (some ⟨p, 0, none⟩), .int .i64 n, .int .i64 0]) ∧ TAt F p v0 v1 b2 b3 (imS l n).1 (imS l n).2 (lgs (imS l n).1) w' ∧ (∀ k ∈ F, w.heap.size ≤ k))

set_option maxRecDepth 20000 in
set_option maxHeartbeats 4000000 in
theorem import_any (ao : Option Addr) (n cap : Nat) (l : List ByteArray) (w : World) (hR : RdT w ao n l) (hn : n ≤ 1000000) (hs : ∀ x ∈ l, x.size ≤ 100000) :
    Calls Tryz.prog 148 #[.slice ao n cap] w fun e w' => ImP l n w e w' ∧ Below w.heap.size w w' := by
  have hM0 : ReadsM w none 0 [] := ⟨rfl, Or.inl rfl⟩
  have HN := hide (new_any none 0 0 [] w hM0 (by omega))
  have HR := hide hR
  have HSZ := hide hs
  clear hM0 hR hs
  go_enter Tryz.func148, Tryz.ntmps148
  go_wp2_with fail
  refine (unhide HN).mono ?_
  rintro e w1 ⟨hE, hb1⟩
  rcases hE with ⟨k, hk, _⟩ | ⟨_, p, F, v0, v1, b2, b3, rfl, hT, hF⟩
  · omega
  have HT0 : Hid (TAt F p v0 v1 b2 b3 (imS l 0).1 (imS l 0).2 (lgs (imS l 0).1) w1) := hide hT
  have HF0 := hide hF
  have HB0 := hide hb1
  clear hT hF hb1 HN
  go_wp2
  go_loopw [18] (fun i wr => ∃ (k : Nat) (F : List Nat) (v0 v1 : Value), i = .int .i64 k ∧ k ≤ n ∧ Hid (∀ j, j < k → imC l j = 0) ∧ Hid (TAt F p v0 v1 b2 b3 (imS l k).1 (imS l k).2 (lgs (imS l k).1) wr) ∧ Hid (∀ k ∈ F, w.heap.size ≤ k) ∧ Hid (Below w.heap.size w wr)) (fun i _ => n - (intOf i).toNat)
  case atStart => exact ⟨0, F, v0, v1, rfl, by omega, hide (fun j hj => by omega), HT0, HF0, HB0⟩
  case round =>
    clear HT0 HF0 HB0
    obtain ⟨k, F, v0, v1, rfl, hk, HOK, HT, HF, HB⟩ := hrel
    by_cases hlt : k < n
    · have hk0 : (0 : Int) ≤ (k : Int) := by omega
      have hk1 : (k : Int) < (n : Int) := by omega
      rcases (HR.out.kept HB.out).2 with h0 | ⟨b, off, rfl, hbl, hcc⟩
      · omega
      have c0 := hcc k hlt
      have HM : Hid (gT l k ∈ l) := hide (by unfold gT; rw [List.getD_eq_getElem?_getD, List.getElem?_eq_getElem (by rw [HR.out.1]; exact hlt)]; exact List.getElem_mem _)
      have HTK := hide (take_any HT.out (imS_rch l k).tok w.heap.size HF.out HB.out.size (gT l k) (HSZ.out _ HM.out))
      have HC : Hid (imC l k = tkC (imS l k).1 (imS l k).2 (gT l k)) := hide rfl
      have HS : Hid (imS l (k + 1) = (tkT (imS l k).1 (imS l k).2 (gT l k), tkM (imS l k).1 (imS l k).2 (gT l k))) := hide rfl
      rw [← HC.out] at HTK
      clear hcc
      generalize gT l k = x at *
      go_wp2_with fail
      refine (unhide HTK).mono ?_
      rintro e w2 ⟨rfl, ⟨F2, v2, v3, hT2, hF2⟩, hB2⟩
      have HB2 := hide (HB.out.trans hB2)
      have HT2 := hide hT2
      have HF2 := hide hF2
      have HCK : Hid (∀ c, imC l k = c → c ≠ 0 → imC l k ≠ 0) := hide (fun c h1 h2 => by rw [h1]; exact h2)
      clear hB2 hT2 hF2 HTK
      generalize hcc : imC l k = cc at *
      have HCC := hide hcc
      clear hcc
      by_cases hc : cc = 0
      · subst hc
        go_wp2
        go_roundw
        case rel =>
          refine ⟨k + 1, F2, v2, v3, by go_num, by omega, hide (fun j hj => ?_), hide ?_, HF2, HB2⟩
          · by_cases e : j = k
            · rw [e]; exact HCC.out
            · exact HOK.out j (by omega)
          · rw [HS.out]; exact HT2.out
        case measure => simp [intOf]; omega
      · have hcb : (cc != 0) = true := by simpa using hc
        have HNE := hide hc
        clear hc
        go_wp2
        (try simp only [Exit.inBlock, Exit.then])
        refine bodyPost_ret (v := .tuple #[.pointer none, .int .i64 k, .int .i64 cc]) (by simp [results, Tryz.results148, go_sem]) rfl ?_
        exact ⟨Or.inl ⟨k, hlt, HOK.out, by rw [HCC.out]; exact HNE.out, by rw [HCC.out]⟩, HB2.out⟩
    · obtain rfl : n = k := by omega
      go_wp2
      (try simp only [Exit.inBlock, Exit.then])
      refine bodyPost_ret (v := .tuple #[.pointer (some ⟨p, 0, none⟩), .int .i64 n, .int .i64 0]) (by simp [results, Tryz.results148, go_sem]) rfl ?_
      exact ⟨Or.inr ⟨HOK.out, p, F, v0, v1, b2, b3, rfl, HT.out, HF.out⟩, HB.out⟩

section
variable {F : List Nat} {p : Nat} {v0 v1 : Value} {b2 b3 : Nat} {tx : List ByteArray} {mg : List (Int × Int)} {w : World}
end

end Go.Proofs.YtoihocbnhoniaaaGreatDoor

namespace Go.Proofs.YtoihocbnhoniaaaGreatDoor
open Go.RowKit Go.Maps
set_option linter.unusedVariables false
set_option linter.unusedSimpArgs false
attribute [local go_sem ↓] Go.wp_at_zero Go.wp_at_succ

end Go.Proofs.YtoihocbnhoniaaaGreatDoor
