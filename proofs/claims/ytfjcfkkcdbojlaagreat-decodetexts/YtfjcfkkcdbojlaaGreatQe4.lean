/- Contracts of package decode: the tail's join and release; New, Held, Bytes. Contracts of package decode: Feed, Close. What holds of what was there ahead of a decoder; the example of the laws of layer 13. Contracts of package decode without a vocabulary. -/
import Derived.Test.YtfjcfkkcdbojlaaGreatQe2
import Derived.Test.YtfjcfkkcdbojlaaGreatQe3
namespace Go.Proofs.YtfjcfkkcdbojlaaGreat
open Go.RowKit Go.Maps
set_option linter.unusedVariables false
set_option linter.unusedSimpArgs false

/-- A decoder's cells. -/
def decC (bk : ByteArray) (q : Nat) (n : Int) (c : Bool) : Array Value := #[.string bk, .pointer (some ⟨q, 0, none⟩), .int .i64 n, .bool c]
/-- There lies a decoder. -/
def DecAt (d : Nat) (bk : ByteArray) (q : Nat) (n : Int) (c : Bool) (W : World) : Prop := W.heap[d]? = some (.cells (decC bk q n c) 131 (0, 0))
section
variable {d q : Nat} {bk : ByteArray} {n : Int} {c : Bool} {w w' W W' : World}
theorem DecAt.lt (h : DecAt d bk q n c W) : d < W.heap.size := (Array.getElem?_eq_some_iff.1 h).1
theorem DecAt.kept (h : DecAt d bk q n c W) (hb : Below W.heap.size W W') : DecAt d bk q n c W' := by
  unfold DecAt
  rw [hb.block d h.lt]
  exact h
theorem DecAt.cells (h : DecAt d bk q n c W) : W.cell? ⟨d, 0, none⟩ = some (.string bk) ∧ W.cell? ⟨d, 1, none⟩ = some (.pointer (some ⟨q, 0, none⟩)) ∧ W.cell? ⟨d, 2, none⟩ = some (.int .i64 n) ∧ W.cell? ⟨d, 3, none⟩ = some (.bool c) :=
  ⟨Lib.cell_of_heap h 0, Lib.cell_of_heap h 1, Lib.cell_of_heap h 2, Lib.cell_of_heap h 3⟩
theorem DecAt.free (h : DecAt d bk q n c W) (o : Nat) : W.frozen? ⟨d, o, none⟩ = false := Lib.frozen_of_heap h o
theorem DecAt.set0 (h : DecAt d bk q n c W) (t : ByteArray) : DecAt d t q n c (W.setCell ⟨d, 0, none⟩ (.string t)) := by
  unfold DecAt
  rw [heap_setCell_same W d 0 _ _ _ h]
  rfl
theorem DecAt.set2 (h : DecAt d bk q n c W) (x : Int) : DecAt d bk q x c (W.setCell ⟨d, 2, none⟩ (.int .i64 x)) := by
  unfold DecAt
  rw [heap_setCell_same W d 2 _ _ _ h]
  rfl
theorem DecAt.set3 (h : DecAt d bk q n c W) (b : Bool) : DecAt d bk q n b (W.setCell ⟨d, 3, none⟩ (.bool b)) := by
  unfold DecAt
  rw [heap_setCell_same W d 3 _ _ _ h]
  rfl

theorem dnew_any (q : Nat) (w : World) : Calls Tryz.prog 30 #[.pointer (some ⟨q, 0, none⟩)] w fun e w' => ∃ d, e = .returned (.pointer (some ⟨d, 0, none⟩)) ∧ d = w.heap.size ∧ DecAt d ⟨#[]⟩ q 0 false w' ∧ Below w.heap.size w w' := by
  go_enter Tryz.func30, Tryz.ntmps30
  go_wp2
  go_ret
  exact ⟨_, rfl, rfl, heap_alloc_new w _, Mk.low1 w _⟩
theorem dheldN_any (h : DecAt d bk q n c w) : Calls Tryz.prog 32 #[.pointer (some ⟨d, 0, none⟩)] w fun e w' => e = .returned (.int .i64 (bk.size : Int)) ∧ w' = w := by
  obtain ⟨c0, c1, c2, c3⟩ := h.cells
  clear h
  go_enter Tryz.func32, Tryz.ntmps32
  go_wp2
  go_ret
  exact ⟨rfl, rfl⟩
theorem dbytesN_any (h : DecAt d bk q n c w) : Calls Tryz.prog 33 #[.pointer (some ⟨d, 0, none⟩)] w fun e w' => e = .returned (.int .i64 n) ∧ w' = w := by
  obtain ⟨c0, c1, c2, c3⟩ := h.cells
  clear h
  go_enter Tryz.func33, Tryz.ntmps33
  go_wp2
  go_ret
  exact ⟨rfl, rfl⟩
theorem drelease_any (h : DecAt d bk q n c w) : Calls Tryz.prog 60 #[.pointer (some ⟨d, 0, none⟩)] w fun e w' => e = .returned (.string bk) ∧ DecAt d ⟨#[]⟩ q n c w' ∧ FrL [d] w w' := by
  obtain ⟨c0, c1, c2, c3⟩ := h.cells
  have z0 := h.free 0
  have H1 := hide (h.set0 ⟨#[]⟩)
  have H2 := hide (frq_set w d 0 (.string ⟨#[]⟩))
  clear h
  go_enter Tryz.func60, Tryz.ntmps60
  go_wp2
  go_ret
  exact ⟨rfl, H1.out, H2.out⟩
theorem sclone_any (t : ByteArray) (w : World) (ht : t.size ≤ 281474976710656) : Calls Tryz.prog 87 #[.string t] w fun e w' => e = .returned (.string t) ∧ Below w.heap.size w w' := by
  have K1 := hide (Tryz.stringslite_Clone t w ht)
  go_enter Tryz.func87, Tryz.ntmps87
  go_wp2_with fail
  refine (unhide K1).mono ?_
  rintro e w2 ⟨rfl, hb⟩
  have HB := hide hb
  clear hb K1
  go_wp2
  go_ret
  exact ⟨rfl, HB.out⟩

set_option maxRecDepth 20000 in
set_option maxHeartbeats 4000000 in
theorem djoin_any (h : DecAt d bk q n c w) (t : ByteArray) (hsz : (bk ++ t).size ≤ 281474976710656) : Calls Tryz.prog 59 #[.pointer (some ⟨d, 0, none⟩), .string t] w fun e w' => e = .returned (.string ((bk ++ t).extract 0 ((bk ++ t).size - heldL (bk ++ t).data.toList))) ∧ DecAt d ((bk ++ t).extract ((bk ++ t).size - heldL (bk ++ t).data.toList) (bk ++ t).size) q n c w' ∧ FrL [d] w w' := by
  obtain ⟨c0, c1, c2, c3⟩ := h.cells
  have z0 := h.free 0
  have HD := hide h
  have K1 := hide (dheld_any (bk ++ t) w (by omega))
  have hm : heldL (bk ++ t).data.toList ≤ (bk ++ t).size := by
    have := heldL_len (bk ++ t).data.toList
    simpa using this
  have hcat : ¬ bk.size + t.size > 9223372036854775807 := by rw [ByteArray.size_append] at hsz; omega
  clear h
  obtain ⟨all, hall⟩ : ∃ all, bk ++ t = all := ⟨_, rfl⟩
  rw [hall] at hsz K1 hm ⊢
  have HALL := hide hall
  clear hall
  generalize heldL all.data.toList = m at *
  go_enter Tryz.func59, Tryz.ntmps59
  go_upto_region 2 with fail
  rw [HALL.out]
  have hw1 : IntKind.i64.wrap ((all.size : Int) - (m : Int)) = ((all.size - m : Nat) : Int) := by rw [IntKind.wrap_i64]; omega
  have hp1 : (0 : Int) ≤ ((all.size - m : Nat) : Int) := by omega
  have hp2 : ((all.size - m : Nat) : Int) ≤ (all.size : Int) := by omega
  go_wp2_with fail
  refine (unhide K1).mono ?_
  rintro e w1 ⟨rfl, hw1'⟩
  obtain rfl := hw1'.symm
  clear hw1' K1
  have K2 := hide (sclone_any (all.extract (all.size - m) all.size) w (by simp; omega))
  go_wp2_with fail
  refine (unhide K2).mono ?_
  rintro e w2 ⟨rfl, hb⟩
  have hd2 := HD.out.kept hb
  obtain ⟨e0, e1, e2, e3⟩ := hd2.cells
  have y0 := hd2.free 0
  have H1 := hide (hd2.set0 (all.extract (all.size - m) all.size))
  have H2 := hide ((FrL.ofBelow (F := [d]) hb).trans' (frq_set w2 d 0 (.string (all.extract (all.size - m) all.size))))
  clear hd2 hb K2 c0 c1 c2 c3 z0 HD
  go_wp2
  go_ret
  exact ⟨by simp, H1.out, H2.out⟩
end
end Go.Proofs.YtfjcfkkcdbojlaaGreat

namespace Go.Proofs.YtfjcfkkcdbojlaaGreat
open Go.RowKit Go.Maps
set_option linter.unusedVariables false
set_option linter.unusedSimpArgs false

/-- All that is told, or held back, behind a text more. -/
def allD (bk : ByteArray) (L : List (Int × ByteArray)) (tx : List ByteArray) (I : List Int) : ByteArray := bk ++ ⟨(txD L tx I).toArray⟩
/-- What comes of Feed. -/
def DfP (d : Nat) (bk : ByteArray) (q : Nat) (n : Int) (L : List (Int × ByteArray)) (tx : List ByteArray) (I : List Int) (e : Ending) (w' : World) : Prop :=
  ((∀ j, j < I.length → hasD L tx.length (Mk.gI I j) = true) ∧ ∃ m : Nat, m = heldL (allD bk L tx I).data.toList ∧ e = .returned (.tuple #[.string ((allD bk L tx I).extract 0 ((allD bk L tx I).size - m)), .int .i64 I.length, .int .i64 0]) ∧ DecAt d ((allD bk L tx I).extract ((allD bk L tx I).size - m) (allD bk L tx I).size) q (n + ((allD bk L tx I).size - m : Nat)) false w') ∨
  ∃ k, k < I.length ∧ (∀ j, j < k → hasD L tx.length (Mk.gI I j) = true) ∧ hasD L tx.length (Mk.gI I k) = false ∧ e = .returned (.tuple #[.string ⟨#[]⟩, .int .i64 (k : Int), .int .i64 4]) ∧ DecAt d bk q n false w'
section
variable {d q : Nat} {bk : ByteArray} {n : Int} {c : Bool} {w w' W W' : World}
theorem DecAt.ne {x : Nat} (h : DecAt d bk q n c W) {cs : Array Value} {T : TypeId} (hx : W.heap[x]? = some (.cells cs T (0, 0))) (hT : T ≠ 131) : d ≠ x := by
  rintro rfl
  unfold DecAt at h
  rw [h] at hx
  simp only [Option.some.injEq, Obj.cells.injEq] at hx
  exact hT hx.2.1.symm
theorem DecAt.fr {F : List Nat} (h : DecAt d bk q n c W) (hd : d ∉ F) (hF : FrL F W W') : DecAt d bk q n c W' := by
  unfold DecAt
  rw [hF.block d h.lt hd]
  exact h

set_option maxRecDepth 20000 in
set_option maxHeartbeats 4000000 in
theorem dfeed_any {B : Nat} {z : VV} {s : Wf.Sp} {u : Int} {ai : Option Addr} {ni ci : Nat} {I : List Int} (hd : DecAt d bk q n false w) (h : Vu B q z s u w) (hk : Mk.TxOk s.specials) (hu : 0 ≤ u ∧ u < 1000) (hl : s.specials.length ≤ 1000) (hI : Mk.RdI w ai ni I) (hoff : ∀ b off, ai = some ⟨b, off, none⟩ → 0 < ni → b ≠ q) (hni : ni ≤ 1000) (hw : ∀ i, i < ni → Mk.wfI (Mk.gI I i)) (hn : 0 ≤ n ∧ n ≤ 1000000000000) (hsz : (allD bk s.specials (txT s) I).size ≤ 1000000000000) :
    Calls Tryz.prog 31 #[.pointer (some ⟨d, 0, none⟩), .slice ai ni ci] w fun e w' => DfP d bk q n s.specials (txT s) I e w' ∧ ∃ w1 u', u ≤ u' ∧ u' ≤ u + 1 ∧ Vu B q z s u' w1 ∧ FrL [q] w w1 ∧ FrL [d] w1 w' := by
  have K1 := hide (dtext_any (ci := ci) h hk hu hl hI hoff hni hw)
  have HD := hide hd
  have HNE := hide (hd.ne h.box (by decide))
  have HIL := hide hI.1
  obtain ⟨c0, c1, c2, c3⟩ := hd.cells
  have HSZ := hide hsz
  clear h hk hu hl hI hoff hw hd hsz
  go_enter Tryz.func31, Tryz.ntmps31
  go_wp2_with fail
  refine (unhide K1).mono ?_
  rintro e w1 ⟨hP, u', hu1, hu2, hv, hF⟩
  have HU := hide hv
  have HF := hide hF
  have hd1 := HD.out.fr (by simpa using HNE.out) hF
  obtain ⟨e0, e1, e2, e3⟩ := hd1.cells
  clear K1 c0 c1 c2 c3 hv hF
  rcases hP with ⟨hall, rfl⟩ | ⟨k, hk, hj, hno, rfl⟩
  · have HALL := hide hall
    have K2 := hide (djoin_any hd1 ⟨(txD s.specials (txT s) I).toArray⟩ (Nat.le_trans HSZ.out (by omega)))
    rw [show bk ++ ⟨(txD s.specials (txT s) I).toArray⟩ = allD bk s.specials (txT s) I from rfl] at K2
    have HQ : Hid (∀ e w', e = .returned (.tuple #[.string ((allD bk s.specials (txT s) I).extract 0 ((allD bk s.specials (txT s) I).size - heldL (allD bk s.specials (txT s) I).data.toList)), .int .i64 I.length, .int .i64 0]) → DecAt d ((allD bk s.specials (txT s) I).extract ((allD bk s.specials (txT s) I).size - heldL (allD bk s.specials (txT s) I).data.toList) (allD bk s.specials (txT s) I).size) q (n + ((allD bk s.specials (txT s) I).size - heldL (allD bk s.specials (txT s) I).data.toList : Nat)) false w' → DfP d bk q n s.specials (txT s) I e w') := hide (fun e w' h1 h2 => Or.inl ⟨HALL.out, _, rfl, h1, h2⟩)
    have hsz := HSZ.out
    generalize allD bk s.specials (txT s) I = all at K2 HQ hsz
    have hm : heldL all.data.toList ≤ all.size := by
      have := heldL_len all.data.toList
      simpa using this
    generalize heldL all.data.toList = m at *
    clear hall hd1 HD HSZ HALL
    have hil := HIL.out
    rw [hil] at HQ ⊢
    clear hil
    go_wp2_with fail
    refine (unhide K2).mono ?_
    rintro e w2 ⟨rfl, hd2, hF2⟩
    obtain ⟨f0, f1, f2, f3⟩ := hd2.cells
    have y2 := hd2.free 2
    have hsx : (all.extract 0 (all.size - m)).size = all.size - m := by simp
    have hw1 : IntKind.i64.wrap (n + ((all.extract 0 (all.size - m)).size : Int)) = n + ((all.size - m : Nat) : Int) := by rw [hsx, IntKind.wrap_i64]; omega
    have H1 := hide (hd2.set2 (n + ((all.size - m : Nat) : Int)))
    have H2 := hide (hF2.trans' (frq_set w2 d 2 (.int .i64 (n + ((all.size - m : Nat) : Int)))))
    clear hd2 hF2 K2 e0 e1 e2 e3
    go_wp2
    refine bodyPost_ret (v := .tuple #[.string (all.extract 0 (all.size - m)), .int .i64 (ni : Int), .int .i64 0]) (by simp [results, Tryz.results31, go_sem]) rfl ?_
    exact ⟨HQ.out _ _ rfl H1.out, w1, u', hu1, hu2, HU.out, HF.out, H2.out⟩
  · have HR : Hid (∀ e w', e = .returned (.tuple #[.string ⟨#[]⟩, .int .i64 (k : Int), .int .i64 4]) → DecAt d bk q n false w' → DfP d bk q n s.specials (txT s) I e w') := hide (fun e w' h1 h2 => Or.inr ⟨k, hk, hj, hno, h1, h2⟩)
    have HD1 := hide hd1
    clear hk hj hno hd1 HD HSZ
    go_wp2
    refine bodyPost_ret (v := .tuple #[.string ⟨#[]⟩, .int .i64 (k : Int), .int .i64 4]) (by simp [results, Tryz.results31, go_sem]) rfl ?_
    exact ⟨HR.out _ _ rfl HD1.out, w1, u', hu1, hu2, HU.out, HF.out, FrL.refl _ _⟩
theorem dfeed_closed {ai : Option Addr} {ni ci : Nat} (hd : DecAt d bk q n true w) : Calls Tryz.prog 31 #[.pointer (some ⟨d, 0, none⟩), .slice ai ni ci] w fun e w' => e = .returned (.tuple #[.string ⟨#[]⟩, .int .i64 0, .int .i64 11]) ∧ w' = w := by
  obtain ⟨c0, c1, c2, c3⟩ := hd.cells
  clear hd
  go_enter Tryz.func31, Tryz.ntmps31
  go_wp2
  refine bodyPost_ret (v := .tuple #[.string ⟨#[]⟩, .int .i64 0, .int .i64 11]) (by simp [results, Tryz.results31, go_sem]) rfl ?_
  exact ⟨rfl, rfl⟩
theorem dclose_any (hd : DecAt d bk q n c w) (hn : 0 ≤ n ∧ n ≤ 1000000000000) (hsz : bk.size ≤ 1000000000000) : Calls Tryz.prog 34 #[.pointer (some ⟨d, 0, none⟩)] w fun e w' => e = .returned (.string bk) ∧ DecAt d ⟨#[]⟩ q (n + (bk.size : Int)) true w' ∧ FrL [d] w w' := by
  have K1 := hide (drelease_any hd)
  obtain ⟨c0, c1, c2, c3⟩ := hd.cells
  clear hd
  go_enter Tryz.func34, Tryz.ntmps34
  go_wp2_with fail
  refine (unhide K1).mono ?_
  rintro e w2 ⟨rfl, hd2, hF2⟩
  obtain ⟨f0, f1, f2, f3⟩ := hd2.cells
  have y2 := hd2.free 2
  have hd3 := hd2.set2 (n + (bk.size : Int))
  have y3 := hd3.free 3
  have g3 := hd3.cells.2.2.2
  have hw1 : IntKind.i64.wrap (n + (bk.size : Int)) = n + (bk.size : Int) := by rw [IntKind.wrap_i64]; omega
  have H1 := hide (hd3.set3 true)
  have H2 := hide ((hF2.trans' (frq_set w2 d 2 (.int .i64 (n + (bk.size : Int))))).trans' (frq_set _ d 3 (.bool true)))
  clear hd2 hF2 K1 c0 c1 c2 c3 hd3
  go_wp2
  go_ret
  exact ⟨rfl, H1.out, H2.out⟩
end
end Go.Proofs.YtfjcfkkcdbojlaaGreat

namespace Go.Proofs.YtfjcfkkcdbojlaaGreat
open Go.RowKit Go.Maps
set_option linter.unusedVariables false
set_option linter.unusedSimpArgs false

theorem below_stepD {w w1 w2 : World} (h : Below w.heap.size w w1) (hb : Below w1.heap.size w1 w2) : Below w.heap.size w w2 := h.trans (hb.mono h.size)
/-- What holds of the blocks below D, a vocabulary among them that was used u times. -/
def Shd (P : Int → World → Prop) (D : Nat) (u : Int) (W : World) : Prop := ∃ W0, W0.heap.size ≤ D ∧ P u W0 ∧ Below W0.heap.size W0 W
section
variable {P : Int → World → Prop} {D d q : Nat} {u u' : Int} {w W W' : World}
theorem Shd.of (h : P u W) (hD : W.heap.size ≤ D) : Shd P D u W := ⟨W, hD, h, Below.refl _ _⟩
theorem Shd.low (h : Shd P D u W) (hb : Below W.heap.size W W') : Shd P D u W' := by
  obtain ⟨W0, h1, h2, h3⟩ := h
  exact ⟨W0, h1, h2, below_stepD h3 hb⟩
theorem Shd.frd (h : Shd P D u W) (hd : D ≤ d) (hF : FrL [d] W W') : Shd P D u W' := by
  obtain ⟨W0, h1, h2, h3⟩ := h
  exact ⟨W0, h1, h2, h3.trans (hF.below h3.size (fun k hk => by simp at hk; omega))⟩
theorem Shd.used {bx : Int → Obj} (hq : ∀ u W, P u W → W.heap[q]? = some (bx u)) (hs : ∀ u W, P u W → P (u + 1) (W.setCell ⟨q, 14, none⟩ (.int .i64 (u + 1)))) (h : Shd P D u W) (hv : W'.heap[q]? = some (bx u')) (hF : FrL [q] W W') (h1 : u ≤ u') (h2 : u' ≤ u + 1) : Shd P D u' W' := by
  obtain ⟨W0, hD, hP, hb⟩ := h
  rcases (show u' = u ∨ u' = u + 1 by omega) with rfl | rfl
  · refine ⟨W0, hD, hP, ⟨hF.os.trans hb.os, hF.tape.trans hb.tape, hF.output.trans hb.output, Nat.le_trans hb.size hF.size, fun k hk => ?_⟩⟩
    by_cases e : k = q
    · subst e
      rw [hv, hq _ _ hP]
    · rw [hF.block k (Nat.lt_of_lt_of_le hk hb.size) (by simpa using e)]
      exact hb.block k hk
  · have hF0 := frq_set W0 q 14 (.int .i64 (u + 1))
    have hP1 := hs _ _ hP
    have hsz : (W0.setCell ⟨q, 14, none⟩ (.int .i64 (u + 1))).heap.size = W0.heap.size := by simp
    refine ⟨_, by rw [hsz]; exact hD, hP1, ?_⟩
    rw [hsz]
    refine ⟨hF.os.trans (hb.os.trans hF0.os.symm), hF.tape.trans (hb.tape.trans hF0.tape.symm), hF.output.trans (hb.output.trans hF0.output.symm), by rw [hsz]; exact Nat.le_trans hb.size hF.size, fun k hk => ?_⟩
    by_cases e : k = q
    · subst e
      rw [hv, hq _ _ hP1]
    · rw [hF.block k (Nat.lt_of_lt_of_le hk hb.size) (by simpa using e), hb.block k hk, hF0.block k hk (by simpa using e)]
end
/-- A vocabulary below D. -/
def VuD (D B q : Nat) (z : VV) (s : Wf.Sp) (u : Int) (W : World) : Prop := Shd (fun u W => Vu B q z s u W) D u W
section
variable {D d B q : Nat} {z : VV} {s : Wf.Sp} {u u' : Int} {w W W' : World}
theorem VuD.vu (h : VuD D B q z s u W) : Vu B q z s u W := by
  obtain ⟨W0, h1, h2, h3⟩ := h
  exact Vu.low h2 h3
theorem VuD.used (h : VuD D B q z s u W) (hv : Vu B q z s u' W') (hF : FrL [q] W W') (h1 : u ≤ u') (h2 : u' ≤ u + 1) : VuD D B q z s u' W' :=
  Shd.used (fun _ _ h => h.box) (fun _ _ h => h.use) h hv.box hF h1 h2
end
def e13 : Wf.Sp := ⟨false, [], [], [], [], []⟩
theorem e13_right : e13.Right := (Wf.rightB_iff e13).1 (by decide)
theorem e13_ok : VOk e13 := by
  refine ⟨fun j hj => ?_, ⟨fun i hi => ?_, Or.inl ⟨rfl, rfl⟩⟩, fun j hj => ?_⟩
  · have : nT e13 = 0 := rfl
    omega
  · have : e13.specials.length = 0 := rfl
    omega
  · have : e13.specials.length = 0 := rfl
    omega
theorem e13_at (w : World) : Wf.SpAt w ⟨false, none, 0, 0, none, 0, 0, none, 0, 0, none, 0, 0, none, 0, 0⟩ e13 :=
  ⟨rfl, ⟨rfl, Or.inl rfl⟩, ⟨rfl, Or.inl rfl⟩, ⟨rfl, Or.inl rfl⟩, ⟨rfl, Or.inl rfl⟩, ⟨rfl, Or.inl rfl⟩⟩
theorem e13_a : txD e13.specials (txT e13) [195] = [195] := by decide +kernel
theorem e13_b : txD e13.specials (txT e13) [169] = [169] := by decide +kernel
theorem e13_ha : hasD e13.specials (txT e13).length 195 = true := by decide +kernel
theorem e13_hb : hasD e13.specials (txT e13).length 169 = true := by decide +kernel
theorem e13_A : allD ⟨#[]⟩ e13.specials (txT e13) [195] = ⟨#[195]⟩ := by unfold allD; rw [e13_a]; rfl
theorem e13_B : allD ⟨#[195]⟩ e13.specials (txT e13) [169] = ⟨#[195, 169]⟩ := by unfold allD; rw [e13_b]; rfl
theorem e13_h1 : heldL (⟨#[195]⟩ : ByteArray).data.toList = 1 := by decide
theorem e13_h2 : heldL (⟨#[195, 169]⟩ : ByteArray).data.toList = 0 := by decide
theorem row1 (w : World) (a : Int) : (w.alloc (.cells #[.int .i64 a] 3)).ownsRow w.heap.size 3 1 (.slice (some ⟨w.heap.size, 0, none⟩) 1 1) 1 (Mk.iv [a]) :=
  ⟨rfl, .inr ⟨w.heap.size, 1, _, rfl, Nat.le_refl _, heap_alloc_new w _, Nat.le_refl _, by unfold maxLen; omega, rfl, rfl⟩⟩
/-- What comes of one token that is there. -/
theorem dfp_one {d q : Nat} {bk a : ByteArray} {n : Int} {x : Int} {m : Nat} {e : Ending} {w' : World} (h : DfP d bk q n e13.specials (txT e13) [x] e w') (hx : hasD e13.specials (txT e13).length x = true) (ht : (allD bk e13.specials (txT e13) [x]) = a) (hm : heldL a.data.toList = m) : e = .returned (.tuple #[.string (a.extract 0 (a.size - m)), .int .i64 1, .int .i64 0]) ∧ DecAt d (a.extract (a.size - m) a.size) q (n + (a.size - m : Nat)) false w' := by
  rcases h with ⟨_, m', hm', h1, h2⟩ | ⟨k, hk, _, hno, _⟩
  · rw [ht] at hm' h1 h2
    rw [hm] at hm'
    subst hm'
    exact ⟨h1, h2⟩
  · obtain rfl : k = 0 := by simp at hk; omega
    have e1 : Mk.gI [x] 0 = x := rfl
    rw [e1, hx] at hno
    cases hno

theorem dfp_a {d q : Nat} {e : Ending} {w' : World} (h : DfP d ⟨#[]⟩ q 0 e13.specials (txT e13) [195] e w') : e = .returned (.tuple #[.string ⟨#[]⟩, .int .i64 1, .int .i64 0]) ∧ DecAt d ⟨#[195]⟩ q 0 false w' :=
  dfp_one (a := ⟨#[195]⟩) (m := 1) h e13_ha e13_A e13_h1
theorem dfp_b {d q : Nat} {e : Ending} {w' : World} (h : DfP d ⟨#[195]⟩ q 0 e13.specials (txT e13) [169] e w') : e = .returned (.tuple #[.string ⟨#[195, 169]⟩, .int .i64 1, .int .i64 0]) :=
  (dfp_one (a := ⟨#[195, 169]⟩) (m := 0) h e13_hb e13_B e13_h2).1
set_option maxRecDepth 20000 in
set_option maxHeartbeats 4000000 in
theorem awake13_any (w : World) : Calls Tryz.prog 23 #[] w fun e w' => e = .returned (.bool true) ∧ Below w.heap.size w w' := by
  have HN := hide (vnew_any _ _ _ (e13_at w))
  go_enter Tryz.func23, Tryz.ntmps23
  go_wp2_with fail
  refine (unhide HN).mono ?_
  rintro e w2 ⟨hP, hb⟩
  rcases hP with ⟨hr, _⟩ | ⟨_, ⟨q, z, _, rfl, hz⟩ | ⟨p, k, er, hbad, _⟩⟩
  · exact absurd ((Wf.rightB_iff e13).2 e13_right) (by rw [hr]; simp)
  rotate_left
  · exact (hbad.not e13_ok).elim
  have HB2 := hide hb
  have HZ := hide hz.vu
  have HQ := hide hz.hq
  clear hb hz HN
  go_wp2_with fail
  refine (dnew_any q w2).mono ?_
  rintro e w3 ⟨d, rfl, hd0, hd, hb⟩
  have HB3 := hide (below_stepD HB2.out hb)
  have HV3 : Hid (VuD d w.heap.size q z e13 0 w3) := hide ((Shd.of (P := fun u W => Vu w.heap.size q z e13 u W) HZ.out (Nat.le_of_eq hd0.symm)).low hb)
  have hla := Mk.low1 w3 (.cells #[.int .i64 195] 3)
  have hv4 := HV3.out.low hla
  have HB4 := hide (below_stepD HB3.out hla)
  have HV4 := hide hv4
  have K1 := hide (dfeed_any (ci := 1) (hd.kept hla) (VuD.vu hv4) Mk.TxOk.nil ⟨by omega, by omega⟩ (by decide) (Mk.RdI.of_row (row1 w3 195)) (fun b off e _ => by
      simp only [Option.some.injEq, Addr.mk.injEq, and_true] at e
      have := (VuD.vu HV3.out).lt
      omega) (by omega) (fun i hi => by
      obtain rfl : i = 0 := by omega
      show Mk.wfI 195
      unfold Mk.wfI
      omega) ⟨by omega, by omega⟩ (by rw [e13_A]; decide))
  have HDW := hide (show w.heap.size ≤ d by rw [hd0]; exact HB2.out.size)
  have HD3 := hide (hd.lt)
  clear hb hd hla hv4 HB2 HB3 HV3 HZ hd0
  go_wp2_with fail
  refine (unhide K1).mono ?_
  generalize w3.alloc (.cells #[.int .i64 195] 3) = w4 at *
  rintro e w6 ⟨hP, w5, u', hu1, hu2, hv, hF1, hF2⟩
  obtain ⟨rfl, hd6⟩ := dfp_a hP
  have hv5 := VuD.used HV4.out hv hF1 hu1 hu2
  have hv6 := Shd.frd hv5 (Nat.le_refl d) hF2
  have hb6 := (HB4.out.trans (hF1.below HB4.out.size (fun k hk => by simp at hk; have := HQ.out; omega))).trans (hF2.below (Nat.le_trans HB4.out.size hF1.size) (fun k hk => by simp at hk; have := HDW.out; omega))
  have hla := Mk.low1 w6 (.cells #[.int .i64 169] 3)
  have hv7 := VuD.vu (hv6.low hla)
  have HB7 := hide (below_stepD hb6 hla)
  have K2 := hide (dfeed_any (ci := 1) (hd6.kept hla) hv7 Mk.TxOk.nil ⟨by omega, by omega⟩ (by decide) (Mk.RdI.of_row (row1 w6 169)) (fun b off e _ => by
      simp only [Option.some.injEq, Addr.mk.injEq, and_true] at e
      have := (VuD.vu hv6).lt
      omega) (by omega) (fun i hi => by
      obtain rfl : i = 0 := by omega
      show Mk.wfI 169
      unfold Mk.wfI
      omega) ⟨by omega, by omega⟩ (by rw [e13_B]; decide))
  clear hP hv hF1 hF2 hv5 hv6 hb6 hla hv7 hd6 K1 HV4 HB4 hu1 hu2
  go_wp2_with fail
  refine (unhide K2).mono ?_
  generalize w6.alloc (.cells #[.int .i64 169] 3) = w7 at *
  rintro e w9 ⟨hP, w8, u2, hu1, hu2, hv, hF1, hF2⟩
  obtain rfl := dfp_b hP
  have HB9 := hide ((HB7.out.trans (hF1.below HB7.out.size (fun k hk => by simp at hk; have := HQ.out; omega))).trans (hF2.below (Nat.le_trans HB7.out.size hF1.size) (fun k hk => by simp at hk; have := HDW.out; omega)))
  clear hP hv hF1 hF2 K2 HB7 hu1 hu2
  go_wp2
  go_ret
  exact ⟨rfl, HB9.out⟩
end Go.Proofs.YtfjcfkkcdbojlaaGreat

namespace Go.Proofs.YtfjcfkkcdbojlaaGreat
open Go.RowKit Go.Maps
set_option linter.unusedVariables false
set_option linter.unusedSimpArgs false

theorem dtext_nil (w : World) (ai : Option Addr) (ni ci : Nat) : Calls Tryz.prog 26 #[.pointer none, .slice ai ni ci] w fun e w' => e = .returned (.tuple #[.string ⟨#[]⟩, .int .i64 0, .int .i64 1]) ∧ w' = w := by
  go_enter Tryz.func26, Tryz.ntmps26
  go_wp2
  (try simp only [Exit.inBlock, Exit.then])
  refine bodyPost_ret (v := .tuple #[.string ⟨#[]⟩, .int .i64 0, .int .i64 1]) (by simp [results, Tryz.results26, go_sem]) rfl ?_
  exact ⟨rfl, rfl⟩
theorem dfeed_nil (w : World) (ai : Option Addr) (ni ci : Nat) : Calls Tryz.prog 31 #[.pointer none, .slice ai ni ci] w fun e w' => e = .returned (.tuple #[.string ⟨#[]⟩, .int .i64 0, .int .i64 1]) ∧ w' = w := by
  go_enter Tryz.func31, Tryz.ntmps31
  go_wp2
  (try simp only [Exit.inBlock, Exit.then])
  refine bodyPost_ret (v := .tuple #[.string ⟨#[]⟩, .int .i64 0, .int .i64 1]) (by simp [results, Tryz.results31, go_sem]) rfl ?_
  exact ⟨rfl, rfl⟩
theorem dnew_nil (w : World) : Calls Tryz.prog 30 #[.pointer none] w fun e w' => e = .returned (.pointer none) ∧ w' = w := by
  go_enter Tryz.func30, Tryz.ntmps30
  go_wp2
  (try simp only [Exit.inBlock, Exit.then])
  refine bodyPost_ret (v := .pointer none) (by simp [results, Tryz.results30, go_sem]) rfl ?_
  exact ⟨rfl, rfl⟩
theorem dheld_nil (w : World) : Calls Tryz.prog 32 #[.pointer none] w fun e w' => e = .returned (.int .i64 0) ∧ w' = w := by
  go_enter Tryz.func32, Tryz.ntmps32
  go_wp2
  (try simp only [Exit.inBlock, Exit.then])
  refine bodyPost_ret (v := .int .i64 0) (by simp [results, Tryz.results32, go_sem]) rfl ?_
  exact ⟨rfl, rfl⟩
theorem dbytes_nil (w : World) : Calls Tryz.prog 33 #[.pointer none] w fun e w' => e = .returned (.int .i64 0) ∧ w' = w := by
  go_enter Tryz.func33, Tryz.ntmps33
  go_wp2
  (try simp only [Exit.inBlock, Exit.then])
  refine bodyPost_ret (v := .int .i64 0) (by simp [results, Tryz.results33, go_sem]) rfl ?_
  exact ⟨rfl, rfl⟩
theorem dclose_nil (w : World) : Calls Tryz.prog 34 #[.pointer none] w fun e w' => e = .returned (.string ⟨#[]⟩) ∧ w' = w := by
  go_enter Tryz.func34, Tryz.ntmps34
  go_wp2
  (try simp only [Exit.inBlock, Exit.then])
  refine bodyPost_ret (v := .string ⟨#[]⟩) (by simp [results, Tryz.results34, go_sem]) rfl ?_
  exact ⟨rfl, rfl⟩
end Go.Proofs.YtfjcfkkcdbojlaaGreat
