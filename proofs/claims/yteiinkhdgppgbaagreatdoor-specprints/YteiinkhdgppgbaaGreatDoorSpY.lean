/- The lines' bytes; the writer's head. -/
import Derived.Test.YteiinkhdgppgbaaGreatDoorSpX
import Derived.Test.YteiinkhdgppgbaaGreatDoorSpN
namespace Go.Proofs.YteiinkhdgppgbaaGreatDoor
open Go.RowKit
set_option linter.unusedVariables false
set_option linter.unusedSimpArgs false

theorem lineV (r : Bool) : lineL (nameB 0) [if r then ⟨wRanks.toArray⟩ else ⟨wMerges.toArray⟩] = lV r := by
  cases r <;> decide
theorem lineM (m : Int × Int) : lineL (nameB 1) [numsS [m.1, m.2]] = lM m := by
  simp [lineL, nameB, numsS, lineS, numS, lM, ln]
theorem lineT (t : ByteArray) : lineL (nameB 2) [hexS t] = lT t := by
  simp [lineL, nameB, lT, ln, hexb]
theorem lineSp (m : Int × ByteArray) : lineL (nameB 3) [numS m.1, hexS m.2] = lS m := by
  simp [lineL, nameB, numS, lS, ln, hexb]
theorem lineC (m : Int × Int × Int) : lineL (nameB 4) [numsS [m.1, m.2.1, m.2.2]] = lC m := by
  simp [lineL, nameB, numsS, lineS, numS, lC, ln]
theorem lineJ (m : Int × Int) : lineL (nameB 5) [numsS [m.1, m.2]] = lJ m := by
  simp [lineL, nameB, numsS, lineS, numS, lJ, ln]
theorem itoa_len (z : Int) (h0 : 0 ≤ z) (h1 : z ≤ 1073741824) : (Lib.itoa z).length ≤ 10 := by
  rw [Lib.itoa, if_neg (by omega)]
  have := decDigits_len 9 z.toNat (by omega)
  omega
theorem hexb_len (s : ByteArray) : (hexb s).length ≤ 2 * s.size + 1 := hexS_size s
theorem ln_len (f : List UInt8) (ws : List (List UInt8)) : (ln f ws).length = f.length + (ws.map (fun w => w.length + 1)).sum := by
  unfold ln
  rw [List.length_append, List.length_flatMap]
  rfl
theorem lV_len (r : Bool) : (lV r).length ≤ 199 := by cases r <;> decide
theorem lM_len {m : Int × Int} (h : okM m = true) : (lM m).length ≤ 199 := by
  have hb := of_decide_eq_true h
  have h1 := itoa_len m.1 (by omega) (by omega)
  have h2 := itoa_len m.2 (by omega) (by omega)
  unfold lM
  rw [ln_len]
  simp [wMerge]
  omega
theorem lT_len {t : ByteArray} (h : okT t = true) : (lT t).length ≤ 199 := by
  have hb := of_decide_eq_true h
  have h1 := hexb_len t
  unfold lT
  rw [ln_len]
  simp [wToken]
  omega
theorem lS_len {m : Int × ByteArray} (h : okS m = true) : (lS m).length ≤ 199 := by
  have hb := of_decide_eq_true h
  have h1 := itoa_len m.1 (by omega) (by omega)
  have h2 := hexb_len m.2
  unfold lS
  rw [ln_len]
  simp [wSpecial]
  omega
theorem lC_len {m : Int × Int × Int} (h : okC m = true) : (lC m).length ≤ 199 := by
  have hb := of_decide_eq_true h
  have h1 := itoa_len m.1 (by omega) (by omega)
  have h2 := itoa_len m.2.1 (by omega) (by omega)
  have h3 := itoa_len m.2.2 (by omega) (by omega)
  unfold lC
  rw [ln_len]
  simp [wClass]
  omega
theorem lJ_len {m : Int × Int} (h : okJ m = true) : (lJ m).length ≤ 199 := by
  have hb := of_decide_eq_true h
  have h1 := itoa_len m.1 (by omega) (by omega)
  have h2 := itoa_len m.2 (by omega) (by omega)
  unfold lJ
  rw [ln_len]
  simp [wJoin]
  omega
theorem txt_len (ls : List (List UInt8)) (h : ∀ l ∈ ls, l.length ≤ 199) : (txt ls).length ≤ 200 * ls.length := by
  induction ls with
  | nil => simp [txt]
  | cons a r ih =>
    have h1 := h a List.mem_cons_self
    have h2 := ih (fun l hl => h l (List.mem_cons_of_mem _ hl))
    simp only [txt, List.flatMap_cons, List.length_append, List.length_cons, List.length_nil] at h2 ⊢
    omega
/-- One element more. -/
theorem txt_next {α : Type} (pre : List UInt8) (f : α → List UInt8) (l : List α) (d : α) (k : Nat) (h : k < l.length) : (pre ++ txt ((l.take k).map f)) ++ (f (l.getD k d) ++ [10]) = pre ++ txt ((l.take (k + 1)).map f) := by
  rw [List.take_succ_eq_append_getElem h, List.map_append, txt_append]
  simp [txt, List.getD_eq_getElem?_getD, h]
theorem txt_all {α : Type} (pre : List UInt8) (f : α → List UInt8) (l : List α) {n : Nat} (h : l.length = n) : pre ++ txt ((l.take n).map f) = pre ++ txt (l.map f) := by
  rw [List.take_of_length_le (by omega)]
theorem txt_bound {α : Type} (pre : List UInt8) (f : α → List UInt8) (l : List α) (k M : Nat) (hf : ∀ x ∈ l, (f x).length ≤ 199) (hp : pre.length ≤ M) (hl : l.length ≤ 1000) : (pre ++ txt ((l.take k).map f)).length ≤ M + 200000 := by
  have h1 := txt_len ((l.take k).map f) (fun x hx => by
    rw [List.mem_map] at hx
    obtain ⟨y, hy, rfl⟩ := hx
    exact hf y (List.mem_of_mem_take hy))
  rw [List.length_map, List.length_take] at h1
  rw [List.length_append]
  omega

/-- The writer's state: what is told lies in its builder; the spec lies in a box. -/
structure WrI (w0 : World) (b q : Nat) (x : Sv) (l : List UInt8) (W : World) : Prop where
  bel : Below w0.heap.size w0 W
  bld : Lib.IsBuilder TW 5 w0.heap.size b (Lib.byteCells l) W
  box : W.heap[q]? = some (.cells x.cs 28 (0, 0))
theorem WrI.low {w0 : World} {b q : Nat} {x : Sv} {l : List UInt8} {W W' : World} (h : WrI w0 b q x l W) (hb : Below W.heap.size W W') : WrI w0 b q x l W' :=
  ⟨h.bel.trans (hb.mono h.bel.size), isBuilder_low h.bld hb, by rw [hb.block q (Array.getElem?_eq_some_iff.1 h.box).1]; exact h.box⟩
theorem WrI.told {w0 : World} {b q : Nat} {x : Sv} {l l' : List UInt8} {W W' : World} (h : WrI w0 b q x l W) (hq : q ≠ b) (hB : Lib.BuilderAt TW 5 w0.heap.size b (.pointer (some ⟨b, 0, none⟩)) (Lib.byteCells l') W') (hf : FrW w0.heap.size b W W') : WrI w0 b q x l' W' :=
  ⟨h.bel.trans hf.bel, Or.inr hB, hf.box q _ _ _ h.box (by decide) hq⟩
theorem WrI.cells {w0 : World} {b q : Nat} {x : Sv} {l : List UInt8} {W : World} (h : WrI w0 b q x l W) : BxS q x W := by
  refine ⟨?_, ?_, ?_, ?_, ?_, ?_⟩ <;> (rw [Lib.cell_of_heap h.box]; rfl)

set_option maxHeartbeats 4000000 in
set_option maxRecDepth 20000 in
theorem whead_any (w0 : World) (hE : Env w0) (b q : Nat) (hq : q ≠ b) (x : Sv) (r : Bool) (W : World) (h : WrI w0 b q x [] W) :
    Calls Tryz.prog 43 #[.pointer (some ⟨b, 0, none⟩), .bool r] W fun e w' => e = .returned (.tuple #[]) ∧ WrI w0 b q x (txt [lV r]) w' := by
  cases r with
  | true =>
    have hlo := low_alloc W (.cells #[.string ⟨#[114, 97, 110, 107, 115]⟩] 9)
    have h1 := h.low hlo
    have K := wline_any w0 hE b 0 [] _ 1 1 [⟨#[114, 97, 110, 107, 115]⟩] _ h1.bel h1.bld (reads_text W _ 9) (by omega) (by omega) (by intro s hs; rw [List.mem_singleton] at hs; subst hs; decide) (by simp)
    have HT := hide (show ([] : List UInt8) ++ (lineL (nameB 0) [⟨#[114, 97, 110, 107, 115]⟩] ++ [10]) = txt [lV true] by decide)
    rw [HT.out] at K
    have HH := hide h1
    clear h h1 hlo
    go_enter Tryz.func43, Tryz.ntmps43
    go_wp2_with fail
    refine K.mono ?_
    rintro e w1 ⟨rfl, hB, hf⟩
    have HR := hide (HH.out.told hq hB hf)
    clear hB hf K
    go_wp2
    go_end0
    exact ⟨rfl, HR.out⟩
  | false =>
    have hlo := low_alloc W (.cells #[.string ⟨#[109, 101, 114, 103, 101, 115]⟩] 9)
    have h1 := h.low hlo
    have K := wline_any w0 hE b 0 [] _ 1 1 [⟨#[109, 101, 114, 103, 101, 115]⟩] _ h1.bel h1.bld (reads_text W _ 9) (by omega) (by omega) (by intro s hs; rw [List.mem_singleton] at hs; subst hs; decide) (by simp)
    have HT := hide (show ([] : List UInt8) ++ (lineL (nameB 0) [⟨#[109, 101, 114, 103, 101, 115]⟩] ++ [10]) = txt [lV false] by decide)
    rw [HT.out] at K
    have HH := hide h1
    clear h h1 hlo
    go_enter Tryz.func43, Tryz.ntmps43
    go_wp2_with fail
    refine K.mono ?_
    rintro e w1 ⟨rfl, hB, hf⟩
    have HR := hide (HH.out.told hq hB hf)
    clear hB hf K
    go_wp2
    go_end0
    exact ⟨rfl, HR.out⟩
end Go.Proofs.YteiinkhdgppgbaaGreatDoor
