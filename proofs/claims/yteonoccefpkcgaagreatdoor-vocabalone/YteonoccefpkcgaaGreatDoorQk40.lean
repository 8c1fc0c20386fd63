/- Contracts: vocab.New; a right spec's text, told and loaded. A vocabulary that is used; the items of tokens. Rows of numbers that are the same (slices.Equal). The document's items of tokens. -/
import Derived.Test.YteonoccefpkcgaaGreatDoorQk37
import Derived.Test.YteonoccefpkcgaaGreatDoorQk39
import Derived.BigQuiet
namespace Go.Proofs.YteonoccefpkcgaaGreatDoor
open Go.RowKit Go.Maps
set_option linter.unusedVariables false
set_option linter.unusedSimpArgs false

theorem below_drwV {W : World} : Below W.heap.size W W.drew := ⟨rfl, rfl, rfl, Nat.le_refl _, fun _ _ => rfl⟩
/-- What comes of New. -/
def NwV (s : Wf.Sp) (w : World) (e : Ending) (w' : World) : Prop :=
  ((Wf.rightB s = false ∧ e = .returned (.tuple #[.pointer none, .int .i64 0, .int .i64 1])) ∨
   (s.Right ∧ ((∃ q z, VOk s ∧ e = .returned (.tuple #[.pointer (some ⟨q, 0, none⟩), .int .i64 0, .int .i64 0]) ∧ StB w q 4 z s w') ∨ ∃ (p k : Nat) (er : Int), VBad s p k er ∧ e = .returned (.tuple #[.pointer none, .int .i64 k, .int .i64 er])))) ∧ Below w.heap.size w w'

set_option maxRecDepth 20000 in
set_option maxHeartbeats 8000000 in
theorem vnew_any (x : Wf.Sv) (s : Wf.Sp) (w : World) (h : Wf.SpAt w x s) :
    Calls Tryz.prog 8 #[.agg x.cs] w (NwV s w) := by
  have hlo := Wf.low_alloc w (.cells x.cs 32)
  have HI := hide (Wf.SpI.new h 32)
  have HC := hide (Wf.right_any x s _ HI.out.sp)
  have HB := hide hlo
  clear h hlo
  obtain ⟨y0, y1, y2, y3, y4, y5⟩ := HI.out.box
  obtain ⟨r, a1, n1, c1, a2, n2, c2, a3, n3, c3, a4, n4, c4, a5, n5, c5⟩ := x
  simp only at y0 y1 y2 y3 y4 y5
  cases hr : Wf.rightB s with
  | false =>
    have HR := hide hr
    rw [hr] at HC
    clear hr
    go_enter Tryz.func8, Tryz.ntmps8
    go_wp2_with fail
    refine (unhide HC).mono ?_
    rintro e w2 ⟨rfl, hb2⟩
    have HB2 := hide (HI.out.next hb2).bel
    clear hb2 HI HC HB y0 y1 y2 y3 y4 y5
    go_wp2
    (try simp only [Exit.inBlock, Exit.then])
    refine bodyPost_ret (v := .tuple #[.pointer none, .int .i64 0, .int .i64 1]) (by simp [results, Tryz.results8, go_sem]) rfl ?_
    exact ⟨Or.inl ⟨HR.out, rfl⟩, HB2.out⟩
  | true =>
    have HRT := hide ((Wf.rightB_iff s).1 hr)
    rw [hr] at HC
    clear hr
    go_enter Tryz.func8, Tryz.ntmps8
    go_wp2_with fail
    refine (unhide HC).mono ?_
    rintro e w2 ⟨rfl, hb2⟩
    replace HI := hide (HI.out.next hb2)
    clear hb2 HC HB y0 y1 y2 y3 y4 y5
    obtain ⟨y0, y1, y2, y3, y4, y5⟩ := HI.out.box
    simp only at y0 y1 y2 y3 y4 y5
    have HBU := hide (build_any _ s _ HI.out.sp HRT.out (at_le HI.out.sp HRT.out))
    go_wp2_with fail
    refine (unhide HBU).mono ?_
    rintro e w3 ⟨hP, hb3⟩
    rcases hP with ⟨q, z, hv, rfl, hz⟩ | ⟨p, k, er, hbad, rfl⟩
    · have hla := Wf.low_alloc w3 (.cells #[.int .i64 0, .int .i64 0, .int .i64 0] 71)
      have HZ := hide (((hz.base HI.out.bel).low hla).low below_drwV)
      have hfl := heap_alloc_new w3 (.cells #[.int .i64 0, .int .i64 0, .int .i64 0] 71)
      have x1 : (w3.alloc (.cells #[.int .i64 0, .int .i64 0, .int .i64 0] 71)).cell? ⟨w3.heap.size, 1, none⟩ = some (.int .i64 0) := Lib.cell_of_heap hfl 1
      have x2 : (w3.alloc (.cells #[.int .i64 0, .int .i64 0, .int .i64 0] 71)).cell? ⟨w3.heap.size, 2, none⟩ = some (.int .i64 0) := Lib.cell_of_heap hfl 2
      have HV := hide hv
      clear hv hz hla hfl hb3 HBU HI y0 y1 y2 y3 y4 y5
      go_wp2
      generalize w3.heap.size = bf at *
      generalize w3.alloc (.cells #[.int .i64 0, .int .i64 0, .int .i64 0] 71) = w4 at *
      go_region
      all_goals
        go_wp2
        (try simp only [Exit.inBlock, Exit.then])
        refine bodyPost_ret (v := .tuple #[.pointer (some ⟨q, 0, none⟩), .int .i64 0, .int .i64 0]) (by simp [results, Tryz.results8, go_sem]) rfl ?_
        exact ⟨Or.inr ⟨HRT.out, Or.inl ⟨q, z, HV.out, rfl, HZ.out⟩⟩, HZ.out.bel⟩
    · have hla := Wf.low_alloc w3 (.cells #[.int .i64 p, .int .i64 k, .int .i64 er] 71)
      have HB5 := hide ((HI.out.next hb3).next hla).bel
      have HB6 : Hid (Below w.heap.size w (w3.alloc (.cells #[.int .i64 p, .int .i64 k, .int .i64 er] 71)).drew) := hide (HB5.out.trans ⟨rfl, rfl, rfl, Nat.le_refl _, fun _ _ => rfl⟩)
      have hfl := heap_alloc_new w3 (.cells #[.int .i64 p, .int .i64 k, .int .i64 er] 71)
      have x1 : (w3.alloc (.cells #[.int .i64 p, .int .i64 k, .int .i64 er] 71)).cell? ⟨w3.heap.size, 1, none⟩ = some (.int .i64 k) := Lib.cell_of_heap hfl 1
      have x2 : (w3.alloc (.cells #[.int .i64 p, .int .i64 k, .int .i64 er] 71)).cell? ⟨w3.heap.size, 2, none⟩ = some (.int .i64 er) := Lib.cell_of_heap hfl 2
      have HBD := hide hbad
      clear hbad hla hfl hb3 HBU HI HB5 y0 y1 y2 y3 y4 y5
      go_wp2
      generalize w3.heap.size = bf at *
      generalize w3.alloc (.cells #[.int .i64 p, .int .i64 k, .int .i64 er] 71) = w4 at *
      go_region
      all_goals
        go_wp2
        (try simp only [Exit.inBlock, Exit.then])
        refine bodyPost_ret (v := .tuple #[.pointer none, .int .i64 k, .int .i64 er]) (by simp [results, Tryz.results8, go_sem]) rfl ?_
        exact ⟨Or.inr ⟨HRT.out, Or.inr ⟨p, k, er, HBD.out, rfl⟩⟩, HB6.out⟩

end Go.Proofs.YteonoccefpkcgaaGreatDoor

namespace Go.Proofs.YteonoccefpkcgaaGreatDoor
open Go.RowKit Go.Maps
set_option linter.unusedVariables false
set_option linter.unusedSimpArgs false

theorem Tok.pos {tx : List ByteArray} {mg : List (Int × Int)} (h : Tok tx mg) : ∀ i, i < tx.length → 0 < (gs tx i).size := by
  intro i
  induction i using Nat.strongRecOn with
  | ind i ih =>
    intro hi
    by_cases hb : i < 256
    · rw [h.low i hb]
      simp [one, ByteArray.size]
    · obtain ⟨j, rfl⟩ : ∃ j, i = 256 + j := ⟨i - 256, by omega⟩
      have hj : j < mg.length := by have := h.len; omega
      have hp := h.par j hj
      rw [h.made j hj]
      have h1 := ih (gm mg j).1.toNat (by omega) (by omega)
      simp
      omega
section
variable {w W W' : World} {B q : Nat} {z : VV} {s : Wf.Sp} {u : Int}
end

end Go.Proofs.YteonoccefpkcgaaGreatDoor

namespace Go.Proofs.YteonoccefpkcgaaGreatDoor
open Go.RowKit Go.Maps
set_option linter.unusedVariables false
set_option linter.unusedSimpArgs false

theorem low_drewX (w : World) (n : Nat) : Below w.heap.size w (w.drewN n) := ⟨rfl, rfl, rfl, Nat.le_refl _, fun _ _ => rfl⟩
theorem getD_extX {α : Type} (d : α) {A B : List α} {n : Nat} (ha : A.length = n) (hb : B.length = n) (h : ∀ j, j < n → A.getD j d = B.getD j d) : A = B := by
  refine List.ext_getElem (by omega) (fun i h1 h2 => ?_)
  have := h i (by omega)
  rw [List.getD_eq_getElem?_getD, List.getD_eq_getElem?_getD, List.getElem?_eq_getElem h1, List.getElem?_eq_getElem h2] at this
  exact this
set_option maxRecDepth 20000 in
set_option maxHeartbeats 8000000 in
theorem eqI_any (w : World) (a1 a2 : Option Addr) (n1 n2 c1 c2 : Nat) (A B : List Int) (ha : Mk.RdI w a1 n1 A) (hb : Mk.RdI w a2 n2 B) (hn : n1 ≤ 9223372036854775807) :
    Calls Tryz.prog 73 #[.slice a1 n1 c1, .slice a2 n2 c2] w fun e w' => e = .returned (.bool (decide (A = B))) ∧ Below w.heap.size w w' := by
  have HA := hide ha
  have HB := hide hb
  clear ha hb
  by_cases hne : ¬ n1 = n2
  · have HD : Hid (decide (A = B) = false) := hide (decide_eq_false (fun e => hne (by rw [← HA.out.1, ← HB.out.1, e])))
    have hnd : ((n1 : Int) != (n2 : Int)) = true := by simp; omega
    go_enter Tryz.func73, Tryz.ntmps73
    go_wp2
    go_ret
    exact ⟨by rw [HD.out]; rfl, Below.refl _ _⟩
  replace hne : n1 = n2 := by omega
  subst hne
  go_enter Tryz.func73, Tryz.ntmps73
  go_wp2
  go_loopw [13] (fun i wr => ∃ (k : Nat), i = .int .i64 k ∧ k ≤ n1 ∧ Hid (∀ j, j < k → Mk.gI A j = Mk.gI B j) ∧ Hid (Below w.heap.size w wr)) (fun i _ => n1 - (intOf i).toNat)
  case atStart => exact ⟨0, rfl, Nat.zero_le _, hide (fun j hj => by omega), hide (Below.refl _ _)⟩
  case round =>
    obtain ⟨k, rfl, hk, HK, HBl⟩ := hrel
    by_cases hlt : k < n1
    · have hk0 : (0 : Int) ≤ (k : Int) := by omega
      have hk1 : (k : Int) < (n1 : Int) := by omega
      rcases (HA.out.kept HBl.out).2 with h0 | ⟨b, off, rfl, hbw, hc⟩
      · omega
      rcases (HB.out.kept HBl.out).2 with h0 | ⟨b', off', rfl, hbw', hc'⟩
      · omega
      have c0 := hc k hlt
      have d0 := hc' k hlt
      clear hc hc'
      have HK2 : Hid (Mk.gI A k = Mk.gI B k → ∀ j, j < k + 1 → Mk.gI A j = Mk.gI B j) := hide (fun h j hj => by
        by_cases e : j = k
        · subst e; exact h
        · exact HK.out j (by omega))
      have HNE : Hid (¬ (Mk.gI A k = Mk.gI B k) → A ≠ B) := hide (fun h e => h (by rw [e]))
      generalize Mk.gI A k = x0 at *
      generalize Mk.gI B k = y0 at *
      by_cases e0 : x0 = y0
      · have HF := hide (HK2.out e0)
        subst e0
        go_wp2
        go_quiet (fail)
        have HD := hide (HBl.out.trans ((low_drewX wr nq).mono HBl.out.size))
        clear c0 d0
        generalize wr.drewN nq = wd at *
        go_wp2
        exact ⟨⟨k + 1, by go_num, by omega, HF, HD⟩, by simp [intOf]; omega⟩
      · have HF := hide (HNE.out (fun h => e0 h))
        have hd0 : (x0 != y0) = true := by simpa using e0
        clear e0
        go_wp2
        go_quiet (fail)
        have HD := hide (HBl.out.trans ((low_drewX wr nq).mono HBl.out.size))
        clear c0 d0
        generalize wr.drewN nq = wd at *
        go_wp2
        go_ret
        exact ⟨by rw [decide_eq_false HF.out]; rfl, HD.out⟩
    · obtain rfl : k = n1 := by omega
      have HEQ : Hid (A = B) := hide (getD_extX (0 : Int) HA.out.1 HB.out.1 HK.out)
      go_wp2
      go_ret
      exact ⟨by rw [decide_eq_true HEQ.out]; rfl, HBl.out⟩

end Go.Proofs.YteonoccefpkcgaaGreatDoor

namespace Go.Proofs.YteonoccefpkcgaaGreatDoor
open Go.RowKit Go.Maps
set_option linter.unusedVariables false
set_option linter.unusedSimpArgs false
attribute [local go_sem ↓] Go.wp_at_zero Go.wp_at_succ

/-- All worlds that are got from one by what is new. -/
abbrev Wb (wr : World) := Wc (fun W => Below wr.heap.size wr W)
end Go.Proofs.YteonoccefpkcgaaGreatDoor
