/- The document's answers: is it what would be made; the first offence. SpineFirst: the walk. Made by mksv.py. SpineValid: the walk. Made by mksv.py. -/
import Derived.Test.YtdpmjaelbjjanaaGreatZQs4
import Derived.Test.YtdpmjaelbjjanaaGreatZQa42
import Derived.Deep.RegionHeld3
import Derived.Test.YtdpmjaelbjjanaaGreatZQa34
namespace Go.Proofs.YtdpmjaelbjjanaaGreat
open Go.RowKit Go.Maps
set_option linter.unusedVariables false
set_option linter.unusedSimpArgs false

section
variable {s : Wf.Sp}
theorem ctV_len : ∀ I : List Int, (ctV s I).length ≤ 64 * I.length
  | [] => Nat.le_refl _
  | x :: r => by
    have ih := ctV_len r
    rw [ctV_cons, List.length_append, List.length_cons]
    have : (itm s x).length ≤ 64 := by
      show ((itV s.specials (txT s) x).getD []).length ≤ 64
      cases hg : itV s.specials (txT s) x with
      | none => simp
      | some l => exact (itV_len (tokT s) s.specials x l hg).2
    omega
/-- Up to the first offence tokens are such. -/
theorem bad_ch {I : List Int} : ∀ k, k ≤ I.length → (∀ j, j < k → badV s I j = false) → ChV s (I.take k)
  | 0, _, _ => trivial
  | k + 1, h, hn => by
    have ih := bad_ch k (by omega) (fun j hj => hn j (by omega))
    have hb := hn k (by omega)
    have hk : k < I.length := by omega
    have e : I.take (k + 1) = I.take k ++ [Mk.gI I k] := by
      rw [List.take_add_one, List.getElem?_eq_getElem hk]
      simp [Mk.gI, hk]
    unfold badV at hb
    rw [Bool.or_eq_false_iff] at hb
    rw [e, ch_snoc]
    refine ⟨ih, by simpa using hb.1, fun y hy => ?_⟩
    have hk0 : 0 < k := by
      rcases Nat.eq_zero_or_pos k with h0 | h0
      · subst h0; simp at hy
      · exact h0
    have hy' : y = Mk.gI I (k - 1) := by
      rw [List.getLast?_eq_getElem?, List.length_take, Nat.min_eq_left (by omega), List.getElem?_take_of_lt (by omega), List.getElem?_eq_getElem (by omega)] at hy
      simp only [Option.some.injEq] at hy
      rw [← hy]
      have : k - 1 < I.length := by omega
      simp [Mk.gI, this]
    have h2 := hb.2
    rw [decide_eq_true hk0, Bool.true_and] at h2
    rw [hy']
    simpa using h2
theorem ch_bad {I : List Int} {k : Nat} (hk : k < I.length) (h : ChV s (I.take (k + 1))) : badV s I k = false := by
  have e : I.take (k + 1) = I.take k ++ [Mk.gI I k] := by
    rw [List.take_add_one, List.getElem?_eq_getElem hk]
    simp [Mk.gI, hk]
  rw [e, ch_snoc] at h
  unfold badV
  rw [h.2.1]
  by_cases h0 : 0 < k
  · rw [h.2.2 (Mk.gI I (k - 1)) (by
      rw [List.getLast?_eq_getElem?, List.length_take, Nat.min_eq_left (by omega), List.getElem?_take_of_lt (by omega), List.getElem?_eq_getElem (by omega)]
      have : k - 1 < I.length := by omega
      simp [Mk.gI, this])]
    simp
  · rw [decide_eq_false h0]; rfl
/-- The next token offends just where what would be made parts from them. -/
theorem canon_bad (hV : VOk s) {I : List Int} {k : Nat} (hk : k < I.length) (hn : ∀ j, j < k → badV s I j = false) : decide (enS s (ctV s (I.take (k + 1))) = I.take (k + 1)) = !(badV s I k) := by
  cases hb : badV s I k with
  | false =>
    refine decide_eq_true ((canon_iff hV).2 (bad_ch (k + 1) (by omega) (fun j hj => ?_)))
    by_cases e : j = k
    · subst e; exact hb
    · exact hn j (by omega)
  | true =>
    refine decide_eq_false (fun h => ?_)
    have := ch_bad hk ((canon_iff hV).1 h)
    rw [hb] at this
    cases this
theorem bad_not {I : List Int} {k : Nat} (h : hasD s.specials (txT s).length (Mk.gI I k) = false) : badV s I k = true := by
  rw [← hasV_eq] at h
  unfold badV
  cases ha : aloneV s (Mk.gI I k) with
  | true => rw [alone_has ha] at h; cases h
  | false => rfl
theorem bad_has {I : List Int} {k : Nat} (h : badV s I k = false) : hasD s.specials (txT s).length (Mk.gI I k) = true := by
  cases hh : hasD s.specials (txT s).length (Mk.gI I k) with
  | true => rfl
  | false => rw [bad_not hh] at h; cases h
theorem valid_two (hV : VOk s) (x y : Int) : (hasD s.specials (txT s).length x && (hasD s.specials (txT s).length y && decide (enS s (ctV s [x, y]) = [x, y]))) = validV s x y := by
  unfold validV
  rw [← hasV_eq, ← hasV_eq, Bool.eq_iff_iff]
  simp only [Bool.and_eq_true, decide_eq_true_eq]
  rw [canon_iff hV]
  constructor
  · rintro ⟨_, _, h⟩
    exact ⟨h.1, h.2.2, h.2.1⟩
  · rintro ⟨h1, h2, h3⟩
    exact ⟨alone_has h1, alone_has h2, h1, h3, h2⟩
end

section
variable {s : Wf.Sp} {vb vm : Value} {a4 a5 a3 : Option Addr} {n4 c4 n5 c5 n3 c3 : Nat} {w : World}
set_option maxRecDepth 20000 in
set_option maxHeartbeats 8000000 in
theorem rcanon_any (h : DvP s vb vm a4 n4 a5 n5 a3 n3 w) (hV : VOk s) {ai : Option Addr} {ni ci : Nat} {I : List Int} (hI : Mk.RdI w ai ni I) (hni : ni ≤ 60) (hs : ∀ j, j < ni → hasD s.specials (txT s).length (Mk.gI I j) = true) :
    Calls Tryz.prog 28 #[.agg #[vb, vm, .slice a4 n4 c4, .slice a5 n5 c5, .slice a3 n3 c3], .slice ai ni ci] w fun e w' => e = .returned (.bool (decide (enS s (ctV s I) = I))) ∧ Below w.heap.size w w' := by
  obtain ⟨e1, d1, rfl⟩ := row_form h.rt.rb
  obtain ⟨e2, d2, rfl⟩ := row_form h.rt.rm
  generalize hN1 : (txT s).length = N1 at *
  generalize hN2 : (mgT s).length = N2 at *
  have hl1 := Mk.low1 w (.cells #[.slice e1 N1 d1, .slice e2 N2 d2, .slice a4 n4 c4, .slice a5 n5 c5, .slice a3 n3 c3] 38)
  have HX := hide (heap_alloc_new w (.cells #[.slice e1 N1 d1, .slice e2 N2 d2, .slice a4 n4 c4, .slice a5 n5 c5, .slice a3 n3 c3] 38))
  have HD := hide (h.kept hl1)
  have HI := hide (hI.kept hl1)
  have HB0 := hide hl1
  have HIL := hide hI.1
  rw [← hN1] at hs
  have KI := hide (fun (W : World) (hb : Below (w.alloc (.cells #[.slice e1 N1 d1, .slice e2 N2 d2, .slice a4 n4 c4, .slice a5 n5 c5, .slice a3 n3 c3] 38)).heap.size (w.alloc (.cells #[.slice e1 N1 d1, .slice e2 N2 d2, .slice a4 n4 c4, .slice a5 n5 c5, .slice a3 n3 c3] 38)) W) =>
    ritems_any (ci := ci) (cap := c3) (.slice a4 n4 c4) (.slice a5 n5 c5) (HD.out.kept hb).rt (HD.out.kept hb).rd (by have := HD.out.l3; omega) (HI.out.kept hb) (by omega) hs)
  have KE := hide (fun (W : World) (hb : Below (w.alloc (.cells #[.slice e1 N1 d1, .slice e2 N2 d2, .slice a4 n4 c4, .slice a5 n5 c5, .slice a3 n3 c3] 38)).heap.size (w.alloc (.cells #[.slice e1 N1 d1, .slice e2 N2 d2, .slice a4 n4 c4, .slice a5 n5 c5, .slice a3 n3 c3] 38)) W) (a2 : Option Addr) (c2 : Nat) (hr : Mk.RdI W a2 (catV s.specials (txT s) I).length (catV s.specials (txT s) I)) =>
    renc_any (ci := c2) (c4 := c4) (c5 := c5) (c3 := c3) (HD.out.kept hb) hr (by have h1 : (catV s.specials (txT s) I).length ≤ 64 * I.length := ctV_len I; have := HIL.out; omega) (fun j hj => ok_ctV hV _ (by show Mk.gI (catV s.specials (txT s) I) j ∈ catV s.specials (txT s) I; rw [show Mk.gI (catV s.specials (txT s) I) j = (catV s.specials (txT s) I)[j] by simp [Mk.gI, hj]]; exact List.getElem_mem hj)))
  have y0 := Lib.cell_of_heap HX.out 0
  have y1 := Lib.cell_of_heap HX.out 1
  have y2 := Lib.cell_of_heap HX.out 2
  have y3 := Lib.cell_of_heap HX.out 3
  have y4 := Lib.cell_of_heap HX.out 4
  have HQ := hide (show w.heap.size < (w.alloc (.cells #[.slice e1 N1 d1, .slice e2 N2 d2, .slice a4 n4 c4, .slice a5 n5 c5, .slice a3 n3 c3] 38)).heap.size by simp)
  have HN := hide (And.intro hN1 hN2)
  clear h hI hs hl1 hV hN1 hN2
  rw [show ctV s I = catV s.specials (txT s) I from rfl]
  generalize catV s.specials (txT s) I = CV at *
  generalize enS s CV = E at *
  go_enter Tryz.func28, Tryz.ntmps28
  go_wp2
  generalize w.alloc (.cells #[.slice e1 N1 d1, .slice e2 N2 d2, .slice a4 n4 c4, .slice a5 n5 c5, .slice a3 n3 c3] 38) = W0 at *
  generalize hqe : w.heap.size = q at *
  have HQE := hide hqe
  clear hqe
  have HBd : Hid (Below W0.heap.size W0 W0.drew) := hide below_drw
  have CS := hide (fun (W : World) (hb : Below W0.heap.size W0 W) => (show W.cell? ⟨q, 0, none⟩ = some (.slice e1 N1 d1) ∧ W.cell? ⟨q, 1, none⟩ = some (.slice e2 N2 d2) ∧ W.cell? ⟨q, 2, none⟩ = some (.slice a4 n4 c4) ∧ W.cell? ⟨q, 3, none⟩ = some (.slice a5 n5 c5) ∧ W.cell? ⟨q, 4, none⟩ = some (.slice a3 n3 c3) from
    ⟨(hb.cell HQ.out).trans (Lib.cell_of_heap HX.out 0), (hb.cell HQ.out).trans (Lib.cell_of_heap HX.out 1), (hb.cell HQ.out).trans (Lib.cell_of_heap HX.out 2), (hb.cell HQ.out).trans (Lib.cell_of_heap HX.out 3), (hb.cell HQ.out).trans (Lib.cell_of_heap HX.out 4)⟩))
  go_region_held3 (fun W => W.cell? ⟨q, 0, none⟩ = some (.slice e1 N1 d1) ∧ W.cell? ⟨q, 1, none⟩ = some (.slice e2 N2 d2) ∧ W.cell? ⟨q, 2, none⟩ = some (.slice a4 n4 c4) ∧ W.cell? ⟨q, 3, none⟩ = some (.slice a5 n5 c5) ∧ W.cell? ⟨q, 4, none⟩ = some (.slice a3 n3 c3)) (first | exact CS.out _ HB2.out | exact CS.out _ HB1.out | exact CS.out _ HBd.out | exact ⟨y0, y1, y2, y3, y4⟩ | go_keep) (first
    | (go_at_call 57; refine (KE.out _ HB1.out a2 c2 (Mk.RdI.of_row HR.out)).mono ?_; rintro e W2 ⟨⟨a6, c6, rfl, hr2⟩, hb⟩; have HB2 := hide (below_step HB1.out hb); have HR2 := hide hr2; clear hb hr2)
    | (go_at_call 58; refine (KI.out _ HBd.out).mono ?_; rintro e W1 ⟨⟨a2, c2, rfl, hr⟩, hb⟩; have HB1 := hide (below_step HBd.out hb); have HR := hide hr; clear hb hr)
    | fail)
  clear y0 y1 y2 y3 y4 CS KE KI HBd
  have HI2 := hide (HI.out.kept HB2.out)
  have HB : Hid (Below w.heap.size w W2) := hide (by have h := HB0.out.trans (HB2.out.mono (by rw [← HQE.out]; exact HB0.out.size)); rw [← HQE.out] at h; exact h)
  clear HB1 HB2 HR HI HD HX HQ HB0
  by_cases hlen : E.length = ni
  · have HR3 : Hid (W2.ownsRow W1.heap.size 3 1 (.slice a6 ni c6) ni (Mk.iv E)) := hide (by have h := HR2.out; unfold EnR at h; rw [hlen] at h; exact h)
    have HEL := hide hlen
    rw [show (Value.slice a6 E.length c6) = .slice a6 ni c6 by rw [hlen]]
    have hnn : (((E.length : Nat) : Int) == ((ni : Nat) : Int)) = true := by rw [hlen]; simp
    clear hlen HR2
    go_wp2
    go_loopw [6] (fun ix wr => ∃ k : Nat, ix = .int .i64 (k : Int) ∧ k ≤ ni ∧ Hid (∀ j, j < k → Mk.gI E j = Mk.gI I j) ∧ Hid (Below W2.heap.size W2 wr)) (fun ix _ => ni - (intOf ix).toNat)
    case atStart => exact ⟨0, rfl, Nat.zero_le _, hide (fun j hj => by omega), hide (Below.refl _ _)⟩
    case round =>
      obtain ⟨k, rfl, hk, HG, HBW⟩ := hrel
      by_cases hlt : k < ni
      · have hk0 : (0 : Int) ≤ (k : Int) := by omega
        have hk1 : (k : Int) < (ni : Int) := by omega
        have HRE := hide (Mk.RdI.of_row (row_keptB HR3.out HBW.out))
        have HRI := hide (HI2.out.kept HBW.out)
        rcases HRE.out.2 with h0 | ⟨b6, o6, ha6, hb6, hc6⟩
        · omega
        rcases HRI.out.2 with h0 | ⟨b7, o7, ha7, hb7, hc7⟩
        · omega
        subst ha6 ha7
        have q1 : ∀ d : Wb wr, d.W.cell? ⟨b6, o6 + k, none⟩ = some (.int .i64 (Mk.gI E k)) := fun d => (d.h.cell (p := ⟨b6, o6 + k, none⟩) hb6).trans (hc6 k hlt)
        have q2 : ∀ d : Wb wr, d.W.cell? ⟨b7, o7 + k, none⟩ = some (.int .i64 (Mk.gI I k)) := fun d => (d.h.cell (p := ⟨b7, o7 + k, none⟩) hb7).trans (hc7 k hlt)
        have ne : Nonempty (Wb wr) := ⟨⟨_, Below.refl _ _⟩⟩
        clear hb6 hc6 hb7 hc7 HRE HRI
        by_cases he : Mk.gI E k = Mk.gI I k
        · have HG2 : Hid (∀ j, j < k + 1 → Mk.gI E j = Mk.gI I j) := hide (fun j hj => by
            by_cases e : j = k
            · subst e; exact he
            · exact HG.out j (by omega))
          rw [he] at q1
          clear he HG
          generalize Mk.gI I k = x at *
          go_wp2
          refine region_v (α := Wb wr) Wc.W (by kernel_rfl) (by kernel_rfl) ⟨_, below_drw⟩ rfl ?_
          repeat (go_big_quiet_step (fail))
          refine wpQuiet_nil ?_
          intro W3 hw'
          have hW : Below wr.heap.size wr W3 := by obtain ⟨p, rfl⟩ := hw'; exact p.h
          have HB3 := hide (below_step HBW.out hW)
          clear hw' hW ne q1 q2 HBW
          go_wp2
          first
            | exact ⟨⟨k + 1, by go_num, by omega, HG2, HB3⟩, by simp [intOf]; omega⟩
            | (go_roundw
               case rel => exact ⟨k + 1, by go_num, by omega, HG2, HB3⟩
               case measure => simp [intOf]; omega)
        · have hxb : ((Mk.gI E k) == (Mk.gI I k)) = false := by simpa using he
          have HE : Hid (decide (E = I) = false) := hide (decide_eq_false (fun e => he (by rw [e])))
          generalize Mk.gI I k = x at *
          generalize Mk.gI E k = y at *
          go_wp2
          refine region_v (α := Wb wr) Wc.W (by kernel_rfl) (by kernel_rfl) ⟨_, below_drw⟩ rfl ?_
          repeat (go_big_quiet_step (fail))
          refine wpQuiet_nil ?_
          intro W3 hw'
          have hW : Below wr.heap.size wr W3 := by obtain ⟨p, rfl⟩ := hw'; exact p.h
          have HB3 := hide (below_step HB.out (below_step HBW.out hW))
          clear hw' hW ne q1 q2 HBW
          go_wp2
          (try simp only [Exit.inBlock, Exit.then])
          refine bodyPost_ret (v := .bool false) (by simp [results, Tryz.results28, go_sem]) rfl ?_
          exact ⟨by rw [HE.out], HB3.out⟩
      · obtain rfl : ni = k := by omega
        have HE : Hid (decide (E = I) = true) := hide (decide_eq_true (by
          refine List.ext_getElem (by rw [HEL.out, HIL.out]) (fun j h1 h2 => ?_)
          have := HG.out j (by rw [← HIL.out]; exact h2)
          simpa [Mk.gI, h1, h2] using this))
        have HB3 := hide (below_step HB.out HBW.out)
        go_wp2
        (try simp only [Exit.inBlock, Exit.then])
        first
          | (go_ret
             exact ⟨by rw [HE.out]; rfl, HB3.out⟩)
          | (refine bodyPost_ret (v := .bool true) (by simp [results, Tryz.results28, go_sem]) rfl ?_
             exact ⟨by rw [HE.out], HB3.out⟩)
  · have hne : ((E.length : Nat) : Int) ≠ ((ni : Nat) : Int) := by omega
    have hnb : (((E.length : Nat) : Int) == ((ni : Nat) : Int)) = false := by simpa using hne
    have HE : Hid (decide (E = I) = false) := hide (decide_eq_false (fun e => hlen (by rw [e]; exact HIL.out)))
    clear hlen HR2 HI2
    go_wp2
    (try simp only [Exit.inBlock, Exit.then])
    refine bodyPost_ret (v := .bool false) (by simp [results, Tryz.results28, go_sem]) rfl ?_
    exact ⟨by rw [HE.out], HB.out⟩

/-- The document's first offence. -/
def RfP (s : Wf.Sp) (I : List Int) (e : Ending) : Prop :=
  (∃ k : Nat, k < I.length ∧ badV s I k = true ∧ (∀ j, j < k → badV s I j = false) ∧ e = .returned (.int .i64 (k : Int))) ∨
  ((∀ j, j < I.length → badV s I j = false) ∧ e = .returned (.int .i64 (-1)))

theorem rdI_take {w : World} {ai : Option Addr} {ni : Nat} {I : List Int} (h : Mk.RdI w ai ni I) {k : Nat} (hk : k ≤ ni) : Mk.RdI w ai k (I.take k) := by
  refine ⟨by rw [List.length_take, h.1, Nat.min_eq_left hk], ?_⟩
  rcases h.2 with h0 | ⟨b, off, ha, hb, hc⟩
  · exact Or.inl (by omega)
  · refine Or.inr ⟨b, off, ha, hb, fun i hi => ?_⟩
    rw [hc i (by omega)]
    have e : Mk.gI (I.take k) i = Mk.gI I i := by
      unfold Mk.gI
      rw [List.getD_eq_getElem?_getD, List.getD_eq_getElem?_getD, List.getElem?_take_of_lt hi]
    rw [e]
theorem gI_take {I : List Int} {i k : Nat} (h : i < k) : Mk.gI (I.take k) i = Mk.gI I i := by
  unfold Mk.gI
  rw [List.getD_eq_getElem?_getD, List.getD_eq_getElem?_getD, List.getElem?_take_of_lt h]

set_option maxRecDepth 20000 in
set_option maxHeartbeats 8000000 in
theorem rfirst14_any (h : DvP s vb vm a4 n4 a5 n5 a3 n3 w) (hV : VOk s) {ai : Option Addr} {ni ci : Nat} {I : List Int} (hI : Mk.RdI w ai ni I) (hni : ni ≤ 60) (hci : ni ≤ ci) :
    Calls Tryz.prog 31 #[.agg #[vb, vm, .slice a4 n4 c4, .slice a5 n5 c5, .slice a3 n3 c3], .slice ai ni ci] w fun e w' => RfP s I e ∧ Below w.heap.size w w' := by
  obtain ⟨e1, d1, rfl⟩ := row_form h.rt.rb
  obtain ⟨e2, d2, rfl⟩ := row_form h.rt.rm
  generalize hN1 : (txT s).length = N1 at *
  generalize hN2 : (mgT s).length = N2 at *
  have hl1 := Mk.low1 w (.cells #[.slice e1 N1 d1, .slice e2 N2 d2, .slice a4 n4 c4, .slice a5 n5 c5, .slice a3 n3 c3] 38)
  have HX := hide (heap_alloc_new w (.cells #[.slice e1 N1 d1, .slice e2 N2 d2, .slice a4 n4 c4, .slice a5 n5 c5, .slice a3 n3 c3] 38))
  have HD := hide (h.kept hl1)
  have HI := hide (hI.kept hl1)
  have HB0 := hide hl1
  have HIL := hide hI.1
  have HV := hide hV
  have HQ := hide (show w.heap.size < (w.alloc (.cells #[.slice e1 N1 d1, .slice e2 N2 d2, .slice a4 n4 c4, .slice a5 n5 c5, .slice a3 n3 c3] 38)).heap.size by simp)
  have HNN := hide (And.intro hN1 hN2)
  clear h hI hl1 hV hN1 hN2
  go_enter Tryz.func31, Tryz.ntmps31
  go_wp2
  generalize w.alloc (.cells #[.slice e1 N1 d1, .slice e2 N2 d2, .slice a4 n4 c4, .slice a5 n5 c5, .slice a3 n3 c3] 38) = W0 at *
  go_loopw [5] (fun ix wr => ∃ k : Nat, ix = .int .i64 (k : Int) ∧ k ≤ ni ∧ Hid (∀ j, j < k → badV s I j = false) ∧ Hid (Below W0.heap.size W0 wr)) (fun ix _ => ni - (intOf ix).toNat)
  case atStart => exact ⟨0, rfl, Nat.zero_le _, hide (fun j hj => by omega), hide (Below.refl _ _)⟩
  case round =>
    obtain ⟨k, rfl, hk, HN, HB⟩ := hrel
    by_cases hlt : k < ni
    · have hk0 : (0 : Int) ≤ (k : Int) := by omega
      have hk1 : (k : Int) < (ni : Int) := by omega
      rcases HI.out.2 with h0 | ⟨b, off, ha, hbl, hc⟩
      · omega
      subst ha
      have HBD := hide (fun d : Wb wr => below_step HB.out d.h)
      have q5 : ∀ d : Wb wr, d.W.cell? ⟨b, off + k, none⟩ = some (.int .i64 (Mk.gI I k)) := fun d => ((HBD.out d).cell (p := ⟨b, off + k, none⟩) hbl).trans (hc k hlt)
      have HCX := hide (fun (d : Wb wr) (j : Nat) (v : Value) (hv : #[Value.slice e1 N1 d1, .slice e2 N2 d2, .slice a4 n4 c4, .slice a5 n5 c5, .slice a3 n3 c3][j]? = some v) => (((HBD.out d).cell (p := ⟨w.heap.size, j, none⟩) HQ.out).trans (Lib.cell_of_heap HX.out j)).trans hv)
      have q0 : ∀ d : Wb wr, d.W.cell? ⟨w.heap.size, 0, none⟩ = some (.slice e1 N1 d1) := fun d => HCX.out d 0 _ rfl
      have q1 : ∀ d : Wb wr, d.W.cell? ⟨w.heap.size, 1, none⟩ = some (.slice e2 N2 d2) := fun d => HCX.out d 1 _ rfl
      have q2 : ∀ d : Wb wr, d.W.cell? ⟨w.heap.size, 2, none⟩ = some (.slice a4 n4 c4) := fun d => HCX.out d 2 _ rfl
      have q3 : ∀ d : Wb wr, d.W.cell? ⟨w.heap.size, 3, none⟩ = some (.slice a5 n5 c5) := fun d => HCX.out d 3 _ rfl
      have q4 : ∀ d : Wb wr, d.W.cell? ⟨w.heap.size, 4, none⟩ = some (.slice a3 n3 c3) := fun d => HCX.out d 4 _ rfl
      have ne : Nonempty (Wb wr) := ⟨⟨_, Below.refl _ _⟩⟩
      have KH := hide (fun d : Wb wr => (rhas10_any (cap := c3) (.slice a4 n4 c4) (.slice a5 n5 c5) (HD.out.kept (HBD.out d)).rt (HD.out.kept (HBD.out d)).rd (by have := HD.out.l3; omega) (Mk.gI I k)).mono fun e w' h => (⟨h.1, ⟨w', below_step d.h h.2⟩, rfl⟩ : _ ∧ ∃ p : Wb wr, w' = p.W))
      clear hbl hc
      cases hh : hasD s.specials (txT s).length (Mk.gI I k) with
      | false =>
        rw [hh] at KH
        have HBK := hide (bad_not hh)
        clear hh
        generalize Mk.gI I k = x at *
        have KC : Hid True := hide trivial
        go_wp2
        refine region_v (α := Wb wr) Wc.W (by kernel_rfl) (by kernel_rfl) ⟨_, below_drw⟩ rfl ?_
        repeat (go_big_quiet_step (first | (go_at_call 27; with_reducible exact KH.out _)))
        refine wpQuiet_nil ?_
        intro W1 hw'
        have hW : Below wr.heap.size wr W1 := by obtain ⟨p, rfl⟩ := hw'; exact p.h
        have HB1 : Hid (Below w.heap.size w W1) := hide (below_step HB0.out (below_step HB.out hW))
        clear hw' hW ne q0 q1 q2 q3 q4 q5 KH HBD HCX
        go_wp2
        (try simp only [Exit.inBlock, Exit.then])
        refine bodyPost_ret (v := .int .i64 (k : Int)) (by simp [results, Tryz.results31, go_sem]) rfl ?_
        exact ⟨Or.inl ⟨k, by rw [HIL.out]; exact hlt, HBK.out, HN.out, rfl⟩, HB1.out⟩
      | true =>
        rw [hh] at KH
        have KC := hide (fun d : Wb wr => (rcanon_any (ci := ci) (c4 := c4) (c5 := c5) (c3 := c3) (HD.out.kept (HBD.out d)) HV.out (rdI_take (HI.out.kept (HBD.out d)) (show k + 1 ≤ ni by omega)) (by omega) (fun j hj => by
          rw [gI_take hj]
          by_cases e : j = k
          · subst e; exact hh
          · exact bad_has (HN.out j (by omega)))).mono fun e w' h => (⟨h.1, ⟨w', below_step d.h h.2⟩, rfl⟩ : _ ∧ ∃ p : Wb wr, w' = p.W))
        rw [canon_bad HV.out (by rw [HIL.out]; exact hlt) HN.out] at KC
        have hs0 : IntKind.i64.wrap ((k : Int) + 1) = ((k + 1 : Nat) : Int) := by rw [IntKind.wrap_i64]; omega
        have hs1 : (0 : Int) ≤ ((k + 1 : Nat) : Int) := by omega
        have hs2 : ((k + 1 : Nat) : Int) ≤ (ci : Int) := by omega
        clear hh
        generalize Mk.gI I k = x at *
        cases hb : badV s I k with
        | false =>
          rw [hb] at KC
          have HN2 : Hid (∀ j, j < k + 1 → badV s I j = false) := hide (fun j hj => by
            by_cases e : j = k
            · subst e; exact hb
            · exact HN.out j (by omega))
          clear hb HN
          go_wp2
          refine region_v (α := Wb wr) Wc.W (by kernel_rfl) (by kernel_rfl) ⟨_, below_drw⟩ rfl ?_
          repeat (go_big_quiet_step (first | (go_at_call 27; with_reducible exact KH.out _) | (go_at_call 28; with_reducible exact KC.out _)))
          refine wpQuiet_nil ?_
          intro W1 hw'
          have hW : Below wr.heap.size wr W1 := by obtain ⟨p, rfl⟩ := hw'; exact p.h
          have HB1 := hide (below_step HB.out hW)
          clear hw' hW ne q0 q1 q2 q3 q4 q5 KH KC HBD HCX HB
          go_wp2
          first
            | exact ⟨⟨k + 1, by go_num, by omega, HN2, HB1⟩, by simp [intOf]; omega⟩
            | (go_roundw
               case rel => exact ⟨k + 1, by go_num, by omega, HN2, HB1⟩
               case measure => simp [intOf]; omega)
        | true =>
          rw [hb] at KC
          have HBK := hide hb
          clear hb
          go_wp2
          refine region_v (α := Wb wr) Wc.W (by kernel_rfl) (by kernel_rfl) ⟨_, below_drw⟩ rfl ?_
          repeat (go_big_quiet_step (first | (go_at_call 27; with_reducible exact KH.out _) | (go_at_call 28; with_reducible exact KC.out _)))
          refine wpQuiet_nil ?_
          intro W1 hw'
          have hW : Below wr.heap.size wr W1 := by obtain ⟨p, rfl⟩ := hw'; exact p.h
          have HB1 : Hid (Below w.heap.size w W1) := hide (below_step HB0.out (below_step HB.out hW))
          clear hw' hW ne q0 q1 q2 q3 q4 q5 KH KC HBD HCX
          go_wp2
          (try simp only [Exit.inBlock, Exit.then])
          refine bodyPost_ret (v := .int .i64 (k : Int)) (by simp [results, Tryz.results31, go_sem]) rfl ?_
          exact ⟨Or.inl ⟨k, by rw [HIL.out]; exact hlt, HBK.out, HN.out, rfl⟩, HB1.out⟩
    · obtain rfl : ni = k := by omega
      have HB1 : Hid (Below w.heap.size w wr) := hide (below_step HB0.out HB.out)
      go_wp2
      (try simp only [Exit.inBlock, Exit.then])
      first
        | (go_ret
           exact ⟨Or.inr ⟨fun j hj => HN.out j (by rw [← HIL.out]; exact hj), rfl⟩, HB1.out⟩)
        | (refine bodyPost_ret (v := .int .i64 (-1)) (by simp [results, Tryz.results31, go_sem]) rfl ?_
           exact ⟨Or.inr ⟨fun j hj => HN.out j (by rw [← HIL.out]; exact hj), rfl⟩, HB1.out⟩)
end
end Go.Proofs.YtdpmjaelbjjanaaGreat

namespace Go.Proofs.YtdpmjaelbjjanaaGreat
open Go.RowKit Go.Maps
set_option linter.unusedVariables false
set_option linter.unusedSimpArgs false

theorem Ve.va {B q : Nat} {z : VV} {s : Wf.Sp} {u : Int} {W : World} (h : Ve B q z s u W) : Va B q z s u 0 none 0 0 W := ⟨h.vu.box, h.vu.rows, h.vu.tb, h.vu.mr, h.bd, Or.inl rfl⟩
/-- Both tell the same. -/
theorem fs_same {s : Wf.Sp} {I : List Int} {e e' : Ending} (h : FsP s I e) (h' : RfP s I e') : (∃ k : Nat, k < I.length ∧ e = .returned (.tuple #[.int .i64 (k : Int), .bool true]) ∧ e' = .returned (.int .i64 (k : Int))) ∨ (e = .returned (.tuple #[.int .i64 0, .bool false]) ∧ e' = .returned (.int .i64 (-1))) := by
  rcases h with ⟨k, h1, h2, h3, h4⟩ | ⟨h1, h2⟩
  · rcases h' with ⟨k', g1, g2, g3, g4⟩ | ⟨g1, _⟩
    · have : k = k' := by
        rcases Nat.lt_trichotomy k k' with h | h | h
        · rw [g3 k h] at h2; cases h2
        · exact h
        · rw [h3 k' h] at g2; cases g2
      subst this
      exact Or.inl ⟨k, h1, h4, g4⟩
    · rw [g1 k h1] at h2; cases h2
  · rcases h' with ⟨k', g1, g2, g3, g4⟩ | ⟨_, g2⟩
    · rw [h1 k' g1] at g2; cases g2
    · exact Or.inr ⟨h2, g2⟩

set_option maxRecDepth 20000 in
set_option maxHeartbeats 16000000 in
theorem sfirst_walk (c : CsR) (ai : Option Addr) (ni ci : Nat) (I : List Int) (w : World) (hc : CsAt c w) (hI : Mk.RdI w ai ni I) (hni : ni ≤ 9223372036854775807) (hwI : ∀ i, i < ni → Mk.wfI (Mk.gI I i)) (hci : ni ≤ ci) :
    Calls Tryz.prog 7 #[.agg c.cells, .slice ai ni ci] w fun e w' => e = .returned (.bool true) ∧ Below w.heap.size w w' := by
  have hlo := Wf.low_alloc w (.cells c.cells 27)
  have hbx := heap_alloc_new w (.cells c.cells 27)
  have HLO := hide hlo
  have HBX := hide hbx
  have HC := hide hc
  have HI := hide hI
  have HIL := hide hI.1
  have HWI := hide hwI
  have KG := hide (cgreat_any c _ (hc.kept hlo))
  clear hc hlo hI hwI
  have y0 := Lib.cell_of_heap hbx 0
  have y1 := Lib.cell_of_heap hbx 1
  have y2 := Lib.cell_of_heap hbx 2
  have y3 := Lib.cell_of_heap hbx 3
  clear hbx
  go_enter Tryz.func7, Tryz.ntmps7
  go_wp2_with fail
  refine (unhide KG).mono ?_
  rintro e w1 ⟨hP, hb1⟩
  have HB1 := hide (below_step HLO.out hb1)
  have HBX1 := hide ((hb1.block _ (Array.getElem?_eq_some_iff.1 HBX.out).1).trans HBX.out)
  clear hb1 KG y0 y1 y2 y3
  rcases hP with rfl | ⟨rfl, hf⟩
  · go_wp2_with fail
    refine (awake14_any _).mono ?_
    rintro e w2 ⟨rfl, hb2⟩
    have HB2 := hide (below_step HB1.out hb2)
    clear hb2
    go_wp2
    (try simp only [Exit.inBlock, Exit.then])
    refine bodyPost_ret (v := .bool true) (by simp [results, Tryz.results7, go_sem]) rfl ?_
    exact ⟨rfl, HB2.out⟩
  have HF := hide hf
  clear hf
  by_cases hbig : 60 < ni
  · have g1 : (60 : Int) < (ni : Int) := by omega
    go_wp2_with fail
    refine (awake14_any _).mono ?_
    rintro e w2 ⟨rfl, hb2⟩
    have HB2 := hide (below_step HB1.out hb2)
    clear hb2
    go_wp2
    (try simp only [Exit.inBlock, Exit.then])
    refine bodyPost_ret (v := .bool true) (by simp [results, Tryz.results7, go_sem]) rfl ?_
    exact ⟨rfl, HB2.out⟩
  have g1 : ¬ (60 : Int) < (ni : Int) := by omega
  have KA := hide (awake14_any w1)
  go_wp2_with fail
  refine (unhide KA).mono ?_
  rintro e w2 ⟨rfl, hb2⟩
  have HB2 := hide (below_step HB1.out hb2)
  have HBX2 := hide ((hb2.block _ (Array.getElem?_eq_some_iff.1 HBX1.out).1).trans HBX1.out)
  have KO := hide (cofx_any c w2 (HC.out.kept HB2.out) HF.out)
  have y0 := Lib.cell_of_heap HBX2.out 0
  have y1 := Lib.cell_of_heap HBX2.out 1
  have y2 := Lib.cell_of_heap HBX2.out 2
  have y3 := Lib.cell_of_heap HBX2.out 3
  clear hb2 KA
  go_wp2_with fail
  refine (unhide KO).mono ?_
  rintro e w3 ⟨⟨s, q, z, B, vb, vm, a4, n4, c4, a5, n5, c5, a3, n3, c3, rfl, hV, hOB, hL, hq, hve, hdv, hnc, hnj⟩, hb3⟩
  obtain ⟨e1, d1, rfl⟩ := row_form hdv.rt.rb
  obtain ⟨e2, d2, rfl⟩ := row_form hdv.rt.rm
  have hla := Mk.low1 w3 (.cells #[.slice e1 (txT s).length d1, .slice e2 (mgT s).length d2, .slice a4 n4 c4, .slice a5 n5 c5, .slice a3 n3 c3] 38)
  have HS : Hid (SvS w B q w3.heap.size z s (.slice e1 (txT s).length d1) (.slice e2 (mgT s).length d2) a4 n4 c4 a5 n5 c5 a3 n3 c3 (w3.alloc (.cells #[.slice e1 (txT s).length d1, .slice e2 (mgT s).length d2, .slice a4 n4 c4, .slice a5 n5 c5, .slice a3 n3 c3] 38))) := hide ⟨⟨_, _, _, _, (hve.low hla).va⟩, below_step (below_step HB2.out hb3) hla, (hdv.kept hla).rt, (hdv.kept hla).rd, (hdv.kept hla).rc, (hdv.kept hla).rj, hnc, hnj, heap_alloc_new w3 _, Nat.le_trans HB2.out.size hq⟩
  have HV := hide hV
  have HOB := hide hOB
  have HL := hide hL
  have HL4 := hide (And.intro hdv.l4 (And.intro hdv.l5 hdv.l3))
  clear y0 y1 y2 y3 hV hOB hL hq hve hdv hb3 hla KO HB2 HBX2 HB1 HBX1 hnc hnj
  have HDV := hide (fun (W : World) (h : SvS w B q w3.heap.size z s (.slice e1 (txT s).length d1) (.slice e2 (mgT s).length d2) a4 n4 c4 a5 n5 c5 a3 n3 c3 W) => (⟨h.rt, h.rc, h.rj, h.rd, HL4.out.1, HL4.out.2.1, HL4.out.2.2⟩ : DvP s (.slice e1 (txT s).length d1) (.slice e2 (mgT s).length d2) a4 n4 a5 n5 a3 n3 W))
  have KF := hide (HS.out.first HV.out HOB.out HL.out HI.out hci (by omega) HWI.out)
  have KR := hide (fun (W : World) (h : SvS w B q w3.heap.size z s (.slice e1 (txT s).length d1) (.slice e2 (mgT s).length d2) a4 n4 c4 a5 n5 c5 a3 n3 c3 W) => rfirst14_any (c4 := c4) (c5 := c5) (c3 := c3) (HDV.out W h) HV.out (HI.out.kept h.bel) (by omega) hci)
  clear HS HDV
  generalize (txT s).length = N1 at *
  generalize (mgT s).length = N2 at *
  go_wp2_with fail
  generalize w3.alloc (.cells #[.slice e1 N1 d1, .slice e2 N2 d2, .slice a4 n4 c4, .slice a5 n5 c5, .slice a3 n3 c3] 38) = W0 at *
  generalize w3.heap.size = qd at *
  refine (unhide KF).mono ?_
  rintro e W1 ⟨hFs, hs⟩
  have HFS := hide hFs
  have HS1 := hide hs
  obtain ⟨x0, x1, x2, x3, x4⟩ := hs.cells
  have K2 := hide (KR.out _ hs)
  clear hs KF KR
  rcases hFs with ⟨k, hk, _, _, rfl⟩ | ⟨_, rfl⟩
  · go_wp2_with fail
    refine (unhide K2).mono ?_
    rintro e W2 ⟨hr, hb⟩
    have HB := hide (below_step HS1.out.bel hb)
    rcases fs_same HFS.out hr with ⟨k', _, h1, rfl⟩ | ⟨h1, _⟩
    · simp only [Ending.returned.injEq, Value.tuple.injEq, Array.mk.injEq, List.cons.injEq, Value.int.injEq, true_and, and_true] at h1
      obtain rfl : k = k' := by omega
      have hk0 : decide ((0 : Int) ≤ (k : Int)) = true := decide_eq_true (by omega)
      have hk1 : (0 : Int) ≤ (k : Int) := by omega
      clear hb hr HFS K2 x0 x1 x2 x3 x4 h1
      go_wp2
      go_ret
      exact ⟨rfl, HB.out⟩
    · simp at h1
  · go_wp2_with fail
    refine (unhide K2).mono ?_
    rintro e W2 ⟨hr, hb⟩
    have HB := hide (below_step HS1.out.bel hb)
    rcases fs_same HFS.out hr with ⟨k', _, h1, _⟩ | ⟨_, rfl⟩
    · simp at h1
    · clear hb hr HFS K2 x0 x1 x2 x3 x4
      go_wp2
      go_ret
      exact ⟨rfl, HB.out⟩
end Go.Proofs.YtdpmjaelbjjanaaGreat

namespace Go.Proofs.YtdpmjaelbjjanaaGreat
open Go.RowKit Go.Maps
set_option linter.unusedVariables false
set_option linter.unusedSimpArgs false

theorem Ve.vaS {B q : Nat} {z : VV} {s : Wf.Sp} {u : Int} {W : World} (h : Ve B q z s u W) : Va B q z s u 0 none 0 0 W := ⟨h.vu.box, h.vu.rows, h.vu.tb, h.vu.mr, h.bd, Or.inl rfl⟩
theorem rdI_two (W : World) (x y : Int) : Mk.RdI (W.alloc (.cells #[.int .i64 x, .int .i64 y] 3)) (some ⟨W.heap.size, 0, none⟩) 2 [x, y] := by
  refine ⟨rfl, Or.inr ⟨_, _, rfl, by simp, fun i hi => ?_⟩⟩
  rcases (show i = 0 ∨ i = 1 by omega) with rfl | rfl <;> simp [Mk.gI]

set_option maxRecDepth 20000 in
set_option maxHeartbeats 16000000 in
theorem svalid_walk (c : CsR) (ai : Option Addr) (ni ci : Nat) (I : List Int) (w : World) (hc : CsAt c w) (hI : Mk.RdI w ai ni I) (hni : ni ≤ 9223372036854775807) (hwI : ∀ i, i < ni → Mk.wfI (Mk.gI I i)) (hci : ni ≤ ci) :
    Calls Tryz.prog 6 #[.agg c.cells, .slice ai ni ci] w fun e w' => e = .returned (.bool true) ∧ Below w.heap.size w w' := by
  have hlo := Wf.low_alloc w (.cells c.cells 27)
  have hbx := heap_alloc_new w (.cells c.cells 27)
  have HLO := hide hlo
  have HBX := hide hbx
  have HC := hide hc
  have HI := hide hI
  have HIL := hide hI.1
  have HWI := hide hwI
  have KG := hide (cgreat_any c _ (hc.kept hlo))
  clear hc hlo hI hwI
  have y0 := Lib.cell_of_heap hbx 0
  have y1 := Lib.cell_of_heap hbx 1
  have y2 := Lib.cell_of_heap hbx 2
  have y3 := Lib.cell_of_heap hbx 3
  clear hbx
  go_enter Tryz.func6, Tryz.ntmps6
  go_wp2_with fail
  refine (unhide KG).mono ?_
  rintro e w1 ⟨hP, hb1⟩
  have HB1 := hide (below_step HLO.out hb1)
  have HBX1 := hide ((hb1.block _ (Array.getElem?_eq_some_iff.1 HBX.out).1).trans HBX.out)
  clear hb1 KG y0 y1 y2 y3
  rcases hP with rfl | ⟨rfl, hf⟩
  · go_wp2_with fail
    refine (awake14_any _).mono ?_
    rintro e w2 ⟨rfl, hb2⟩
    have HB2 := hide (below_step HB1.out hb2)
    clear hb2
    go_wp2
    (try simp only [Exit.inBlock, Exit.then])
    refine bodyPost_ret (v := .bool true) (by simp [results, Tryz.results6, go_sem]) rfl ?_
    exact ⟨rfl, HB2.out⟩
  have HF := hide hf
  clear hf
  by_cases hbig : 12 < ni
  · have g1 : (12 : Int) < (ni : Int) := by omega
    go_wp2_with fail
    refine (awake14_any _).mono ?_
    rintro e w2 ⟨rfl, hb2⟩
    have HB2 := hide (below_step HB1.out hb2)
    clear hb2
    go_wp2
    (try simp only [Exit.inBlock, Exit.then])
    refine bodyPost_ret (v := .bool true) (by simp [results, Tryz.results6, go_sem]) rfl ?_
    exact ⟨rfl, HB2.out⟩
  have g1 : ¬ (12 : Int) < (ni : Int) := by omega
  have KA := hide (awake14_any w1)
  go_wp2_with fail
  refine (unhide KA).mono ?_
  rintro e w2 ⟨rfl, hb2⟩
  have HB2 := hide (below_step HB1.out hb2)
  have HBX2 := hide ((hb2.block _ (Array.getElem?_eq_some_iff.1 HBX1.out).1).trans HBX1.out)
  have KO := hide (cofx_any c w2 (HC.out.kept HB2.out) HF.out)
  have y0 := Lib.cell_of_heap HBX2.out 0
  have y1 := Lib.cell_of_heap HBX2.out 1
  have y2 := Lib.cell_of_heap HBX2.out 2
  have y3 := Lib.cell_of_heap HBX2.out 3
  clear hb2 KA
  go_wp2_with fail
  refine (unhide KO).mono ?_
  rintro e w3 ⟨⟨s, q, z, B, vb, vm, a4, n4, c4, a5, n5, c5, a3, n3, c3, rfl, hV, hOB, hL, hq, hve, hdv, hnc, hnj⟩, hb3⟩
  obtain ⟨e1, d1, rfl⟩ := row_form hdv.rt.rb
  obtain ⟨e2, d2, rfl⟩ := row_form hdv.rt.rm
  have hla := Mk.low1 w3 (.cells #[.slice e1 (txT s).length d1, .slice e2 (mgT s).length d2, .slice a4 n4 c4, .slice a5 n5 c5, .slice a3 n3 c3] 38)
  have HS : Hid (SvS w B q w3.heap.size z s (.slice e1 (txT s).length d1) (.slice e2 (mgT s).length d2) a4 n4 c4 a5 n5 c5 a3 n3 c3 (w3.alloc (.cells #[.slice e1 (txT s).length d1, .slice e2 (mgT s).length d2, .slice a4 n4 c4, .slice a5 n5 c5, .slice a3 n3 c3] 38))) := hide ⟨⟨_, _, _, _, (hve.low hla).vaS⟩, below_step (below_step HB2.out hb3) hla, (hdv.kept hla).rt, (hdv.kept hla).rd, (hdv.kept hla).rc, (hdv.kept hla).rj, hnc, hnj, heap_alloc_new w3 _, Nat.le_trans HB2.out.size hq⟩
  have HV := hide hV
  have HOB := hide hOB
  have HL := hide hL
  have HL4 := hide (And.intro hdv.l4 (And.intro hdv.l5 hdv.l3))
  clear y0 y1 y2 y3 hV hOB hL hq hve hdv hb3 hla KO HB2 HBX2 HB1 HBX1 hnc hnj
  have HDV := hide (fun (W : World) (h : SvS w B q w3.heap.size z s (.slice e1 (txT s).length d1) (.slice e2 (mgT s).length d2) a4 n4 c4 a5 n5 c5 a3 n3 c3 W) => (⟨h.rt, h.rc, h.rj, h.rd, HL4.out.1, HL4.out.2.1, HL4.out.2.2⟩ : DvP s (.slice e1 (txT s).length d1) (.slice e2 (mgT s).length d2) a4 n4 a5 n5 a3 n3 W))
  generalize hN1 : (txT s).length = N1 at *
  generalize hN2 : (mgT s).length = N2 at *
  have HNN := hide (And.intro hN1 hN2)
  clear hN1 hN2
  go_wp2
  generalize w3.alloc (.cells #[.slice e1 N1 d1, .slice e2 N2 d2, .slice a4 n4 c4, .slice a5 n5 c5, .slice a3 n3 c3] 38) = W0 at *
  generalize w3.heap.size = qd at *
  go_loopw [7] (fun ix wr => ∃ i : Nat, ix = .int .i64 (i : Int) ∧ i ≤ ni ∧ Hid (SvS w B q qd z s (.slice e1 N1 d1) (.slice e2 N2 d2) a4 n4 c4 a5 n5 c5 a3 n3 c3 wr)) (fun ix _ => ni - (intOf ix).toNat)
  case atStart => exact ⟨0, rfl, Nat.zero_le _, HS⟩
  case round =>
    clear HS
    obtain ⟨i, rfl, hi, HSO⟩ := hrel
    generalize wr = wo at *
    by_cases hlt : i < ni
    · have hi0 : (0 : Int) ≤ (i : Int) := by omega
      have hi1 : (i : Int) < (ni : Int) := by omega
      go_wp2
      go_loopw [8] (fun kx wr => ∃ k : Nat, kx = .int .i64 (k : Int) ∧ k ≤ ni ∧ Hid (SvS w B q qd z s (.slice e1 N1 d1) (.slice e2 N2 d2) a4 n4 c4 a5 n5 c5 a3 n3 c3 wr)) (fun kx _ => ni - (intOf kx).toNat)
      case atStart => exact ⟨0, rfl, Nat.zero_le _, HSO⟩
      case round =>
        clear HSO
        obtain ⟨k, rfl, hk, HS⟩ := hrel
        by_cases hkl : k < ni
        · have hk0 : (0 : Int) ≤ (k : Int) := by omega
          have hk1 : (k : Int) < (ni : Int) := by omega
          rcases HI.out.2 with h0 | ⟨b, off, ha, hbl, hc⟩
          · omega
          subst ha
          have HBD := hide (fun d : Wb wr => below_step HS.out.bel d.h)
          have q1 : ∀ d : Wb wr, d.W.cell? ⟨b, off + i, none⟩ = some (.int .i64 (Mk.gI I i)) := fun d => ((HBD.out d).cell (p := ⟨b, off + i, none⟩) hbl).trans (hc i hlt)
          have q2 : ∀ d : Wb wr, d.W.cell? ⟨b, off + k, none⟩ = some (.int .i64 (Mk.gI I k)) := fun d => ((HBD.out d).cell (p := ⟨b, off + k, none⟩) hbl).trans (hc k hkl)
          have ne : Nonempty (Wb wr) := ⟨⟨_, Below.refl _ _⟩⟩
          have HWX := hide (HWI.out i hlt)
          have HWY := hide (HWI.out k hkl)
          have HVT := hide (valid_two HV.out (Mk.gI I i) (Mk.gI I k))
          clear hbl hc
          generalize Mk.gI I i = x at *
          generalize Mk.gI I k = y at *
          go_wp2
          refine region_v (α := Wb wr) Wc.W (by kernel_rfl) (by kernel_rfl) ⟨_, below_drw⟩ rfl ?_
          repeat (go_big_quiet_step (fail))
          refine wpQuiet_nil ?_
          intro W1 hw'
          have hW : Below wr.heap.size wr W1 := by obtain ⟨p, rfl⟩ := hw'; exact p.h
          have HS1 := hide (HS.out.next hW)
          clear hw' hW ne q1 q2 HBD HS
          obtain ⟨x0, x1, x2, x3, x4⟩ := HS1.out.cells
          have K1 := hide (rhas10_any (cap := c3) (.slice a4 n4 c4) (.slice a5 n5 c5) HS1.out.rt HS1.out.rd (by have := HL4.out; omega) x)
          have KH2 := hide (fun (W : World) (h : SvS w B q qd z s (.slice e1 N1 d1) (.slice e2 N2 d2) a4 n4 c4 a5 n5 c5 a3 n3 c3 W) => rhas10_any (cap := c3) (.slice a4 n4 c4) (.slice a5 n5 c5) h.rt h.rd (by have := HL4.out; omega) y)
          have KCN := hide (fun (W : World) (h : SvS w B q qd z s (.slice e1 N1 d1) (.slice e2 N2 d2) a4 n4 c4 a5 n5 c5 a3 n3 c3 W) (hxy : ∀ j, j < 2 → hasD s.specials (txT s).length (Mk.gI [x, y] j) = true) => rcanon_any (ci := 2) (c4 := c4) (c5 := c5) (c3 := c3) ((HDV.out W h).kept (Mk.low1 W (.cells #[.int .i64 x, .int .i64 y] 3))) HV.out (rdI_two W x y) (by omega) hxy)
          have HXY : Hid (hasD s.specials (txT s).length x = true → hasD s.specials (txT s).length y = true → ∀ j, j < 2 → hasD s.specials (txT s).length (Mk.gI [x, y] j) = true) := hide (fun h1 h2 j hj => by
            rcases (show j = 0 ∨ j = 1 by omega) with rfl | rfl
            · exact h1
            · exact h2)
          generalize hasD s.specials (txT s).length x = hx at *
          generalize hasD s.specials (txT s).length y = hy at *
          generalize decide (enS s (ctV s [x, y]) = [x, y]) = cn at *
          cases hx
          · clear KH2 KCN HXY
            go_wp2_with fail
            refine (unhide K1).mono ?_
            rintro e W2 ⟨rfl, hb⟩
            have HS2 := hide (HS1.out.next hb)
            clear hb K1 HS1 x0 x1 x2 x3 x4
            rw [Bool.false_and] at HVT
            have KV := hide (HS2.out.valid HV.out HOB.out HL.out x y HWX.out HWY.out)
            rw [← HVT.out] at KV
            go_wp2_with fail
            refine (unhide KV).mono ?_
            rintro e W9 ⟨rfl, h9⟩
            have HSN := hide h9
            clear h9 KV
            go_wp2
            first
              | exact ⟨⟨k + 1, by go_num, by omega, HSN⟩, by simp [intOf]; omega⟩
              | (go_roundw
                 case rel => exact ⟨k + 1, by go_num, by omega, HSN⟩
                 case measure => simp [intOf]; omega)
          cases hy
          · clear KCN HXY
            go_wp2_with fail
            refine (unhide K1).mono ?_
            rintro e W2 ⟨rfl, hb⟩
            have HS2 := hide (HS1.out.next hb)
            have K2 := hide (KH2.out _ HS2.out)
            clear hb K1 HS1 KH2 x0 x1 x2 x3 x4
            obtain ⟨x0, x1, x2, x3, x4⟩ := HS2.out.cells
            go_wp2_with fail
            refine (unhide K2).mono ?_
            rintro e W3 ⟨rfl, hb⟩
            have HS3 := hide (HS2.out.next hb)
            clear hb K2 HS2 x0 x1 x2 x3 x4
            rw [Bool.true_and, Bool.false_and] at HVT
            have KV := hide (HS3.out.valid HV.out HOB.out HL.out x y HWX.out HWY.out)
            rw [← HVT.out] at KV
            go_wp2_with fail
            refine (unhide KV).mono ?_
            rintro e W9 ⟨rfl, h9⟩
            have HSN := hide h9
            clear h9 KV
            go_wp2
            first
              | exact ⟨⟨k + 1, by go_num, by omega, HSN⟩, by simp [intOf]; omega⟩
              | (go_roundw
                 case rel => exact ⟨k + 1, by go_num, by omega, HSN⟩
                 case measure => simp [intOf]; omega)
          · go_wp2_with fail
            refine (unhide K1).mono ?_
            rintro e W2 ⟨rfl, hb⟩
            have HS2 := hide (HS1.out.next hb)
            have K2 := hide (KH2.out _ HS2.out)
            clear hb K1 HS1 KH2 x0 x1 x2 x3 x4
            obtain ⟨x0, x1, x2, x3, x4⟩ := HS2.out.cells
            go_wp2_with fail
            refine (unhide K2).mono ?_
            rintro e W3 ⟨rfl, hb⟩
            have HS3 := hide (HS2.out.next hb)
            have K3 := hide (KCN.out _ HS3.out (HXY.out (by trivial) (by trivial)))
            have HS4 := hide (HS3.out.next (Mk.low1 W3 (.cells #[.int .i64 x, .int .i64 y] 3)))
            clear hb K2 HS2 KCN HXY x0 x1 x2 x3 x4
            obtain ⟨x0, x1, x2, x3, x4⟩ := HS3.out.cells
            rw [Bool.true_and, Bool.true_and] at HVT
            cases cn
            all_goals
              go_wp2_with fail
              refine (unhide K3).mono ?_
              rintro e W5 ⟨rfl, hb⟩
              have HS5 := hide (HS4.out.next hb)
              clear hb K3 HS4 HS3 x0 x1 x2 x3 x4
              have KV := hide (HS5.out.valid HV.out HOB.out HL.out x y HWX.out HWY.out)
              rw [← HVT.out] at KV
              go_wp2_with fail
              refine (unhide KV).mono ?_
              rintro e W9 ⟨rfl, h9⟩
              have HSN := hide h9
              clear h9 KV
              go_wp2
              first
                | exact ⟨⟨k + 1, by go_num, by omega, HSN⟩, by simp [intOf]; omega⟩
                | (go_roundw
                   case rel => exact ⟨k + 1, by go_num, by omega, HSN⟩
                   case measure => simp [intOf]; omega)
        · obtain rfl : ni = k := by omega
          have HSN := HS
          go_wp2
          first
            | exact ⟨⟨i + 1, by go_num, by omega, HSN⟩, by simp [intOf]; omega⟩
            | (go_roundw
               case rel => exact ⟨i + 1, by go_num, by omega, HSN⟩
               case measure => simp [intOf]; omega)
    · obtain rfl : ni = i := by omega
      have HBE := hide HSO.out.bel
      go_wp2
      (try simp only [Exit.inBlock, Exit.then])
      first
        | (go_ret
           exact ⟨rfl, HBE.out⟩)
        | (refine bodyPost_ret (v := .bool true) (by simp [results, Tryz.results6, go_sem]) rfl ?_
           exact ⟨rfl, HBE.out⟩)
end Go.Proofs.YtdpmjaelbjjanaaGreat
