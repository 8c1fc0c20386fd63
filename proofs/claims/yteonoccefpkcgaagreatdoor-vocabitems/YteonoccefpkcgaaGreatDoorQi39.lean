/- Contracts: vocab.New; a right spec's text, told and loaded. A vocabulary that is used; the items of tokens. The document's items of tokens. -/
import Derived.Test.YteonoccefpkcgaaGreatDoorQi36
import Derived.Test.YteonoccefpkcgaaGreatDoorQi38
namespace Go.Proofs.YteonoccefpkcgaaGreatDoor
open Go.RowKit Go.Maps
set_option linter.unusedVariables false
set_option linter.unusedSimpArgs false

theorem below_drwV {W : World} : Below W.heap.size W W.drew := ⟨rfl, rfl, rfl, Nat.le_refl _, fun _ _ => rfl⟩
/-- What comes of New. -/
def NwV (s : Wf.Sp) (w : World) (e : Ending) (w' : World) : Prop :=
  ((Wf.rightB s = false ∧ e = .returned (.tuple #[.pointer none, .int .i64 0, .int .i64 1])) ∨
   (s.Right ∧ ((∃ q z, VOk s ∧ e = .returned (.tuple #[.pointer (some ⟨q, 0, none⟩), .int .i64 0, .int .i64 0]) ∧ StB w q 4 z s w') ∨ ∃ (p k : Nat) (er : Int), VBad s p k er ∧ e = .returned (.tuple #[.pointer none, .int .i64 k, .int .i64 er])))) ∧ Below w.heap.size w w'

set_option maxRecDepth 20000 in
set_option maxHeartbeats 8000000 in
theorem vnew_any (x : Wf.Sv) (s : Wf.Sp) (w : World) (h : Wf.SpAt w x s) :
    Calls Tryz.prog 8 #[.agg x.cs] w (NwV s w) := by
  have hlo := Wf.low_alloc w (.cells x.cs 32)
  have HI := hide (Wf.SpI.new h 32)
  have HC := hide (Wf.right_any x s _ HI.out.sp)
  have HB := hide hlo
  clear h hlo
  obtain ⟨y0, y1, y2, y3, y4, y5⟩ := HI.out.box
  obtain ⟨r, a1, n1, c1, a2, n2, c2, a3, n3, c3, a4, n4, c4, a5, n5, c5⟩ := x
  simp only at y0 y1 y2 y3 y4 y5
  cases hr : Wf.rightB s with
  | false =>
    have HR := hide hr
    rw [hr] at HC
    clear hr
    go_enter Tryz.func8, Tryz.ntmps8
    go_wp2_with fail
    refine (unhide HC).mono ?_
    rintro e w2 ⟨rfl, hb2⟩
    have HB2 := hide (HI.out.next hb2).bel
    clear hb2 HI HC HB y0 y1 y2 y3 y4 y5
    go_wp2
    (try simp only [Exit.inBlock, Exit.then])
    refine bodyPost_ret (v := .tuple #[.pointer none, .int .i64 0, .int .i64 1]) (by simp [results, Tryz.results8, go_sem]) rfl ?_
    exact ⟨Or.inl ⟨HR.out, rfl⟩, HB2.out⟩
  | true =>
    have HRT := hide ((Wf.rightB_iff s).1 hr)
    rw [hr] at HC
    clear hr
    go_enter Tryz.func8, Tryz.ntmps8
    go_wp2_with fail
    refine (unhide HC).mono ?_
    rintro e w2 ⟨rfl, hb2⟩
    replace HI := hide (HI.out.next hb2)
    clear hb2 HC HB y0 y1 y2 y3 y4 y5
    obtain ⟨y0, y1, y2, y3, y4, y5⟩ := HI.out.box
    simp only at y0 y1 y2 y3 y4 y5
    have HBU := hide (build_any _ s _ HI.out.sp HRT.out (at_le HI.out.sp HRT.out))
    go_wp2_with fail
    refine (unhide HBU).mono ?_
    rintro e w3 ⟨hP, hb3⟩
    rcases hP with ⟨q, z, hv, rfl, hz⟩ | ⟨p, k, er, hbad, rfl⟩
    · have hla := Wf.low_alloc w3 (.cells #[.int .i64 0, .int .i64 0, .int .i64 0] 71)
      have HZ := hide (((hz.base HI.out.bel).low hla).low below_drwV)
      have hfl := heap_alloc_new w3 (.cells #[.int .i64 0, .int .i64 0, .int .i64 0] 71)
      have x1 : (w3.alloc (.cells #[.int .i64 0, .int .i64 0, .int .i64 0] 71)).cell? ⟨w3.heap.size, 1, none⟩ = some (.int .i64 0) := Lib.cell_of_heap hfl 1
      have x2 : (w3.alloc (.cells #[.int .i64 0, .int .i64 0, .int .i64 0] 71)).cell? ⟨w3.heap.size, 2, none⟩ = some (.int .i64 0) := Lib.cell_of_heap hfl 2
      have HV := hide hv
      clear hv hz hla hfl hb3 HBU HI y0 y1 y2 y3 y4 y5
      go_wp2
      generalize w3.heap.size = bf at *
      generalize w3.alloc (.cells #[.int .i64 0, .int .i64 0, .int .i64 0] 71) = w4 at *
      go_region
      all_goals
        go_wp2
        (try simp only [Exit.inBlock, Exit.then])
        refine bodyPost_ret (v := .tuple #[.pointer (some ⟨q, 0, none⟩), .int .i64 0, .int .i64 0]) (by simp [results, Tryz.results8, go_sem]) rfl ?_
        exact ⟨Or.inr ⟨HRT.out, Or.inl ⟨q, z, HV.out, rfl, HZ.out⟩⟩, HZ.out.bel⟩
    · have hla := Wf.low_alloc w3 (.cells #[.int .i64 p, .int .i64 k, .int .i64 er] 71)
      have HB5 := hide ((HI.out.next hb3).next hla).bel
      have HB6 : Hid (Below w.heap.size w (w3.alloc (.cells #[.int .i64 p, .int .i64 k, .int .i64 er] 71)).drew) := hide (HB5.out.trans ⟨rfl, rfl, rfl, Nat.le_refl _, fun _ _ => rfl⟩)
      have hfl := heap_alloc_new w3 (.cells #[.int .i64 p, .int .i64 k, .int .i64 er] 71)
      have x1 : (w3.alloc (.cells #[.int .i64 p, .int .i64 k, .int .i64 er] 71)).cell? ⟨w3.heap.size, 1, none⟩ = some (.int .i64 k) := Lib.cell_of_heap hfl 1
      have x2 : (w3.alloc (.cells #[.int .i64 p, .int .i64 k, .int .i64 er] 71)).cell? ⟨w3.heap.size, 2, none⟩ = some (.int .i64 er) := Lib.cell_of_heap hfl 2
      have HBD := hide hbad
      clear hbad hla hfl hb3 HBU HI HB5 y0 y1 y2 y3 y4 y5
      go_wp2
      generalize w3.heap.size = bf at *
      generalize w3.alloc (.cells #[.int .i64 p, .int .i64 k, .int .i64 er] 71) = w4 at *
      go_region
      all_goals
        go_wp2
        (try simp only [Exit.inBlock, Exit.then])
        refine bodyPost_ret (v := .tuple #[.pointer none, .int .i64 k, .int .i64 er]) (by simp [results, Tryz.results8, go_sem]) rfl ?_
        exact ⟨Or.inr ⟨HRT.out, Or.inr ⟨p, k, er, HBD.out, rfl⟩⟩, HB6.out⟩

end Go.Proofs.YteonoccefpkcgaaGreatDoor

namespace Go.Proofs.YteonoccefpkcgaaGreatDoor
open Go.RowKit Go.Maps
set_option linter.unusedVariables false
set_option linter.unusedSimpArgs false

theorem Tok.pos {tx : List ByteArray} {mg : List (Int × Int)} (h : Tok tx mg) : ∀ i, i < tx.length → 0 < (gs tx i).size := by
  intro i
  induction i using Nat.strongRecOn with
  | ind i ih =>
    intro hi
    by_cases hb : i < 256
    · rw [h.low i hb]
      simp [one, ByteArray.size]
    · obtain ⟨j, rfl⟩ : ∃ j, i = 256 + j := ⟨i - 256, by omega⟩
      have hj : j < mg.length := by have := h.len; omega
      have hp := h.par j hj
      rw [h.made j hj]
      have h1 := ih (gm mg j).1.toNat (by omega) (by omega)
      simp
      omega
theorem itV_len {tx : List ByteArray} {mg : List (Int × Int)} (h : Tok tx mg) (L : List (Int × ByteArray)) (id : Int) (l : List Int) (he : itV L tx id = some l) : 0 < l.length ∧ l.length ≤ 64 := by
  unfold itV at he
  split at he
  · obtain rfl := Option.some.inj he
    simp
  · split at he
    · obtain rfl := Option.some.inj he
      rw [Mk.bys_len]
      exact ⟨h.pos _ (by omega), h.sz _ (by omega)⟩
    · cases he
/-- All items. -/
def catV (L : List (Int × ByteArray)) (tx : List ByteArray) (I : List Int) : List Int := I.flatMap (fun id => (itV L tx id).getD [])
theorem catV_take {L : List (Int × ByteArray)} {tx : List ByteArray} {I : List Int} {k : Nat} (hk : k < I.length) : catV L tx (I.take (k + 1)) = catV L tx (I.take k) ++ (itV L tx (Mk.gI I k)).getD [] := by
  unfold catV
  rw [← List.take_append_getElem hk, List.flatMap_append]
  simp [Mk.gI, hk]
/-- Numbers are put behind others. -/
theorem app_nums (w : World) (B1 B2 : Nat) (a1 a2 : Option Addr) (n1 n2 c1 c2 : Nat) (l1 l2 : List Int) (h1 : w.ownsRow B1 3 1 (.slice a1 n1 c1) n1 (Mk.iv l1)) (h2 : w.ownsRow B2 3 1 (.slice a2 n2 c2) n2 (Mk.iv l2)) (hn1 : n1 ≤ 1000000) (hn2 : n2 ≤ 1000000) (h0 : 0 < n2) (hb : B1 ≤ w.heap.size) :
    ∃ g cap w1, (Builtin.append_ #[26, 26] 26 #[.slice a1 n1 c1, .slice a2 n2 c2]).run Tryz.prog w = .ok (.slice (some ⟨g, 0, none⟩) (n1 + n2) cap) w1 ∧ w1.ownsRow B1 3 1 (.slice (some ⟨g, 0, none⟩) (n1 + n2) cap) (n1 + n2) (Mk.iv (l1 ++ l2)) ∧ Below B1 w w1 := by
  obtain ⟨i0, hi, hz0, hz1, hz2⟩ := info_parts info_int
  obtain ⟨g2, c2', hv, _, _⟩ := h2.form (by omega)
  simp only [Value.slice.injEq] at hv
  obtain ⟨rfl, _, rfl⟩ := hv
  obtain ⟨g, cap1, w1, hrun, hown, hgrow, _, _⟩ := run_append_lies (P := Tryz.prog) w 26 26 B1 3 i0 _ 1 8 Tryz.underlying26 hi hz0 hz1 hz2 rfl (by omega) (.slice a1 n1 c1) n1 (Mk.iv l1) h1 ⟨g2, 0, none⟩ n2 c2 (Mk.iv l2) h2.1 (fun j u hu => h2.cells (g := g2) rfl j u hu) (fun u hu => by simp [Mk.iv] at hu; obtain ⟨x, _, rfl⟩ := hu; rfl) h0 (by unfold maxLen; omega) (by omega) hb w.heap.size rfl
  refine ⟨g, cap1, w1, hrun, by rw [Mk.iv_append]; exact hown, ?_⟩
  exact ⟨hgrow.os, hgrow.tape, hgrow.output, hgrow.size, fun k hk => hgrow.block k (by omega) (fun e => by have := (h1.lt k e.symm).1; omega)⟩

/-- A vocabulary that was used u times. -/
structure Vu (B q : Nat) (z : VV) (s : Wf.Sp) (u : Int) (W : World) : Prop where
  box : W.heap[q]? = some (.cells (voc z.y (some ⟨z.p, 0, none⟩) ((txT s).length : Int) (some ⟨z.pm, 0, none⟩) (some ⟨z.pb, 0, none⟩) 0 0 0 none 0 0 u) 98 (0, 0))
  rows : Wf.SpRw B z.y s W
  tb : TAt z.F z.p z.v0 z.v1 z.b2 z.b3 (txT s) (mgT s) (lgs (txT s)) W ∧ q ∉ z.F
  mr : Mk.StV W (.pointer (some ⟨z.pm, 0, none⟩)) z.ao z.cap s.specials
section
variable {w W W' : World} {B q : Nat} {z : VV} {s : Wf.Sp} {u : Int}
theorem StB.vu (h : StB w q 4 z s W) : Vu w.heap.size q z s 0 W := ⟨h.box, h.rows, ⟨(h.tb (by omega)).1, (h.tb (by omega)).2.1⟩, (h.mr (by omega)).1⟩
theorem Vu.lt (h : Vu B q z s u W) : q < W.heap.size := (Array.getElem?_eq_some_iff.1 h.box).1
theorem Vu.low (h : Vu B q z s u W) (hb : Below W.heap.size W W') : Vu B q z s u W' :=
  ⟨by rw [hb.block q h.lt]; exact h.box, h.rows.low hb, ⟨h.tb.1.keptB hb, h.tb.2⟩, h.mr.kept hb⟩
theorem Vu.use (h : Vu B q z s u W) : Vu B q z s (u + 1) (W.setCell ⟨q, 14, none⟩ (.int .i64 (u + 1))) := by
  have hF := frq_set W q 14 (.int .i64 (u + 1))
  have hV : IsV q W := IsV.of h.box
  exact ⟨by simpa using Wf.set_block h.box 14 (.int .i64 (u + 1)), rows_q h.rows hV hF, ⟨tab_q h.tb.1 h.tb.2 hF, h.tb.2⟩, set_q h.mr hV hF⟩
theorem Vu.cells (h : Vu B q z s u W) : W.cell? ⟨q, 6, none⟩ = some (.pointer (some ⟨z.p, 0, none⟩)) ∧ W.cell? ⟨q, 7, none⟩ = some (.int .i64 (txT s).length) ∧ W.cell? ⟨q, 8, none⟩ = some (.pointer (some ⟨z.pm, 0, none⟩)) ∧ W.cell? ⟨q, 14, none⟩ = some (.int .i64 u) :=
  ⟨Lib.cell_of_heap h.box 6, Lib.cell_of_heap h.box 7, Lib.cell_of_heap h.box 8, Lib.cell_of_heap h.box 14⟩
end

/-- What comes of Items. -/
def VitP (B0 : Nat) (L : List (Int × ByteArray)) (tx : List ByteArray) (I : List Int) (e : Ending) (w' : World) : Prop :=
  ((∀ j, j < I.length → hasD L tx.length (Mk.gI I j) = true) ∧ ∃ ao cap, e = .returned (.tuple #[.slice ao (catV L tx I).length cap, .int .i64 I.length, .int .i64 0]) ∧ w'.ownsRow B0 3 1 (.slice ao (catV L tx I).length cap) (catV L tx I).length (Mk.iv (catV L tx I))) ∨
  ∃ k, k < I.length ∧ (∀ j, j < k → hasD L tx.length (Mk.gI I j) = true) ∧ hasD L tx.length (Mk.gI I k) = false ∧ e = .returned (.tuple #[.slice none 0 0, .int .i64 (k : Int), .int .i64 4])
/-- Where the loop stands. -/
structure ViM (w1 : World) (s : Wf.Sp) (I : List Int) (k : Nat) (ao : Option Addr) (N cap : Nat) (A : List Int) (W : World) : Prop where
  bel : Below w1.heap.size w1 W
  row : W.ownsRow w1.heap.size 3 1 (.slice ao N cap) N (Mk.iv A)
  acc : A = catV s.specials (txT s) (I.take k)
  len : N = A.length
  few : N ≤ 64 * k
  has : ∀ j, j < k → hasD s.specials (txT s).length (Mk.gI I j) = true

set_option maxRecDepth 20000 in
set_option maxHeartbeats 8000000 in
theorem vitems_any {B q : Nat} {z : VV} {s : Wf.Sp} {u : Int} {ai : Option Addr} {ni ci : Nat} {I : List Int} {w : World} (h : Vu B q z s u w) (hu : 0 ≤ u ∧ u < 1000) (hl : s.specials.length ≤ 1000) (hI : Mk.RdI w ai ni I) (hoff : ∀ b off, ai = some ⟨b, off, none⟩ → 0 < ni → b ≠ q) (hni : ni ≤ 1000) (hw : ∀ i, i < ni → Mk.wfI (Mk.gI I i)) :
    Calls Tryz.prog 10 #[.pointer (some ⟨q, 0, none⟩), .slice ai ni ci] w fun e w' => VitP w.heap.size s.specials (txT s) I e w' ∧ Vu B q z s (u + 1) w' ∧ FrL [q] w w' := by
  have hF := frq_set w q 14 (.int .i64 (u + 1))
  have HK := hide (uadd_any h.cells.2.2.2 (Lib.frozen_of_heap h.box 14) ⟨hu.1, by omega⟩)
  have HRI : Hid (Mk.RdI (w.setCell ⟨q, 14, none⟩ (.int .i64 (u + 1))) ai ni I) := hide (by
    refine ⟨hI.1, ?_⟩
    rcases hI.2 with h0 | ⟨b, off, e, hb, hc⟩
    · exact Or.inl h0
    · exact Or.inr ⟨b, off, e, Nat.lt_of_lt_of_le hb hF.size, fun i hi => frq hF (hc i hi) (hoff b off e (by omega))⟩)
  have HM : Hid (ViM (w.setCell ⟨q, 14, none⟩ (.int .i64 (u + 1))) s I 0 none 0 0 [] (w.setCell ⟨q, 14, none⟩ (.int .i64 (u + 1)))) := hide ⟨Below.refl _ _, World.ownsRow_nil _ _ _ _, rfl, rfl, by omega, fun j hj => by omega⟩
  have HV := hide h.use
  have HF := hide hF
  have HSZ : Hid ((w.setCell ⟨q, 14, none⟩ (.int .i64 (u + 1))).heap.size = w.heap.size) := hide (by simp)
  have HIL := hide hI.1
  have HW := hide hw
  have HL := hide hl
  clear h hu hl hI hoff hw hF
  go_enter Tryz.func10, Tryz.ntmps10
  go_wp2_with fail
  refine (unhide HK).mono ?_
  rintro e w1 ⟨rfl, rfl⟩
  clear HK
  generalize w.setCell ⟨q, 14, none⟩ (.int .i64 (u + 1)) = w1 at *
  generalize hu1 : u + 1 = u1 at *
  have HU1 := hide hu1
  clear hu1
  go_wp2
  go_loopw [7, 20] (fun a i wr => ∃ (k : Nat) (ao : Option Addr) (N cap : Nat) (A : List Int), a = .slice ao N cap ∧ i = .int .i64 k ∧ k ≤ ni ∧ Hid (ViM w1 s I k ao N cap A wr)) (fun _ i _ => ni - (intOf i).toNat)
  case atStart => exact ⟨0, none, 0, 0, [], rfl, rfl, Nat.zero_le _, HM⟩
  case round =>
    obtain ⟨k, ao, N, cap, A, rfl, rfl, hk, HM2⟩ := hrel
    clear HM
    by_cases hlt : k < ni
    · have hk0 : (0 : Int) ≤ (k : Int) := by omega
      have hk1 : (k : Int) < (ni : Int) := by omega
      have hv := HV.out.low HM2.out.bel
      obtain ⟨d6, d7, d8, _⟩ := hv.cells
      have HT := hide (items_c d6 d7 d8 hv.tb.1 (fun i hi => Nat.le_trans ((tokT s).sz i hi) (by omega)) hv.mr HL.out (Mk.gI I k) (HW.out k hlt))
      have HH := hide (itV_has s.specials (txT s) (Mk.gI I k))
      have HLE := hide (itV_len (tokT s) s.specials (Mk.gI I k))
      have HCT := hide (catV_take (L := s.specials) (tx := txT s) (I := I) (k := k) (by rw [HIL.out]; exact hlt))
      rcases (HRI.out.kept HM2.out.bel).2 with h0 | ⟨b, off, rfl, hbl, hc⟩
      · omega
      have c1 := hc k hlt
      clear hc hbl d6 d7 d8 hv
      generalize hgx : Mk.gI I k = x at *
      have HX := hide hgx
      clear hgx
      generalize itV s.specials (txT s) x = o at *
      go_wp2_with fail
      refine (unhide HT).mono ?_
      rintro e w2 ⟨hP, hb⟩
      cases o with
      | none =>
        obtain rfl := hP
        have HB := hide (HM2.out.bel.trans (hb.mono HM2.out.bel.size))
        clear hb HT c1
        go_wp2
        (try simp only [Exit.inBlock, Exit.then])
        refine bodyPost_ret (v := .tuple #[.slice none 0 0, .int .i64 (k : Int), .int .i64 4]) (by simp [results, Tryz.results10, go_sem]) rfl ?_
        exact ⟨Or.inr ⟨k, by rw [HIL.out]; exact hlt, HM2.out.has, by rw [HX.out, ← HH.out]; rfl, rfl⟩, by rw [HU1.out]; exact HV.out.low HB.out, HF.out.trans' (FrL.ofBelow HB.out)⟩
      | some l =>
        obtain ⟨a2, cp2, rfl, hrow⟩ := hP
        have hle := HLE.out l rfl
        have hfew := HM2.out.few
        have hs2 : w1.heap.size ≤ w2.heap.size := Nat.le_trans HM2.out.bel.size hb.size
        obtain ⟨g, cap3, w3, hrun, hown, hb3⟩ := app_nums w2 w1.heap.size wr.heap.size ao a2 N l.length cap cp2 A l (row_keptB HM2.out.row hb) hrow (by omega) (by omega) hle.1 hs2
        have HRUN := hide hrun
        have HN : Hid (ViM w1 s I (k + 1) (some ⟨g, 0, none⟩) (N + l.length) cap3 (A ++ l) w3) := hide ⟨(HM2.out.bel.trans (hb.mono HM2.out.bel.size)).trans hb3, hown, by rw [HCT.out, ← HM2.out.acc]; rfl, by rw [List.length_append, ← HM2.out.len], by omega, fun j hj => by
          by_cases e : j = k
          · subst e; rw [HX.out, ← HH.out]; rfl
          · exact HM2.out.has j (by omega)⟩
        clear hrun hown hb3 hb hrow hle hfew hs2 HT HH HLE HCT c1 HM2
        generalize l.length = m at *
        go_wp2_with (at_builtin; refine Lib.wpList_append_run _ rfl _ _ _ _ rfl _ _ rfl rfl _ _ HRUN.out ?_)
        clear HRUN
        go_roundw
        case rel => exact ⟨k + 1, _, _, _, _, rfl, by go_num, by omega, HN⟩
        case measure => simp [intOf]; omega
    · obtain rfl : ni = k := by omega
      go_wp2
      (try simp only [Exit.inBlock, Exit.then])
      refine bodyPost_ret (v := .tuple #[.slice ao N cap, .int .i64 (ni : Int), .int .i64 0]) (by simp [results, Tryz.results10, go_sem]) rfl ?_
      have hA : A = catV s.specials (txT s) I := by rw [HM2.out.acc, ← HIL.out, List.take_length]
      refine ⟨Or.inl ⟨fun j hj => HM2.out.has j (by rw [← HIL.out]; exact hj), ao, cap, ?_, ?_⟩, by rw [HU1.out]; exact HV.out.low HM2.out.bel, HF.out.trans' (FrL.ofBelow HM2.out.bel)⟩
      · rw [← hA, ← HM2.out.len, HIL.out]
      · rw [← hA, ← HM2.out.len, ← HSZ.out]; exact HM2.out.row
end Go.Proofs.YteonoccefpkcgaaGreatDoor

namespace Go.Proofs.YteonoccefpkcgaaGreatDoor
open Go.RowKit Go.Maps
set_option linter.unusedVariables false
set_option linter.unusedSimpArgs false
attribute [local go_sem ↓] Go.wp_at_zero Go.wp_at_succ

/-- All worlds that are got from one by what is new. -/
abbrev Wb (wr : World) := Wc (fun W => Below wr.heap.size wr W)
theorem below_step {wr W W' : World} (h : Below wr.heap.size wr W) (hb : Below W.heap.size W W') : Below wr.heap.size wr W' := h.trans (hb.mono h.size)
theorem ownsRow_down {W : World} {B B' k : Nat} {E : TypeId} {v : Value} {n : Nat} {xs : List Value} (h : W.ownsRow B E k v n xs) (hb : B' ≤ B) : W.ownsRow B' E k v n xs :=
  ⟨h.1, h.2.imp id (fun ⟨g, cap, cur, a, b, c⟩ => ⟨g, cap, cur, a, Nat.le_trans hb b, c⟩)⟩
/-- Where the inner loop stands. -/
structure RiM (w1 : World) (A : List Int) (t : ByteArray) (j : Nat) (ao : Option Addr) (N cap : Nat) (W : World) : Prop where
  bel : Below w1.heap.size w1 W
  row : W.ownsRow w1.heap.size 3 1 (.slice ao N cap) N (Mk.iv (A ++ (Mk.bys t).take j))
  len : N = A.length + j

set_option maxRecDepth 20000 in
set_option maxHeartbeats 16000000 in
theorem ritems_any {vb vm : Value} (v4 v5 : Value) {s : Wf.Sp} {ao : Option Addr} {n cap : Nat} {ai : Option Addr} {ni ci : Nat} {I : List Int} {w : World} (hT : RT vb vm (txT s) (mgT s) w) (h : Mk.RdS w ao n s.specials) (hn : n ≤ 1000000) (hI : Mk.RdI w ai ni I) (hni : ni ≤ 1000) (hs : ∀ j, j < ni → hasD s.specials (txT s).length (Mk.gI I j) = true) :
    Calls Tryz.prog 18 #[.agg #[vb, vm, v4, v5, .slice ao n cap], .slice ai ni ci] w fun e w' => (∃ a2 c2, e = .returned (.slice a2 (catV s.specials (txT s) I).length c2) ∧ w'.ownsRow w.heap.size 3 1 (.slice a2 (catV s.specials (txT s) I).length c2) (catV s.specials (txT s) I).length (Mk.iv (catV s.specials (txT s) I))) ∧ Below w.heap.size w w' := by
  have HM := hide (DvM.new hT h hI (v4 := v4) (v5 := v5) (cap := cap))
  have HIL := hide hI.1
  have HSS := hide hs
  obtain ⟨aB, cB, rfl⟩ := row_form hT.rb
  obtain ⟨aM, cM, rfl⟩ := row_form hT.rm
  clear hT h hI hs
  have HSZ : Hid (w.heap.size ≤ (w.alloc (.cells #[.slice aB (txT s).length cB, .slice aM (mgT s).length cM, v4, v5, .slice ao n cap] 43)).heap.size) := hide (by simp)
  go_enter Tryz.func18, Tryz.ntmps18
  go_wp2
  generalize w.alloc (.cells #[.slice aB (txT s).length cB, .slice aM (mgT s).length cM, v4, v5, .slice ao n cap] 43) = w1 at *
  generalize hq : w.heap.size = q at *
  have HQ := hide hq
  clear hq
  have HV : Hid (ViM w1 s I 0 none 0 0 [] w1) := hide ⟨Below.refl _ _, World.ownsRow_nil _ _ _ _, rfl, rfl, by omega, fun j hj => by omega⟩
  go_loopw [5, 6] (fun a i wr => ∃ (k : Nat) (ao : Option Addr) (N cap : Nat) (A : List Int), a = .slice ao N cap ∧ i = .int .i64 k ∧ k ≤ ni ∧ Hid (ViM w1 s I k ao N cap A wr)) (fun _ i _ => ni - (intOf i).toNat)
  case atStart => exact ⟨0, none, 0, 0, [], rfl, rfl, Nat.zero_le _, HV⟩
  case round =>
    obtain ⟨k, a5, N, cap5, A, rfl, rfl, hk, HV2⟩ := hrel
    clear HV
    by_cases hlt : k < ni
    · have hk0 : (0 : Int) ≤ (k : Int) := by omega
      have hk1 : (k : Int) < (ni : Int) := by omega
      have HD := hide (HM.out.next HV2.out.bel)
      rcases HD.out.ri.2 with h0 | ⟨b, off, rfl, hbl, hc⟩
      · omega
      have c1 := hc k hlt
      have HBL := hide hbl
      have HH := hide (HSS.out k hlt)
      have HCT := hide (catV_take (L := s.specials) (tx := txT s) (I := I) (k := k) (by rw [HIL.out]; exact hlt))
      have HMK : Hid (∀ d : Wb wr, Calls Tryz.prog 37 #[.agg #[.slice aB (txT s).length cB, .slice aM (mgT s).length cM, v4, v5, .slice ao n cap], .int .i64 (Mk.gI I k)] d.W fun e w' => e = .returned (.int .i64 (mkF s.specials (Mk.gI I k))) ∧ ∃ p' : Wb wr, w' = p'.W) := hide (fun d => Calls.toV (fun _ _ h hb => below_step h hb) d (rmark10_any _ _ v4 v5 (HD.out.rd.kept d.h) hn _))
      have HXX : Hid (Mk.gI I k = Mk.gI I k) := hide rfl
      generalize hgx : Mk.gI I k = x at *
      have HX := hide hgx
      clear hgx HXX hc hbl
      have hql := (Array.getElem?_eq_some_iff.1 HD.out.box).1
      have y0 : ∀ d : Wb wr, d.W.cell? ⟨q, 0, none⟩ = some (.slice aB (txT s).length cB) := fun d => (d.h.cell (p := ⟨q, 0, none⟩) hql).trans (Lib.cell_of_heap HD.out.box 0)
      have y1 : ∀ d : Wb wr, d.W.cell? ⟨q, 1, none⟩ = some (.slice aM (mgT s).length cM) := fun d => (d.h.cell (p := ⟨q, 1, none⟩) hql).trans (Lib.cell_of_heap HD.out.box 1)
      have y2 : ∀ d : Wb wr, d.W.cell? ⟨q, 2, none⟩ = some v4 := fun d => (d.h.cell (p := ⟨q, 2, none⟩) hql).trans (Lib.cell_of_heap HD.out.box 2)
      have y3 : ∀ d : Wb wr, d.W.cell? ⟨q, 3, none⟩ = some v5 := fun d => (d.h.cell (p := ⟨q, 3, none⟩) hql).trans (Lib.cell_of_heap HD.out.box 3)
      have y4 : ∀ d : Wb wr, d.W.cell? ⟨q, 4, none⟩ = some (.slice ao n cap) := fun d => (d.h.cell (p := ⟨q, 4, none⟩) hql).trans (Lib.cell_of_heap HD.out.box 4)
      have y5 : ∀ d : Wb wr, d.W.cell? ⟨b, off + k, none⟩ = some (.int .i64 x) := fun d => (d.h.cell (p := ⟨b, off + k, none⟩) HBL.out).trans c1
      have ne : Nonempty (Wb wr) := ⟨⟨_, Below.refl _ _⟩⟩
      have HC1 := hide c1
      clear hql c1
      generalize hmk : mkF s.specials x = m at *
      have HMF := hide hmk
      clear hmk
      go_wp2
      refine region_v (α := Wb wr) Wc.W (by kernel_rfl) (by kernel_rfl) ⟨_, below_drw⟩ rfl ?_
      repeat (go_big_quiet_step ((go_at_call 37; exact HMK.out _)))
      refine wpQuiet_nil ?_
      intro W hw'
      have hW : Below wr.heap.size wr W := by obtain ⟨p, rfl⟩ := hw'; exact p.h
      have HD2 := hide (HD.out.next hW)
      have HV3 : Hid (ViM w1 s I k a5 N cap5 A W) := hide ⟨HV2.out.bel.trans (hW.mono HV2.out.bel.size), row_keptB HV2.out.row hW, HV2.out.acc, HV2.out.len, HV2.out.few, HV2.out.has⟩
      have d1 := (hW.cell (p := ⟨b, off + k, none⟩) HBL.out).trans HC1.out
      have d0 := Lib.cell_of_heap HD2.out.box 0
      have hN := HV3.out.few
      clear hW hw' y0 y1 y2 y3 y4 y5 ne HMK HD HV2 HBL HC1
      by_cases hm : m < 0
      · have hit : itV s.specials (txT s) x = some [m] := by unfold itV; rw [HMF.out, if_pos hm]
        obtain ⟨g, cap3, w3, hrun, hown, hb3⟩ := Mk.app_int W w1.heap.size a5 N cap5 A m HV3.out.row (by omega) HV3.out.bel.size
        have HRUN := hide hrun
        have HN : Hid (ViM w1 s I (k + 1) (some ⟨g, 0, none⟩) (N + 1) cap3 (A ++ [m]) w3) := hide ⟨HV3.out.bel.trans hb3, hown, by rw [HCT.out, hit, ← HV3.out.acc]; rfl, by rw [List.length_append, ← HV3.out.len]; rfl, by omega, fun j hj => by
          by_cases e : j = k
          · subst e; rw [HX.out]; exact HH.out
          · exact HV3.out.has j (by omega)⟩
        clear hrun hown hb3 hit HH HCT HMF HX HD2 HV3 d0 d1
        go_wp2_with (at_builtin; refine Lib.wpList_append_run _ rfl _ _ _ _ rfl _ _ rfl rfl _ _ HRUN.out ?_)
        clear HRUN
        first
          | exact ⟨⟨k + 1, _, _, _, _, rfl, by go_num, by omega, HN⟩, by simp [intOf]; omega⟩
          | (go_roundw
             case rel => exact ⟨k + 1, _, _, _, _, rfl, by go_num, by omega, HN⟩
             case measure => simp [intOf]; omega)
      · have hmd : decide (m < 0) = false := decide_eq_false hm
        have hx : 0 ≤ x ∧ x < ((txT s).length : Int) := by
          have h := HH.out
          unfold hasD at h
          rw [HMF.out, hmd, Bool.or_false] at h
          exact of_decide_eq_true h
        have hit : itV s.specials (txT s) x = some (Mk.bys (gs (txT s) x.toNat)) := by unfold itV; rw [HMF.out, if_neg hm, if_pos hx]
        obtain ⟨i, rfl⟩ : ∃ i : Nat, x = (i : Int) := ⟨x.toNat, by omega⟩
        have hil : i < (txT s).length := by omega
        simp only [Int.toNat_natCast] at hit
        obtain ⟨g, cg, hvg, hgl, hcg⟩ := HD2.out.rt.text hil
        simp only [Value.slice.injEq] at hvg
        obtain ⟨rfl, -, rfl⟩ := hvg
        have hts := (tokT s).sz i hil
        have hi0 : (0 : Int) ≤ (i : Int) := by omega
        have hi1 : (i : Int) < ((txT s).length : Int) := by omega
        have HC2 := hide HCT.out
        rw [hit] at HC2
        have HHX := hide HH.out
        clear hit HCT hx HMF HH
        generalize gs (txT s) i = t at *
        have HR0 : Hid (RiM w1 A t 0 a5 N cap5 W.drew) := hide ⟨HV3.out.bel.trans (below_drw.mono HV3.out.bel.size), by simpa using row_keptB HV3.out.row below_drw, HV3.out.len⟩
        have HAC := hide HV3.out.acc
        have HHS := hide HV3.out.has
        have HLN := hide HV3.out.len
        have HYL := hide (Mk.bys_len t)
        go_wp2
        go_region
        clear HV3 HD2 d0 d1 hcg hgl hi0 hi1 hm
        go_wp2
        generalize W.drew = W1 at *
        go_loopw [5, 9] (fun a i wr => ∃ (j : Nat) (ao : Option Addr) (N cap : Nat), a = .slice ao N cap ∧ i = .int .i64 j ∧ j ≤ t.size ∧ Hid (RiM w1 A t j ao N cap wr)) (fun _ i _ => t.size - (intOf i).toNat)
        case atStart => exact ⟨0, a5, N, cap5, rfl, rfl, Nat.zero_le _, HR0⟩
        case round =>
          obtain ⟨j, a6, N6, cap6, rfl, rfl, hj, HR⟩ := hrel
          clear HR0
          by_cases hjt : j < t.size
          · have hj0 : (0 : Int) ≤ (j : Int) := by omega
            have hj1 : (j : Int) < (t.size : Int) := by omega
            have hN6 := HR.out.len
            have hNA := HLN.out
            obtain ⟨g1, cap2, w3, hrun, hown, hb3⟩ := Mk.app_int _ w1.heap.size a6 N6 cap6 _ (t[j].toNat : Int) HR.out.row (by omega) HR.out.bel.size
            rw [List.append_assoc, ← Mk.bys_take t hjt] at hown
            have HRUN := hide hrun
            have HN : Hid (RiM w1 A t (j + 1) (some ⟨g1, 0, none⟩) (N6 + 1) cap2 w3) := hide ⟨HR.out.bel.trans hb3, hown, by omega⟩
            have hcv : wrap64 (t[j].toNat : Int) = (t[j].toNat : Int) := by have := t[j].toNat_lt; unfold wrap64; omega
            clear hrun hown hb3 HR hN6 hNA
            go_wp2_with (at_builtin; refine Lib.wpList_append_run _ rfl _ _ _ _ rfl _ _ rfl rfl _ _ HRUN.out ?_)
            first
              | exact ⟨⟨j + 1, _, _, _, rfl, by go_num, by omega, HN⟩, by simp [intOf]; omega⟩
              | (go_roundw
                 case rel => exact ⟨j + 1, _, _, _, rfl, by go_num, by omega, HN⟩
                 case measure => simp [intOf]; omega)
          · obtain rfl : t.size = j := by omega
            have HN : Hid (ViM w1 s I (k + 1) a6 N6 cap6 (A ++ Mk.bys t) _) := hide ⟨HR.out.bel, by have h := HR.out.row; rw [List.take_of_length_le (by rw [HYL.out]; exact Nat.le_refl _)] at h; exact h, by rw [HC2.out, ← HAC.out]; rfl, by rw [List.length_append, HYL.out]; exact HR.out.len, by have h1 := HR.out.len; have h2 := HLN.out; omega, fun j hj => by
              by_cases e : j = k
              · subst e; rw [HX.out]; exact HHX.out
              · exact HHS.out j (by omega)⟩
            go_wp2
            first
              | exact ⟨⟨k + 1, _, _, _, _, rfl, by go_num, by omega, HN⟩, by simp [intOf]; omega⟩
              | (go_roundw
                 case rel => exact ⟨k + 1, _, _, _, _, rfl, by go_num, by omega, HN⟩
                 case measure => simp [intOf]; omega)
    · obtain rfl : ni = k := by omega
      have hA : A = catV s.specials (txT s) I := by rw [HV2.out.acc, ← HIL.out, List.take_length]
      have HA := hide hA
      clear hA
      go_wp2
      go_ret
      refine ⟨⟨a5, cap5, ?_, ?_⟩, ?_⟩
      · rw [← HA.out, ← HV2.out.len]; rfl
      · rw [← HA.out, ← HV2.out.len]; exact ownsRow_down HV2.out.row (by rw [HQ.out]; exact HSZ.out)
      · exact HM.out.bel.trans (HV2.out.bel.mono (by rw [HQ.out]; exact HSZ.out))
end Go.Proofs.YteonoccefpkcgaaGreatDoor
