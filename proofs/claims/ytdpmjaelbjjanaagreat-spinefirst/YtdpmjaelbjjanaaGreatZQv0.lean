/- Which tokens are alone: findAlone. Whether a token is alone. The document's answer: is a token made of its bytes? -/
import Derived.Test.YtdpmjaelbjjanaaGreatZQa33
import Derived.Test.YtdpmjaelbjjanaaGreatZQa34
import Derived.Test.YtdpmjaelbjjanaaGreatZQa20
import Derived.Test.YtdpmjaelbjjanaaGreatZQa38
import Derived.Test.YtdpmjaelbjjanaaGreatZQa47
import Derived.Test.YtdpmjaelbjjanaaGreatZQa26
namespace Go.Proofs.YtdpmjaelbjjanaaGreat
open Go.RowKit Go.Maps
set_option linter.unusedVariables false
set_option linter.unusedSimpArgs false

/-- Is a token made of its bytes, in one piece? -/
def wholeF (s : Wf.Sp) (i : Nat) : Bool := decide ((Wf.Bq.pcs (Wf.Bq.cutP s.classes s.joins) (gs (txT s) i).data.toList).length < 2)
def madeF (s : Wf.Sp) (i : Nat) : Bool := decide (made (mgT s) (txT s).length (gs (txT s) i) = [(i : Int)])
def alF (s : Wf.Sp) (i : Nat) : Bool := wholeF s i && madeF s i
/-- The first k are found. -/
def alC (s : Wf.Sp) (k : Nat) : Array Value := ((List.range (txT s).length).map (fun i => Value.bool (if i < k then alF s i else false))).toArray
theorem alC_at (s : Wf.Sp) (k : Nat) {i : Nat} (hi : i < (txT s).length) : (alC s k)[i]? = some (.bool (if i < k then alF s i else false)) := by
  simp [alC, hi]
theorem alC_zero (s : Wf.Sp) : alC s 0 = madeCells #[.bool false] (txT s).length := by
  apply Array.ext'
  simp [alC, madeCells]
  intro a _
  rw [Nat.mod_one]
  rfl
theorem alC_next (s : Wf.Sp) {k : Nat} (hk : k < (txT s).length) : (alC s k).setIfInBounds k (.bool (alF s k)) = alC s (k + 1) := by
  apply Array.ext
  · simp [alC]
  intro i h1 h2
  simp [alC] at h1
  by_cases e : i = k
  · subst e
    simp [alC, Array.getElem_setIfInBounds]
  · have : i < k + 1 ↔ i < k := by omega
    simp [alC, Array.getElem_setIfInBounds, this, show ¬ k = i by omega]
theorem bat_tb {p : Nat} {s : Wf.Sp} {W : World} (h : Wf.Bq.BAt p (fun b => Wf.Bq.cls s.classes b) (fun a b => decide (((a : Int), (b : Int)) ∈ s.joins)) W) (hR : okB s) : Wf.Bq.Tb (.pointer (some ⟨p, 0, none⟩)) (Wf.Bq.cutP s.classes s.joins) W := by
  refine Or.inr ⟨p, _, _, rfl, h, fun b _ => Wf.Bq.cls_range' hR.1 b, fun a b _ _ => ?_⟩
  have h1 := Wf.Bq.cls_range' hR.1 (a : Int)
  have h2 := Wf.Bq.cls_range' hR.1 (b : Int)
  unfold Wf.Bq.cutP
  rw [Int.toNat_of_nonneg h1.1, Int.toNat_of_nonneg h2.1, Bool.eq_iff_iff]
  simp
/-- A vocabulary that was used u times, and of which was asked (d = 1), or not (d = 0), which tokens are alone. -/
structure Va (B q : Nat) (z : VV) (s : Wf.Sp) (u d : Int) (ax : Option Addr) (an : Nat) (m1 : Int) (W : World) : Prop where
  box : W.heap[q]? = some (.cells (voc z.y (some ⟨z.p, 0, none⟩) ((txT s).length : Int) (some ⟨z.pm, 0, none⟩) (some ⟨z.pb, 0, none⟩) d m1 0 ax an an u) 171 (0, 0))
  rows : Wf.SpRw B z.y s W
  tb : TAt z.F z.p z.v0 z.v1 z.b2 z.b3 (txT s) (mgT s) (lgs (txT s)) W ∧ q ∉ z.F
  mr : Mk.StV W (.pointer (some ⟨z.pm, 0, none⟩)) z.ao z.cap s.specials
  bd : Wf.Bq.BAt z.pb (fun b => Wf.Bq.cls s.classes b) (fun a b => decide (((a : Int), (b : Int)) ∈ s.joins)) W
  al : d = 0 ∨ (d = 1 ∧ an = (txT s).length ∧ ∃ g, ax = some ⟨g, 0, none⟩ ∧ g ≠ q ∧ W.heap[g]? = some (.cells (alC s an) 4 (0, 0)))
section
variable {w w0 W W' : World} {B q : Nat} {z : VV} {s : Wf.Sp} {u d m1 : Int} {ax : Option Addr} {an : Nat}
theorem StB.va (h : StB w q 4 z s W) : Va w.heap.size q z s 0 0 none 0 0 W := ⟨h.box, h.rows, ⟨(h.tb (by omega)).1, (h.tb (by omega)).2.1⟩, (h.mr (by omega)).1, h.bd (by omega), Or.inl rfl⟩
theorem Va.lt (h : Va B q z s u d ax an m1 W) : q < W.heap.size := (Array.getElem?_eq_some_iff.1 h.box).1
theorem Va.low (h : Va B q z s u d ax an m1 W) (hb : Below W.heap.size W W') : Va B q z s u d ax an m1 W' :=
  ⟨by rw [hb.block q h.lt]; exact h.box, h.rows.low hb, ⟨h.tb.1.keptB hb, h.tb.2⟩, h.mr.kept hb, h.bd.kept hb, by
    rcases h.al with e | ⟨e1, e2, g, e3, e4, e5⟩
    · exact Or.inl e
    · exact Or.inr ⟨e1, e2, g, e3, e4, by rw [hb.block g (Array.getElem?_eq_some_iff.1 e5).1]; exact e5⟩⟩
/-- Its own cells are turned, all else is as it was. -/
theorem Va.turn (h : Va B q z s u d ax an m1 W) (hF : FrL [q] W W') {u' d' m1' : Int} {ax' : Option Addr} {an' : Nat}
    (hb : W'.heap[q]? = some (.cells (voc z.y (some ⟨z.p, 0, none⟩) ((txT s).length : Int) (some ⟨z.pm, 0, none⟩) (some ⟨z.pb, 0, none⟩) d' m1' 0 ax' an' an' u') 171 (0, 0)))
    (hal : d' = 0 ∨ (d' = 1 ∧ an' = (txT s).length ∧ ∃ g, ax' = some ⟨g, 0, none⟩ ∧ g ≠ q ∧ W'.heap[g]? = some (.cells (alC s an') 4 (0, 0)))) : Va B q z s u' d' ax' an' m1' W' := by
  have hV : IsV q W := IsV.of h.box
  exact ⟨hb, rows_q h.rows hV hF, ⟨tab_q h.tb.1 h.tb.2 hF, h.tb.2⟩, set_q h.mr hV hF, bat_q h.bd hV hF, hal⟩
theorem Va.alq (h : Va B q z s u d ax an m1 W) (hF : FrL [q] W W') : d = 0 ∨ (d = 1 ∧ an = (txT s).length ∧ ∃ g, ax = some ⟨g, 0, none⟩ ∧ g ≠ q ∧ W'.heap[g]? = some (.cells (alC s an) 4 (0, 0))) := by
  rcases h.al with e | ⟨e1, e2, g, e3, e4, e5⟩
  · exact Or.inl e
  · exact Or.inr ⟨e1, e2, g, e3, e4, by rw [hF.block g (Array.getElem?_eq_some_iff.1 e5).1 (by simpa using e4)]; exact e5⟩
theorem Va.use (h : Va B q z s u d ax an m1 W) (u' : Int) : Va B q z s u' d ax an m1 (W.setCell ⟨q, 14, none⟩ (.int .i64 u')) := by
  have hF := frq_set W q 14 (.int .i64 u')
  exact h.turn hF (by simpa using Wf.set_block h.box 14 (.int .i64 u')) (h.alq hF)
theorem Va.lock (h : Va B q z s u d ax an m1 W) (m : Int) : Va B q z s u d ax an m (W.setCell ⟨q, 11, none⟩ (.int .i32 m)) := by
  have hF := frq_set W q 11 (.int .i32 m)
  exact h.turn hF (by simpa using Wf.set_block h.box 11 (.int .i32 m)) (h.alq hF)
theorem Va.cells (h : Va B q z s u d ax an m1 W) : W.cell? ⟨q, 6, none⟩ = some (.pointer (some ⟨z.p, 0, none⟩)) ∧ W.cell? ⟨q, 7, none⟩ = some (.int .i64 (txT s).length) ∧ W.cell? ⟨q, 8, none⟩ = some (.pointer (some ⟨z.pm, 0, none⟩)) ∧ W.cell? ⟨q, 9, none⟩ = some (.pointer (some ⟨z.pb, 0, none⟩)) ∧
    W.cell? ⟨q, 10, none⟩ = some (.int .u32 d) ∧ W.cell? ⟨q, 11, none⟩ = some (.int .i32 m1) ∧ W.cell? ⟨q, 13, none⟩ = some (.slice ax an an) ∧ W.cell? ⟨q, 14, none⟩ = some (.int .i64 u) :=
  ⟨Lib.cell_of_heap h.box 6, Lib.cell_of_heap h.box 7, Lib.cell_of_heap h.box 8, Lib.cell_of_heap h.box 9, Lib.cell_of_heap h.box 10, Lib.cell_of_heap h.box 11, Lib.cell_of_heap h.box 13, Lib.cell_of_heap h.box 14⟩
end

set_option maxRecDepth 20000 in
set_option maxHeartbeats 4000000 in
theorem vtable_any {B q : Nat} {z : VV} {s : Wf.Sp} {u d m1 : Int} {ax : Option Addr} {an : Nat} {w : World} (h : Va B q z s u d ax an m1 w) :
    Calls Tryz.prog 61 #[.pointer (some ⟨q, 0, none⟩)] w fun e w' => e = .returned (.pointer (some ⟨z.p, 0, none⟩)) ∧ Below w.heap.size w w' := by
  have HL := hide (fun (d : Wb w) => tlen_any (h.low d.h).tb.1)
  obtain ⟨d6, d7, _⟩ := h.cells
  have g6 : ∀ x : Wb w, x.W.cell? ⟨q, 6, none⟩ = some (.pointer (some ⟨z.p, 0, none⟩)) := fun x => (h.low x.h).cells.1
  have g7 : ∀ x : Wb w, x.W.cell? ⟨q, 7, none⟩ = some (.int .i64 (txT s).length) := fun x => (h.low x.h).cells.2.1
  have HV := hide h
  have ne : Nonempty (Wb w) := ⟨⟨_, Below.refl _ _⟩⟩
  have K1 : Hid (∀ x : Wb w, Calls Tryz.prog 85 #[.pointer (some ⟨z.p, 0, none⟩)] x.W fun e w' => e = .returned (.int .i64 (txT s).length) ∧ ∃ p : Wb w, w' = p.W) := hide (fun x => (HL.out x).mono fun e w' h => ⟨h.1, x, h.2⟩)
  clear h HL d6 d7
  generalize (txT s).length = T at *
  go_enter Tryz.func61, Tryz.ntmps61
  go_wp2
  refine region_v (α := Wb w) Wc.W (by kernel_rfl) (by kernel_rfl) ⟨_, below_drw⟩ rfl ?_
  repeat (go_big_quiet_step (first | (go_at_call 85; with_reducible exact K1.out _)))
  refine wpQuiet_nil ?_
  intro W1 hw'
  have hW : Below w.heap.size w W1 := by obtain ⟨p, rfl⟩ := hw'; exact p.h
  have c6 := (HV.out.low hW).cells.1
  clear hw' K1 g6 g7 ne HV
  go_wp2
  go_ret
  exact ⟨rfl, hW⟩

theorem info_bool : (Tryz.prog.info? 4).map (fun i => (i.zero, i.size, i.bytes)) = some (some (.bool false), 1, 1) := by kernel_rfl
theorem run_bools (w : World) (n : Nat) (hn : n ≤ 1000000) : Sem.run Tryz.prog (Instr.makeSlice 166 (.int .i64 (n : Int)) (.int .i64 (n : Int))) w = .ok (.slice (some ⟨w.heap.size, 0, none⟩) n n) (w.alloc (.cells (madeCells #[.bool false] n) 4)) := by
  obtain ⟨i0, hi, hz0, hz1, hz2⟩ := info_parts info_bool
  have := run_make (P := Tryz.prog) w 166 4 i0 _ Tryz.underlying166 hi hz0 .i64 .i64 n n (by omega) (by omega) (by rw [hz2]; omega) (by omega)
  rw [hz1] at this
  have e : (Value.bool false).cells = #[.bool false] := rfl
  rw [e] at this
  simpa using this

/-- Where findAlone stands: k tokens are looked at. -/
structure FaI (w Wq : World) (B q : Nat) (z : VV) (s : Wf.Sp) (u : Int) (k : Nat) (W : World) : Prop where
  vq : Va B q z s u 0 (some ⟨Wq.heap.size, 0, none⟩) (txT s).length 1 Wq
  fr : FrL [q] w Wq
  bel : Below Wq.heap.size Wq W
  al : W.heap[Wq.heap.size]? = some (.cells (alC s k) 4 (0, 0))
section
variable {w Wq W W' : World} {B q : Nat} {z : VV} {s : Wf.Sp} {u : Int} {k : Nat}
theorem FaI.va (h : FaI w Wq B q z s u k W) : Va B q z s u 0 (some ⟨Wq.heap.size, 0, none⟩) (txT s).length 1 W := h.vq.low h.bel
theorem FaI.lt (h : FaI w Wq B q z s u k W) : Wq.heap.size < W.heap.size := (Array.getElem?_eq_some_iff.1 h.al).1
theorem FaI.next (h : FaI w Wq B q z s u k W) (hb : Below W.heap.size W W') : FaI w Wq B q z s u k W' :=
  ⟨h.vq, h.fr, h.bel.trans (hb.mono h.bel.size), by rw [hb.block _ h.lt]; exact h.al⟩
theorem FaI.first (h : Va B q z s u 0 (some ⟨Wq.heap.size, 0, none⟩) (txT s).length 1 Wq) (hF : FrL [q] w Wq) : FaI w Wq B q z s u 0 (Wq.alloc (.cells (madeCells #[.bool false] (txT s).length) 4)) :=
  ⟨h, hF, Wf.low_alloc Wq _, by rw [alC_zero]; exact heap_alloc_new Wq _⟩
theorem FaI.put (h : FaI w Wq B q z s u k W) (hk : k < (txT s).length) (b : Bool) (hb : b = alF s k) : FaI w Wq B q z s u (k + 1) (W.setCell ⟨Wq.heap.size, k, none⟩ (.bool b)) := by
  subst hb
  refine ⟨h.vq, h.fr, h.bel.trans ⟨rfl, rfl, rfl, by simp, fun i hi => heap_setCell_other W ⟨Wq.heap.size, k, none⟩ i _ (by simp; omega)⟩, ?_⟩
  rw [Wf.set_block h.al k, alC_next s hk]
theorem FaI.cell (h : FaI w Wq B q z s u k W) {i : Nat} (hi : i < (txT s).length) : W.cell? ⟨Wq.heap.size, i, none⟩ = some (.bool (if i < k then alF s i else false)) := by
  rw [Lib.cell_of_heap h.al]
  exact alC_at s k hi
theorem FaI.c9 (h : FaI w Wq B q z s u k W) : W.cell? ⟨q, 9, none⟩ = some (.pointer (some ⟨z.pb, 0, none⟩)) := h.va.cells.2.2.2.1
theorem FaI.c13 (h : FaI w Wq B q z s u k W) {T : Nat} (hT : (txT s).length = T) : W.cell? ⟨q, 13, none⟩ = some (.slice (some ⟨Wq.heap.size, 0, none⟩) T T) := by
  subst hT
  exact h.va.cells.2.2.2.2.2.2.1
theorem FaI.cell0 (h : FaI w Wq B q z s u k W) (hk : k < (txT s).length) : W.cell? ⟨Wq.heap.size, k, none⟩ = some (.bool false) := by
  have := h.cell hk
  rwa [if_neg (Nat.lt_irrefl k)] at this
theorem FaI.free (h : FaI w Wq B q z s u k W) (i : Nat) : W.frozen? ⟨Wq.heap.size, i, none⟩ = false := Lib.frozen_of_heap h.al i
end

theorem rdI_one (W : World) (x : Int) : Mk.RdI (W.alloc (.cells #[.int .i64 x] 3)) (some ⟨W.heap.size, 0, none⟩) 1 [x] :=
  ⟨rfl, Or.inr ⟨W.heap.size, 0, rfl, by simp, fun i hi => by
    obtain rfl : i = 0 := by omega
    exact Lib.cell_of_heap (heap_alloc_new W _) 0⟩⟩
set_option maxRecDepth 20000 in
set_option maxHeartbeats 8000000 in
theorem findalone_any {B q : Nat} {z : VV} {s : Wf.Sp} {u : Int} {ax : Option Addr} {an : Nat} {w : World} (h : Va B q z s u 0 ax an 1 w) (hR : okB s) :
    Calls Tryz.prog 91 #[.pointer (some ⟨q, 0, none⟩)] w fun e w' => e = .returned (.tuple #[]) ∧ ∃ Wq, FaI w Wq B q z s u (txT s).length w' := by
  have HT := hide (tokT s)
  have HV := hide h
  have HR := hide hR
  have HK := hide (vtable_any h)
  have HC : Hid ((txT s).length ≤ 1000) := hide (tokT s).cap
  clear h hR
  go_enter Tryz.func91, Tryz.ntmps91
  go_wp2_with fail
  refine (unhide HK).mono ?_
  rintro e w1 ⟨rfl, hb⟩
  have HV1 := hide (HV.out.low hb)
  have HB1 := hide hb
  have hcap := HC.out
  have hmk := run_bools w1 (txT s).length (by omega)
  have hq := HV1.out.lt
  have e0 : w1.heap.size = (w1.setCell ⟨q, 13, none⟩ (.slice (some ⟨w1.heap.size, 0, none⟩) (txT s).length (txT s).length)).heap.size := by simp
  have HFI := hide (FaI.first (w := w) (Wq := w1.setCell ⟨q, 13, none⟩ (.slice (some ⟨w1.heap.size, 0, none⟩) (txT s).length (txT s).length)) (B := B) (q := q) (z := z) (s := s) (u := u) (by
    rw [← e0]
    have hF := frq_set w1 q 13 (.slice (some ⟨w1.heap.size, 0, none⟩) (txT s).length (txT s).length)
    exact HV1.out.turn hF (by simpa using Wf.set_block HV1.out.box 13 (.slice (some ⟨w1.heap.size, 0, none⟩) (txT s).length (txT s).length)) (Or.inl rfl)) ((FrL.ofBelow HB1.out).trans' (frq_set w1 q 13 _)))
  have a13 : (w1.alloc (.cells (madeCells #[.bool false] (txT s).length) 4)).cell? ⟨q, 13, none⟩ = some (.slice ax an an) := by
    rw [World.cell?_alloc_past _ _ _ hq]; exact HV1.out.cells.2.2.2.2.2.2.1
  have f13 : (w1.alloc (.cells (madeCells #[.bool false] (txT s).length) 4)).frozen? ⟨q, 13, none⟩ = false := by
    rw [World.frozen?_alloc_past _ _ _ hq]; exact Lib.frozen_of_heap HV1.out.box 13
  have c7 := HV1.out.cells.2.1
  have a7 := HFI.out.va.cells.2.1
  generalize hWq : w1.setCell ⟨q, 13, none⟩ (.slice (some ⟨w1.heap.size, 0, none⟩) (txT s).length (txT s).length) = Wq at *
  have HE0 := hide e0
  clear hb HK HV HV1 HB1 e0
  go_wp2
  clear a13 f13 c7 a7 hmk hq hWq
  rw [HE0.out]
  generalize hTn : (txT s).length = T at *
  have HTN := hide hTn
  clear hTn
  go_loopw [22] (fun i wr => ∃ (k : Nat), i = .int .i64 k ∧ k ≤ T ∧ Hid (FaI w Wq B q z s u k wr)) (fun i _ => T - (intOf i).toNat)
  case atStart => exact ⟨0, rfl, Nat.zero_le _, HFI⟩
  case round =>
    obtain ⟨k, rfl, hk, HS⟩ := hrel
    clear HFI
    by_cases hlt : k < T
    · have hk0 : (0 : Int) ≤ (k : Int) := by omega
      have hk1 : (k : Int) < (T : Int) := by omega
      have hkT : k < (txT s).length := by rw [HTN.out]; exact hlt
      have HKT := hide hkT
      have hsz : (gs (txT s) k).size ≤ 64 := HT.out.sz k hkT
      have HTB := hide (tbytes_any HS.out.va.tb.1 k hkT)
      have CW := hide (fun (W : World) (h : FaI w Wq B q z s u k W) => Wf.Bq.whole_any (bat_tb h.va.bd HR.out) (gs (txT s) k) (by omega))
      have CE := hide (fun (W : World) (h : FaI w Wq B q z s u k W) => encode_any W h.va.tb.1 HT.out (gs (txT s) k) (by omega))
      have HML : Hid ((made (mgT s) (txT s).length (gs (txT s) k)).length ≤ 1000000) := hide (by have := made_len (mgT s) (txT s).length (gs (txT s) k); omega)
      have HAL : Hid (alF s k = (decide ((Wf.Bq.pcs (Wf.Bq.cutP s.classes s.joins) (gs (txT s) k).data.toList).length < 2) && decide (made (mgT s) (txT s).length (gs (txT s) k) = [(k : Int)]))) := hide rfl
      have y9 := HS.out.va.cells.2.2.2.1
      have y13 := HS.out.va.cells.2.2.2.2.2.2.1
      have yc := HS.out.cell hkT
      have yf := HS.out.free k
      rw [if_neg (Nat.lt_irrefl k)] at yc
      have hne : ∀ j, (⟨Wq.heap.size, k, none⟩ : Addr) ≠ ⟨q, j, none⟩ := fun j e => by have := HS.out.vq.lt; simp at e <;> omega
      clear hkT hsz
      rw [HTN.out] at y13
      generalize gs (txT s) k = tk at *
      generalize made (mgT s) (txT s).length tk = A at *
      generalize decide ((Wf.Bq.pcs (Wf.Bq.cutP s.classes s.joins) tk.data.toList).length < 2) = bw at *
      go_wp2_with fail
      refine (unhide HTB).mono ?_
      rintro e w2 ⟨rfl, rfl⟩
      go_wp2
      cases bw with
      | false =>
        have HSD := hide (HS.out.next below_drw)
        have CWD := hide (CW.out _ HSD.out)
        have y9d := HSD.out.c9
        have y13d := HSD.out.c13 HTN.out
        clear CE CW HTB HS y9 y13 yc yf
        refine wp_region_held_drew (S := fun W => W.cell? ⟨q, 9, none⟩ = some (.pointer (some ⟨z.pb, 0, none⟩)) ∧ W.cell? ⟨q, 13, none⟩ = some (.slice (some ⟨Wq.heap.size, 0, none⟩) T T)) (by kernel_rfl) ⟨y9d, y13d⟩ (fun hHeld => ?_)
        refine wpAnyH_take (i := 0) (v := ?_) rfl (by kernel_rfl) (by kernel_rfl) (by kernel_rfl) (fun _ _ _ h => h) (Or.inl ⟨by rfl, ?_⟩) hHeld ?_
        rotate_left
        · intro w hSw; (try dsimp only at hSw); go_simp
          all_goals with_reducible rfl
        try simp only [Act.put, List.setIfInBounds_toArray, List.set_cons_zero, List.set_cons_succ]
        refine wpAnyH_take (i := 1) (v := ?_) rfl (by kernel_rfl) (by kernel_rfl) (by kernel_rfl) (fun _ _ _ h => h) (Or.inl ⟨by rfl, ?_⟩) hHeld ?_
        rotate_left
        · intro w hSw; (try dsimp only at hSw); go_simp
          all_goals with_reducible rfl
        try simp only [Act.put, List.setIfInBounds_toArray, List.set_cons_zero, List.set_cons_succ]
        refine wpAnyH_take (i := 2) (v := ?_) rfl (by kernel_rfl) (by kernel_rfl) (by kernel_rfl) (fun _ _ _ h => h) (Or.inl ⟨by rfl, ?_⟩) hHeld ?_
        rotate_left
        · intro w hSw; (try dsimp only at hSw); go_simp
          all_goals with_reducible rfl
        try simp only [Act.put, List.setIfInBounds_toArray, List.set_cons_zero, List.set_cons_succ]
        refine wpAnyH_take (i := 3) (v := ?_) rfl (by kernel_rfl) (by kernel_rfl) (by kernel_rfl) (fun _ _ _ h => h) (Or.inl ⟨by rfl, ?_⟩) hHeld ?_
        rotate_left
        · intro w hSw; (try dsimp only at hSw); go_simp
          all_goals with_reducible rfl
        try simp only [Act.put, List.setIfInBounds_toArray, List.set_cons_zero, List.set_cons_succ]
        refine wpAnyH_take (i := 4) (v := ?_) rfl (by kernel_rfl) (by kernel_rfl) (by kernel_rfl) (fun _ _ _ h => h) (Or.inl ⟨by rfl, ?_⟩) hHeld ?_
        rotate_left
        · intro w hSw; (try dsimp only at hSw); go_simp
          all_goals with_reducible rfl
        try simp only [Act.put, List.setIfInBounds_toArray, List.set_cons_zero, List.set_cons_succ]
        refine wpAnyH_take (i := 5) (v := ?_) rfl (by kernel_rfl) (by kernel_rfl) (by kernel_rfl) (fun _ _ _ h => h) (Or.inl ⟨by rfl, ?_⟩) hHeld ?_
        rotate_left
        · intro w hSw; (try dsimp only at hSw); go_simp
          all_goals with_reducible rfl
        try simp only [Act.put, List.setIfInBounds_toArray, List.set_cons_zero, List.set_cons_succ]
        refine wpAnyH_take (i := 6) (v := ?_) rfl (by kernel_rfl) (by kernel_rfl) (by kernel_rfl) (fun _ _ _ h => h) (Or.inl ⟨by rfl, ?_⟩) hHeld ?_
        rotate_left
        · intro w hSw; (try dsimp only at hSw); go_simp
          all_goals with_reducible rfl
        try simp only [Act.put, List.setIfInBounds_toArray, List.set_cons_zero, List.set_cons_succ]
        refine wpAnyH_take (i := 7) (v := ?_) rfl (by kernel_rfl) (by kernel_rfl) (by kernel_rfl) (fun _ _ _ h => h) (Or.inl ⟨by rfl, ?_⟩) hHeld ?_
        rotate_left
        · intro w hSw; (try dsimp only at hSw); go_simp
          all_goals with_reducible rfl
        try simp only [Act.put, List.setIfInBounds_toArray, List.set_cons_zero, List.set_cons_succ]
        refine wpAnyH_take (i := 8) (v := ?_) rfl (by kernel_rfl) (by kernel_rfl) (by kernel_rfl) (fun _ _ _ h => h) (Or.inl ⟨by rfl, ?_⟩) hHeld ?_
        rotate_left
        · intro w hSw; (try dsimp only at hSw); go_simp
          all_goals with_reducible rfl
        try simp only [Act.put, List.setIfInBounds_toArray, List.set_cons_zero, List.set_cons_succ]
        refine wpAnyH_take (i := 9) (v := ?_) rfl (by kernel_rfl) (by kernel_rfl) (by kernel_rfl) (fun _ _ _ h => h) (Or.inl ⟨by rfl, ?_⟩) hHeld ?_
        rotate_left
        · intro w hSw; (try dsimp only at hSw); go_simp
          all_goals with_reducible rfl
        try simp only [Act.put, List.setIfInBounds_toArray, List.set_cons_zero, List.set_cons_succ]
        refine wpAnyH_take (i := 10) (v := ?_) rfl (by kernel_rfl) (by kernel_rfl) (by kernel_rfl) (fun _ _ _ h => h) (Or.inl ⟨by rfl, ?_⟩) hHeld ?_
        rotate_left
        · intro w hSw; (try dsimp only at hSw); go_simp
          all_goals with_reducible rfl
        try simp only [Act.put, List.setIfInBounds_toArray, List.set_cons_zero, List.set_cons_succ]
        refine wpAnyH_ready (rs := [11]) (by kernel_rfl) (by simp) ?_
        refine AllReadyH.cons (o := _) rfl (fun K hK => ?_) AllReadyH.nil
        go_simp
        refine (unhide CWD).mono ?_
        rintro e W1 ⟨rfl, hb⟩
        have HS1 := hide (HSD.out.next hb)
        have yc1 := HS1.out.cell0 HKT.out
        have yf1 := HS1.out.free k
        go_wp2_with fail
        refine hK.out _ _ ⟨HS1.out.c9, HS1.out.c13 HTN.out⟩ (fun hHeld => ?_)
        clear hK K CWD HSD y9d y13d hb
        refine wpAnyH_take (i := 12) (v := ?_) rfl (by kernel_rfl) (by kernel_rfl) (by kernel_rfl) (fun _ _ _ h => h) (Or.inl ⟨by rfl, ?_⟩) hHeld ?_
        rotate_left
        · intro w hSw; (try dsimp only at hSw); go_simp
          all_goals with_reducible rfl
        try simp only [Act.put, List.setIfInBounds_toArray, List.set_cons_zero, List.set_cons_succ]
        refine wpAnyH_take (i := 13) (v := undef) rfl (by kernel_rfl) (by kernel_rfl) (by kernel_rfl) (fun _ _ _ h => h) (Or.inr ⟨by rfl, rfl⟩) hHeld ?_
        try simp only [Act.put, List.setIfInBounds_toArray, List.set_cons_zero, List.set_cons_succ]
        refine wpAnyH_take (i := 14) (v := undef) rfl (by kernel_rfl) (by kernel_rfl) (by kernel_rfl) (fun _ _ _ h => h) (Or.inr ⟨by rfl, rfl⟩) hHeld ?_
        try simp only [Act.put, List.setIfInBounds_toArray, List.set_cons_zero, List.set_cons_succ]
        refine wpAnyH_take (i := 15) (v := undef) rfl (by kernel_rfl) (by kernel_rfl) (by kernel_rfl) (fun _ _ _ h => h) (Or.inr ⟨by rfl, rfl⟩) hHeld ?_
        try simp only [Act.put, List.setIfInBounds_toArray, List.set_cons_zero, List.set_cons_succ]
        refine wpAnyH_take (i := 16) (v := undef) rfl (by kernel_rfl) (by kernel_rfl) (by kernel_rfl) (fun _ _ _ h => h) (Or.inr ⟨by rfl, rfl⟩) hHeld ?_
        try simp only [Act.put, List.setIfInBounds_toArray, List.set_cons_zero, List.set_cons_succ]
        refine wpAnyH_take (i := 17) (v := undef) rfl (by kernel_rfl) (by kernel_rfl) (by kernel_rfl) (fun _ _ _ h => h) (Or.inr ⟨by rfl, rfl⟩) hHeld ?_
        try simp only [Act.put, List.setIfInBounds_toArray, List.set_cons_zero, List.set_cons_succ]
        refine wpAnyH_take (i := 18) (v := undef) rfl (by kernel_rfl) (by kernel_rfl) (by kernel_rfl) (fun _ _ _ h => h) (Or.inr ⟨by rfl, rfl⟩) hHeld ?_
        try simp only [Act.put, List.setIfInBounds_toArray, List.set_cons_zero, List.set_cons_succ]
        refine wpAnyH_take (i := 19) (v := ?_) rfl (by kernel_rfl) (by kernel_rfl) (by kernel_rfl) (fun _ _ _ h => h) (Or.inl ⟨by rfl, ?_⟩) hHeld ?_
        rotate_left
        · intro w hSw; (try dsimp only at hSw); go_simp
          all_goals with_reducible rfl
        try simp only [Act.put, List.setIfInBounds_toArray, List.set_cons_zero, List.set_cons_succ]
        refine wpAnyH_take (i := 20) (v := ?_) rfl (by kernel_rfl) (by kernel_rfl) (by kernel_rfl) (fun _ _ _ h => h) (Or.inl ⟨by rfl, ?_⟩) hHeld ?_
        rotate_left
        · intro w hSw; (try dsimp only at hSw); go_simp
          all_goals with_reducible rfl
        try simp only [Act.put, List.setIfInBounds_toArray, List.set_cons_zero, List.set_cons_succ]
        refine wpAnyH_ready (rs := [21]) (by kernel_rfl) (by simp) ?_
        refine AllReadyH.cons (o := _) rfl (fun K hK => ?_) AllReadyH.nil
        go_simp
        refine hK.out _ _ ⟨(World.cell?_setCell_other _ _ _ _ (hne 9)).trans HS1.out.c9, (World.cell?_setCell_other _ _ _ _ (hne 13)).trans (HS1.out.c13 HTN.out)⟩ (fun hHeld => ?_)
        clear hK K
        refine wpAnyH_done (by kernel_rfl) ?_ _
        have HN := hide (HS1.out.put HKT.out false (by rw [HAL.out]; rfl))
        clear HS1 yc1 yf1 hHeld
        go_wp2
        exact ⟨⟨k + 1, by go_num, by omega, HN⟩, by simp [intOf]; omega⟩
      | true =>
        go_region_held3 (fun W => W.cell? ⟨q, 9, none⟩ = some (.pointer (some ⟨z.pb, 0, none⟩)) ∧ W.cell? ⟨q, 13, none⟩ = some (.slice (some ⟨Wq.heap.size, 0, none⟩) T T)) (first | exact ⟨y9, y13⟩ | exact ⟨(World.cell?_setCell_other _ _ _ _ (hne 9)).trans y9, (World.cell?_setCell_other _ _ _ _ (hne 13)).trans y13⟩ | go_keep) (first
          | (go_at_call 124; refine (CW.out _ (HS.out.next below_drw)).mono ?_; rintro e W1 ⟨rfl, hb⟩; replace HS := hide ((HS.out.next below_drw).next hb); have yc := HS.out.cell0 HKT.out; have yf := HS.out.free k; have y9 := HS.out.c9; have y13 := HS.out.c13 HTN.out)
          | (go_at_call 78; refine (CE.out _ (by first | with_reducible exact HS.out | with_reducible exact HS.out.next (Wf.low_alloc _ _))).mono ?_; rintro e W2 ⟨⟨v, rfl, hv⟩, hb⟩; obtain ⟨ae, ce, hvv⟩ := row_form hv; subst hvv; (try have HRK := hide ((rdI_one _ (k : Int)).kept hb)); replace HS : Hid (FaI w Wq B q z s u k W2) := hide (by first | with_reducible exact HS.out.next hb | with_reducible exact (HS.out.next (Wf.low_alloc _ _)).next hb); have HRI := hide (Mk.RdI.of_row hv); have yc := HS.out.cell0 HKT.out; have yf := HS.out.free k; have y9 := HS.out.c9; have y13 := HS.out.c13 HTN.out)
          | (go_at_call 125; refine (eqI_any _ _ _ _ _ _ _ A [(k : Int)] (by first | with_reducible exact HRI.out | with_reducible exact HRI.out.kept (Wf.low_alloc _ _)) (by first | with_reducible exact HRK.out | with_reducible exact rdI_one _ _) (by have := HML.out; omega)).mono ?_; rintro e W3 ⟨rfl, hb⟩; replace HS : Hid (FaI w Wq B q z s u k W3) := hide (by first | with_reducible exact HS.out.next hb | with_reducible exact (HS.out.next (Wf.low_alloc _ _)).next hb); have yc := HS.out.cell0 HKT.out; have yf := HS.out.free k; have y9 := HS.out.c9; have y13 := HS.out.c13 HTN.out))
        all_goals
          have HN := hide (HS.out.put HKT.out (decide (A = [(k : Int)])) (by rw [HAL.out, Bool.true_and]))
          clear CE CW HTB HS HRI
          go_wp2
          exact ⟨⟨k + 1, by go_num, by omega, HN⟩, by simp [intOf]; omega⟩
    · obtain rfl : T = k := by omega
      go_wp2
      go_end0
      exact ⟨rfl, Wq, by rw [HTN.out]; exact HS.out⟩
end Go.Proofs.YtdpmjaelbjjanaaGreat

namespace Go.Proofs.YtdpmjaelbjjanaaGreat
open Go.RowKit Go.Maps
set_option linter.unusedVariables false
set_option linter.unusedSimpArgs false

/-- Is a token alone? -/
def aloneV (s : Wf.Sp) (id : Int) : Bool := spcV s id || (decide (0 ≤ id ∧ id < ((txT s).length : Int)) && alF s id.toNat)
/-- One more use, whatever number stands there. -/
theorem uaddw_any {q o : Nat} {u : Int} {w : World} (hc : w.cell? ⟨q, o, none⟩ = some (.int .i64 u)) (hz : w.frozen? ⟨q, o, none⟩ = false) :
    Calls Tryz.prog 88 #[.pointer (some ⟨q, o, none⟩), .int .i64 1] w fun e w' => e = .returned (.int .i64 (IntKind.i64.wrap (u + 1))) ∧ w' = w.setCell ⟨q, o, none⟩ (.int .i64 (IntKind.i64.wrap (u + 1))) := by
  have hadd := run_call_add (P := Tryz.prog) Tryz.func121 (by kernel_rfl) (by kernel_rfl) (by kernel_rfl) .i64 (by kernel_rfl) (y := 1) (s := IntKind.i64.wrap (u + 1)) hc hz (by simp [go_sem])
  generalize IntKind.i64.wrap (u + 1) = v at *
  go_enter Tryz.func88, Tryz.ntmps88
  go_wp2
  go_ret
  exact ⟨rfl, rfl⟩

section
variable {w W : World} {B q : Nat} {z : VV} {s : Wf.Sp} {u d : Int} {ax : Option Addr} {an : Nat}
/-- It has been asked. -/
theorem Va.did {w1 Wq w2 : World} {B q : Nat} {z : VV} {s : Wf.Sp} {u : Int} (h : FaI w1 Wq B q z s u (txT s).length w2) :
    Va B q z s u 1 (some ⟨Wq.heap.size, 0, none⟩) (txT s).length 0 ((w2.drew.setCell ⟨q, 10, none⟩ (.int .u32 1)).setCell ⟨q, 11, none⟩ (.int .i32 0)) ∧ FrL [q] w2 ((w2.drew.setCell ⟨q, 10, none⟩ (.int .u32 1)).setCell ⟨q, 11, none⟩ (.int .i32 0)) := by
  have hv := h.va.low below_drw
  have hF : FrL [q] w2 ((w2.drew.setCell ⟨q, 10, none⟩ (.int .u32 1)).setCell ⟨q, 11, none⟩ (.int .i32 0)) := ((FrL.ofBelow below_drw).set (by simp) _).set (by simp) _
  have hq := h.vq.lt
  refine ⟨h.va.turn hF ?_ (Or.inr ⟨rfl, rfl, _, rfl, by omega, ?_⟩), hF⟩
  · have h1 := Wf.set_block hv.box 10 (.int .u32 1)
    have h2 := Wf.set_block h1 11 (.int .i32 0)
    simpa using h2
  · rw [hF.block _ h.lt (by simp; omega)]
    exact h.al
set_option maxRecDepth 20000 in
set_option maxHeartbeats 4000000 in
theorem vonce_any (h : Va B q z s u d ax an 0 w) (hR : okB s) :
    Calls Tryz.prog 90 #[.pointer (some ⟨q, 10, none⟩), .func (.func 91) #[.pointer (some ⟨q, 0, none⟩)] #[]] w fun e w' => e = .returned (.tuple #[]) ∧ (∃ ax', Va B q z s u 1 ax' (txT s).length 0 w') ∧ FrL [q] w w' := by
  rcases h.al with e | ⟨e1, e2, _⟩
  · subst e
    refine (do_first q w (fun w2 => ∃ Wq, FaI (w.setCell ⟨q, 11, none⟩ (.int .i32 1)) Wq B q z s u (txT s).length w2) h.cells.2.2.2.2.1 h.cells.2.2.2.2.2.1 (Lib.frozen_of_heap h.box 10) (Lib.frozen_of_heap h.box 11) ?_ (hide (findalone_any (h.lock 1) hR))).mono ?_
    · rintro w2 ⟨Wq, hf⟩
      have hv := hf.va
      exact ⟨hv.cells.2.2.2.2.1, hv.cells.2.2.2.2.2.1, Lib.frozen_of_heap hv.box 10, Lib.frozen_of_heap hv.box 11⟩
    · rintro e w' ⟨rfl, w2, ⟨Wq, hf⟩, rfl⟩
      have hd := Va.did hf
      have hfr : FrL [q] (w.setCell ⟨q, 11, none⟩ (.int .i32 1)) w2 := hf.fr.trans' ⟨hf.bel.os, hf.bel.tape, hf.bel.output, hf.bel.size, fun k hk _ => hf.bel.block k hk⟩
      exact ⟨rfl, ⟨_, hd.1⟩, ((frq_set w q 11 _).trans' hfr).trans' hd.2⟩
  · subst e1 e2
    exact (do_done q _ w h.cells.2.2.2.2.1).mono (fun e w' ⟨h1, h2⟩ => by subst h2; exact ⟨h1, ⟨_, h⟩, FrL.refl _ _⟩)
set_option maxRecDepth 20000 in
set_option maxHeartbeats 4000000 in
theorem valone_any (h : Va B q z s u d ax an 0 w) (hR : okB s) (hl : s.specials.length ≤ 1000) (id : Int) (hw : Mk.wfI id) :
    Calls Tryz.prog 59 #[.pointer (some ⟨q, 0, none⟩), .int .i64 id] w fun e w' => e = .returned (.bool (aloneV s id)) ∧ (∃ u' d' ax' an', Va B q z s u' d' ax' an' 0 w') ∧ FrL [q] w w' := by
  have HF := hide (frq_set w q 14 (.int .i64 (IntKind.i64.wrap (u + 1))))
  have HK := hide (uaddw_any h.cells.2.2.2.2.2.2.2 (Lib.frozen_of_heap h.box 14))
  have HV := hide (h.use (IntKind.i64.wrap (u + 1)))
  have HR := hide hR
  have hS := HV.out.mr
  have c8 := HV.out.cells.2.2.1
  clear h hR
  generalize IntKind.i64.wrap (u + 1) = u1 at *
  generalize w.setCell ⟨q, 14, none⟩ (.int .i64 u1) = w1 at *
  by_cases hm : Mk.ik id ∈ Mk.ids s.specials
  · obtain ⟨i, hi⟩ := List.getElem?_of_mem hm
    have HMK := hide (Mk.mark_yes hS hl id hw i hi)
    have HRS : Hid (aloneV s id = true) := hide (by simp [aloneV, spc_iff.2 hm])
    clear hS hm hi hl hw
    go_enter Tryz.func59, Tryz.ntmps59
    go_wp2_with fail
    refine (unhide HK).mono ?_
    rintro e w' ⟨rfl, rfl⟩
    go_wp2_with fail
    refine (unhide HMK).mono ?_
    rintro e w' ⟨rfl, rfl⟩
    go_wp2
    go_ret
    exact ⟨by rw [HRS.out]; rfl, ⟨_, _, _, _, HV.out⟩, HF.out⟩
  · have HMK := hide (Mk.mark_no hS id hw hm)
    have HRS : Hid (aloneV s id = (decide (0 ≤ id ∧ id < ((txT s).length : Int)) && alF s id.toNat)) := hide (by
      have : spcV s id = false := by
        cases h : spcV s id with
        | false => rfl
        | true => exact absurd (spc_iff.1 h) hm
      simp [aloneV, this])
    have HON := hide (vonce_any HV.out HR.out)
    clear hS hm hl hw
    go_enter Tryz.func59, Tryz.ntmps59
    go_wp2_with fail
    refine (unhide HK).mono ?_
    rintro e w' ⟨rfl, rfl⟩
    go_wp2_with fail
    refine (unhide HMK).mono ?_
    rintro e w' ⟨rfl, rfl⟩
    go_wp2_with fail
    refine (unhide HON).mono ?_
    rintro e w2 ⟨rfl, ⟨ax', hv2⟩, hF2⟩
    have HV2 := hide hv2
    have HF2 := hide (HF.out.trans' hF2)
    have HO := hide (ordinary_any q _ id w2 hv2.cells.2.1)
    have c13 := hv2.cells.2.2.2.2.2.2.1
    rcases hv2.al with h0 | ⟨_, _, g, rfl, hgq, hg⟩
    · omega
    clear hv2 hF2 HK HMK HON HV c8
    by_cases ho : 0 ≤ id ∧ id < ((txT s).length : Int)
    · have hd : decide (0 ≤ id ∧ id < ((txT s).length : Int)) = true := decide_eq_true ho
      have hb0 := ho.1
      have hb1 := ho.2
      obtain ⟨i, rfl⟩ : ∃ i : Nat, id = (i : Int) := ⟨id.toNat, by omega⟩
      have hi : i < (txT s).length := by omega
      have cg : w2.cell? ⟨g, i, none⟩ = some (.bool (alF s i)) := by
        rw [Lib.cell_of_heap hg, alC_at s _ hi, if_pos hi]
      rw [hd] at HO HRS
      clear hg hd ho
      generalize hal : alF s i = al at *
      go_wp2_with fail
      refine (unhide HO).mono ?_
      rintro e w' ⟨rfl, rfl⟩
      go_wp2
      go_ret
      exact ⟨by rw [HRS.out]; simp [hal], ⟨_, _, _, _, HV2.out⟩, HF2.out⟩
    · have hd : decide (0 ≤ id ∧ id < ((txT s).length : Int)) = false := decide_eq_false ho
      rw [hd] at HO HRS
      clear hg hd ho
      go_wp2_with fail
      refine (unhide HO).mono ?_
      rintro e w' ⟨rfl, rfl⟩
      go_wp2
      go_ret
      exact ⟨by rw [HRS.out]; rfl, ⟨_, _, _, _, HV2.out⟩, HF2.out⟩
end
end Go.Proofs.YtdpmjaelbjjanaaGreat

namespace Go.Proofs.YtdpmjaelbjjanaaGreat
open Go.RowKit Go.Maps
set_option linter.unusedVariables false
set_option linter.unusedSimpArgs false

end Go.Proofs.YtdpmjaelbjjanaaGreat
