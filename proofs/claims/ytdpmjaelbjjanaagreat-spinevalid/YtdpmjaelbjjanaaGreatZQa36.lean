/- What is made of items has these items; and no more numbers than they are. A vocabulary that is used, with its bounds; contracts of Table, Marks, Bounds. Contracts of package encode: isByte, apart, end. Contracts of package encode: wrong, right, pieces. The document's Some: a vocabulary of numbers, classes, joins and special tokens. Rows of special tokens, put behind others, in a region that draws its order. -/
import Derived.Test.YtdpmjaelbjjanaaGreatZQa35
import Derived.Test.YtdpmjaelbjjanaaGreatZQa33
import Derived.Test.YtdpmjaelbjjanaaGreatZQa34
import Derived.Test.YtdpmjaelbjjanaaGreatZQa20
import Derived.Test.YtdpmjaelbjjanaaGreatZQa25
import Derived.Deep.RegionLaw
import Derived.Deep.RegionHeld3
namespace Go.Proofs.YtdpmjaelbjjanaaGreat
set_option linter.unusedVariables false
set_option linter.unusedSimpArgs false

/-- An item that is right. -/
def okE (L : List (Int × ByteArray)) (x : Int) : Prop := x < 256 ∧ -(L.length : Int) ≤ x

section
variable {s : Wf.Sp} {q : Int → Int → Bool}
theorem mkF_in (h : VOk s) {x : Int} (h0 : 0 ≤ x) (h1 : x < ((txT s).length : Int)) : mkF s.specials x = 0 := by
  refine mkF_no (fun j hj e => ?_)
  have := h.2.2 j hj
  omega
theorem bys_bsE {p : List Int} (h : ∀ x ∈ p, 0 ≤ x ∧ x < 256) : Mk.bys (bsE p) = p := by
  unfold Mk.bys bsE
  rw [List.map_map]
  conv => rhs; rw [← List.map_id p]
  exact List.map_congr_left (fun x hx => u8E_val (h x hx).1 (h x hx).2)
/-- A run of items is a mark, or bytes alone. -/
theorem rns_kind (I : List Int) {p : List Int} (hp : p ∈ rns (icE q) I) : (∃ x, p = [x] ∧ x < 0) ∨ (p ≠ [] ∧ ∀ x ∈ p, 0 ≤ x) := by
  have hne := rns_ne I p hp
  by_cases hn : ∃ x ∈ p, x < 0
  · obtain ⟨x, hx, h0⟩ := hn
    left
    refine ⟨x, ?_, h0⟩
    obtain ⟨u, v, e⟩ := List.append_of_mem hx
    have hu : u = [] := by
      rcases List.eq_nil_or_concat u with rfl | ⟨u, y, rfl⟩
      · rfl
      · rw [List.concat_eq_append, List.append_assoc] at e
        have := rns_in I p hp u y x v e
        unfold icE at this
        rw [decide_eq_true h0] at this
        simp at this
    subst hu
    cases v with
    | nil => exact e
    | cons y v =>
      have := rns_in I p hp [] x y v e
      unfold icE at this
      rw [decide_eq_true h0] at this
      simp at this
  · exact Or.inr ⟨hne, fun x hx => Int.not_lt.1 (fun h => hn ⟨x, hx, h⟩)⟩
theorem mk1_len (mg : List (Int × Int)) (bl : Int) (L : List (Int × ByteArray)) {p : List Int} (hp : p ≠ []) : (mk1E mg bl L p).length ≤ p.length := by
  unfold mk1E
  split
  · cases p with
    | nil => simp at hp
    | cons a r => simp
  · have h1 := made_len mg bl (bsE p)
    have h2 : (bsE p).size = p.length := by simp [bsE, ByteArray.size]
    omega
theorem flat_len (mg : List (Int × Int)) (bl : Int) (L : List (Int × ByteArray)) : ∀ l : List (List Int), (∀ p ∈ l, p ≠ []) → (l.flatMap (mk1E mg bl L)).length ≤ l.flatten.length
  | [], _ => by simp
  | p :: r, h => by
    have h1 := mk1_len mg bl L (h p (by simp))
    have h2 := flat_len mg bl L r (fun x hx => h x (List.mem_cons_of_mem _ hx))
    simp only [List.flatMap_cons, List.length_append, List.flatten_cons]
    omega
end
end Go.Proofs.YtdpmjaelbjjanaaGreat

namespace Go.Proofs.YtdpmjaelbjjanaaGreat
open Go.RowKit Go.Maps
set_option linter.unusedVariables false
set_option linter.unusedSimpArgs false

theorem bat_tbE {p : Nat} {s : Wf.Sp} {W : World} (h : Wf.Bq.BAt p (fun b => Wf.Bq.cls s.classes b) (fun a b => decide (((a : Int), (b : Int)) ∈ s.joins)) W) (hR : okB s) : Wf.Bq.Tb (.pointer (some ⟨p, 0, none⟩)) (Wf.Bq.cutP s.classes s.joins) W := by
  refine Or.inr ⟨p, _, _, rfl, h, fun b _ => Wf.Bq.cls_range' hR.1 b, fun a b _ _ => ?_⟩
  have h1 := Wf.Bq.cls_range' hR.1 (a : Int)
  have h2 := Wf.Bq.cls_range' hR.1 (b : Int)
  unfold Wf.Bq.cutP
  rw [Int.toNat_of_nonneg h1.1, Int.toNat_of_nonneg h2.1, Bool.eq_iff_iff]
  simp
/-- A vocabulary that was used u times, with its bounds. -/
structure Ve (B q : Nat) (z : VV) (s : Wf.Sp) (u : Int) (W : World) : Prop where
  vu : Vu B q z s u W
  bd : Wf.Bq.BAt z.pb (fun b => Wf.Bq.cls s.classes b) (fun a b => decide (((a : Int), (b : Int)) ∈ s.joins)) W
section
variable {w W W' : World} {B q : Nat} {z : VV} {s : Wf.Sp} {u u' : Int}
theorem StB.ve (h : StB w q 4 z s W) : Ve w.heap.size q z s 0 W := ⟨h.vu, h.bd (by omega)⟩
theorem Ve.lt (h : Ve B q z s u W) : q < W.heap.size := h.vu.lt
theorem Ve.low (h : Ve B q z s u W) (hb : Below W.heap.size W W') : Ve B q z s u W' := ⟨h.vu.low hb, h.bd.kept hb⟩
theorem Ve.used (h : Ve B q z s u W) (hv : Vu B q z s u' W') (hF : FrL [q] W W') : Ve B q z s u' W' := ⟨hv, bat_q h.bd (IsV.of h.vu.box) hF⟩
theorem Ve.c9 (h : Ve B q z s u W) : W.cell? ⟨q, 9, none⟩ = some (.pointer (some ⟨z.pb, 0, none⟩)) := Lib.cell_of_heap h.vu.box 9
theorem Ve.tb (h : Ve B q z s u W) (hR : okB s) : Wf.Bq.Tb (.pointer (some ⟨z.pb, 0, none⟩)) (Wf.Bq.cutP s.classes s.joins) W := bat_tbE h.bd hR
theorem vmarksE (h : Ve B q z s u W) : Calls Tryz.prog 66 #[.pointer (some ⟨q, 0, none⟩)] W fun e w' => e = .returned (.pointer (some ⟨z.pm, 0, none⟩)) ∧ w' = W := by
  have c8 := h.vu.cells.2.2.1
  clear h
  go_enter Tryz.func66, Tryz.ntmps66
  go_wp2
  go_ret
  exact ⟨rfl, rfl⟩
end

end Go.Proofs.YtdpmjaelbjjanaaGreat

namespace Go.Proofs.YtdpmjaelbjjanaaGreat
open Go.RowKit Go.Maps
set_option linter.unusedVariables false
set_option linter.unusedSimpArgs false

/-- Where a vocabulary cuts. -/
abbrev cuE (s : Wf.Sp) : Int → Int → Bool := Wf.Bq.cutP s.classes s.joins
theorem isbyte_any (n : Int) (w : World) : Calls Tryz.prog 76 #[.int .i64 n] w fun e w' => e = .returned (.bool (decide (0 ≤ n ∧ n < 256))) ∧ w' = w := by
  go_enter Tryz.func76, Tryz.ntmps76
  by_cases h0 : 0 ≤ n
  · by_cases h1 : n < 256
    · go_wp2
      go_ret
      exact ⟨by simp [h0, h1], rfl⟩
    · go_wp2
      go_ret
      exact ⟨by simp [h0, h1], rfl⟩
  · go_wp2
    go_ret
    exact ⟨by simp; omega, rfl⟩

/-- What comes of end: where the first run ends. -/
def EndP (s : Wf.Sp) (I : List Int) (e : Ending) : Prop := ∃ m : Nat, e = .returned (.int .i64 (m : Int)) ∧ 0 < m ∧ m ≤ I.length ∧ (∀ j, 0 < j → j < m → icE (cuE s) (I.getD (j - 1) 0) (I.getD j 0) = false) ∧ (m = I.length ∨ icE (cuE s) (I.getD (m - 1) 0) (I.getD m 0) = true)

end Go.Proofs.YtdpmjaelbjjanaaGreat

namespace Go.Proofs.YtdpmjaelbjjanaaGreat
open Go.RowKit Go.Maps
set_option linter.unusedVariables false
set_option linter.unusedSimpArgs false

/-- Is it a mark? And its number, or nothing. -/
def isMk (L : List (Int × ByteArray)) (x : Int) : Bool := decide (x < 0 ∧ -(L.length : Int) ≤ x)
def idMk (L : List (Int × ByteArray)) (x : Int) : Int := if x < 0 ∧ -(L.length : Int) ≤ x then idE L x else 0
theorem id_all {v : Value} {ao : Option Addr} {cap : Nat} {L : List (Int × ByteArray)} {w : World} (h : Mk.StV w v ao cap L) (hn : L.length ≤ 1000) (x : Int) (hx : Mk.wfI x) :
    Calls Tryz.prog 75 #[v, .int .i64 x] w fun e w' => e = .returned (.tuple #[.int .i64 (idMk L x), .bool (isMk L x)]) ∧ Below w.heap.size w w' := by
  by_cases hm : x < 0 ∧ -(L.length : Int) ≤ x
  · have K := Mk.id_yes h hn x (-1 - x).toNat (by omega) (by omega)
    unfold idMk isMk
    rw [if_pos hm, decide_eq_true hm]
    exact K
  · have K := Mk.id_no h hn x hx (by omega)
    unfold idMk isMk
    rw [if_neg hm, decide_eq_false hm]
    exact K
theorem isMk_ok {L : List (Int × ByteArray)} {x : Int} : (isMk L x = false ∧ decide (0 ≤ x ∧ x < 256) = false) ↔ ¬ okE L x := by
  unfold isMk okE
  rw [decide_eq_false_iff_not, decide_eq_false_iff_not]
  omega
/-- What comes of wrong. -/
def WrP (L : List (Int × ByteArray)) (I : List Int) (e : Ending) : Prop :=
  ((∀ j, j < I.length → okE L (Mk.gI I j)) ∧ e = .returned (.tuple #[.int .i64 0, .bool false])) ∨
  ∃ k : Nat, k < I.length ∧ (∀ j, j < k → okE L (Mk.gI I j)) ∧ ¬ okE L (Mk.gI I k) ∧ e = .returned (.tuple #[.int .i64 (k : Int), .bool true])

set_option maxRecDepth 20000 in
set_option maxHeartbeats 4000000 in
theorem wrong_gen {vv pv : Value} {aL : Option Addr} {cL : Nat} {L : List (Int × ByteArray)} {w : World} (hv : ∀ W, Below w.heap.size w W → Calls Tryz.prog 66 #[vv] W fun e w' => e = .returned pv ∧ w' = W) (hs : ∀ W, Below w.heap.size w W → Mk.StV W pv aL cL L) (hl : L.length ≤ 1000) (hp : ∃ p, vv = .pointer p) {ai : Option Addr} {ni ci : Nat} {I : List Int} (hI : Mk.RdI w ai ni I) (hni : ni ≤ 1000000000) (hw : ∀ j, j < ni → Mk.wfI (Mk.gI I j)) :
    Calls Tryz.prog 42 #[vv, .slice ai ni ci] w fun e w' => WrP L I e ∧ Below w.heap.size w w' := by
  have HV := hide hv
  have HS := hide hs
  obtain ⟨vp, rfl⟩ := hp
  have HLS := hide hl
  have HI := hide hI
  have HW := hide hw
  have HL := hide hI.1
  clear hv hs hl hI hw
  go_enter Tryz.func42, Tryz.ntmps42
  go_wp2
  go_loopw [12] (fun i wr => ∃ k : Nat, i = .int .i64 (k : Int) ∧ k ≤ ni ∧ Hid (∀ j, j < k → okE L (Mk.gI I j)) ∧ Hid (Below w.heap.size w wr)) (fun i _ => ni - (intOf i).toNat)
  case atStart => exact ⟨0, rfl, Nat.zero_le _, hide (fun j h => by omega), hide (Below.refl _ _)⟩
  case round =>
    obtain ⟨k, rfl, hk, HJ, HB⟩ := hrel
    by_cases hlt : k < ni
    · have hk0 : (0 : Int) ≤ (k : Int) := by omega
      have hk1 : (k : Int) < (ni : Int) := by omega
      rcases (HI.out.kept HB.out).2 with h0 | ⟨b, off, rfl, hbl, hc⟩
      · omega
      have c1 := hc k hlt
      have K1 := hide (HV.out wr HB.out)
      have K2 := hide (id_all (HS.out wr HB.out) HLS.out (Mk.gI I k) (HW.out k hlt))
      have K3 := hide (fun W => isbyte_any (Mk.gI I k) W)
      have HOI := hide (isMk_ok (L := L) (x := Mk.gI I k))
      clear hc hbl
      generalize hgx : Mk.gI I k = x at *
      have HX := hide hgx
      clear hgx
      generalize idMk L x = idx at *
      cases hm : isMk L x with
      | true =>
        rw [hm] at K2
        have HOK : Hid (okE L x) := hide (Classical.byContradiction (fun e => by have := HOI.out.2 e; rw [hm] at this; simp at this))
        clear hm
        go_wp2_with fail
        refine (unhide K1).mono ?_
        rintro e w1 ⟨rfl, hw1⟩
        obtain rfl := hw1.symm
        clear hw1 K1
        go_wp2_with fail
        refine (unhide K2).mono ?_
        rintro e w2 ⟨rfl, hb2⟩
        have HB2 := hide (below_step HB.out hb2)
        have HN : Hid (∀ j, j < k + 1 → okE L (Mk.gI I j)) := hide (fun j hj => by
          by_cases e : j = k
          · subst e; rw [HX.out]; exact HOK.out
          · exact HJ.out j (by omega))
        clear hb2 K2 K3 c1 HJ HB
        go_wp2
        first
          | exact ⟨⟨k + 1, by go_num, by omega, HN, HB2⟩, by simp [intOf]; omega⟩
          | (go_roundw
             case rel => exact ⟨k + 1, by go_num, by omega, HN, HB2⟩
             case measure => simp [intOf]; omega)
      | false =>
        rw [hm] at K2
        cases hd : decide (0 ≤ x ∧ x < 256) with
        | true =>
          rw [hd] at K3
          have HOK : Hid (okE L x) := hide (Classical.byContradiction (fun e => by have := HOI.out.2 e; rw [hd] at this; simp at this))
          clear hm hd
          go_wp2_with fail
          refine (unhide K1).mono ?_
          rintro e w1 ⟨rfl, hw1⟩
          obtain rfl := hw1.symm
          clear hw1 K1
          go_wp2_with fail
          refine (unhide K2).mono ?_
          rintro e w2 ⟨rfl, hb2⟩
          have HB2 := hide (below_step HB.out hb2)
          have HN : Hid (∀ j, j < k + 1 → okE L (Mk.gI I j)) := hide (fun j hj => by
            by_cases e : j = k
            · subst e; rw [HX.out]; exact HOK.out
            · exact HJ.out j (by omega))
          clear hb2 K2 c1 HJ HB
          go_wp2_with fail
          refine (K3.out _).mono ?_
          rintro e w1 ⟨rfl, hw1⟩
          obtain rfl := hw1.symm
          clear hw1 K3
          go_wp2
          first
            | exact ⟨⟨k + 1, by go_num, by omega, HN, HB2⟩, by simp [intOf]; omega⟩
            | (go_roundw
               case rel => exact ⟨k + 1, by go_num, by omega, HN, HB2⟩
               case measure => simp [intOf]; omega)
        | false =>
          rw [hd] at K3
          have HOK : Hid (¬ okE L x) := hide (HOI.out.1 ⟨hm, hd⟩)
          clear hm hd
          go_wp2_with fail
          refine (unhide K1).mono ?_
          rintro e w1 ⟨rfl, hw1⟩
          obtain rfl := hw1.symm
          clear hw1 K1
          go_wp2_with fail
          refine (unhide K2).mono ?_
          rintro e w2 ⟨rfl, hb2⟩
          have HB2 := hide (below_step HB.out hb2)
          clear hb2 K2 c1 HB
          go_wp2_with fail
          refine (K3.out _).mono ?_
          rintro e w1 ⟨rfl, hw1⟩
          obtain rfl := hw1.symm
          clear hw1 K3
          go_wp2
          (try simp only [Exit.inBlock, Exit.then])
          refine bodyPost_ret (v := .tuple #[.int .i64 (k : Int), .bool true]) (by simp [results, Tryz.results42, go_sem]) rfl ?_
          exact ⟨Or.inr ⟨k, by rw [HL.out]; exact hlt, HJ.out, by rw [HX.out]; exact HOK.out, rfl⟩, HB2.out⟩
    · obtain rfl : ni = k := by omega
      go_wp2
      (try simp only [Exit.inBlock, Exit.then])
      refine bodyPost_ret (v := .tuple #[.int .i64 0, .bool false]) (by simp [results, Tryz.results42, go_sem]) rfl ?_
      exact ⟨Or.inl ⟨fun j hj => HJ.out j (by rw [← HL.out]; exact hj), rfl⟩, HB.out⟩

theorem wrong_any {B q : Nat} {z : VV} {s : Wf.Sp} {u : Int} {w : World} (h : Ve B q z s u w) (hl : s.specials.length ≤ 1000) {ai : Option Addr} {ni ci : Nat} {I : List Int} (hI : Mk.RdI w ai ni I) (hni : ni ≤ 1000000000) (hw : ∀ j, j < ni → Mk.wfI (Mk.gI I j)) :
    Calls Tryz.prog 42 #[.pointer (some ⟨q, 0, none⟩), .slice ai ni ci] w fun e w' => WrP s.specials I e ∧ Below w.heap.size w w' :=
  wrong_gen (fun W hb => vmarksE (h.low hb)) (fun W hb => (h.low hb).vu.mr) hl ⟨_, rfl⟩ hI hni hw
set_option maxRecDepth 20000 in
set_option maxHeartbeats 4000000 in
theorem right_any {B q : Nat} {z : VV} {s : Wf.Sp} {u : Int} {w : World} (h : Ve B q z s u w) (hl : s.specials.length ≤ 1000) {ai : Option Addr} {ni ci : Nat} {I : List Int} (hI : Mk.RdI w ai ni I) (hni : ni ≤ 1000000000) (hw : ∀ j, j < ni → Mk.wfI (Mk.gI I j)) :
    Calls Tryz.prog 39 #[.pointer (some ⟨q, 0, none⟩), .slice ai ni ci] w fun e w' => (∃ b, e = .returned (.bool b) ∧ (b = true ↔ ∀ j, j < I.length → okE s.specials (Mk.gI I j))) ∧ Below w.heap.size w w' := by
  have K := hide (wrong_any (ci := ci) h hl hI hni hw)
  clear h hl hI hni hw
  go_enter Tryz.func39, Tryz.ntmps39
  go_wp2_with fail
  refine (unhide K).mono ?_
  rintro e w1 ⟨hP, hb⟩
  have HB := hide hb
  clear hb K
  rcases hP with ⟨h1, rfl⟩ | ⟨k, h0, h1, h2, rfl⟩
  · have H1 := hide h1
    clear h1
    go_wp2
    go_ret
    exact ⟨⟨true, rfl, by simpa using H1.out⟩, HB.out⟩
  · have H1 := hide (And.intro h0 h2)
    clear h0 h1 h2
    go_wp2
    go_ret
    exact ⟨⟨false, rfl, by simp only [Bool.false_eq_true, false_iff]; exact fun e => H1.out.2 (e k H1.out.1)⟩, HB.out⟩

end Go.Proofs.YtdpmjaelbjjanaaGreat

namespace Go.Proofs.YtdpmjaelbjjanaaGreat
open Go.RowKit Go.Maps
set_option linter.unusedVariables false
set_option linter.unusedSimpArgs false
attribute [local go_sem ↓] Go.wp_at_zero Go.wp_at_succ

theorem fl2_flat (l : List (Int × Int)) : fl2 l = Wf.flat Wf.eM l := by
  induction l with
  | nil => rfl
  | cons a r ih => rw [fl2, ih]; rfl
/-- The document's merges as a row of its own. -/
theorem row_of_rt {vb : Value} {tx : List ByteArray} {mg : List (Int × Int)} {w : World} {ao : Option Addr} {cap B : Nat} (h : RT vb (.slice ao mg.length cap) tx mg w) (hB : ∀ q, (Value.slice ao mg.length cap).ownBlock = some q → B ≤ q) : Wf.Row B 77 2 Wf.eM ao mg.length cap mg w := by
  refine ⟨rfl, ?_⟩
  rw [← fl2_flat]
  refine ⟨h.rm.1, ?_⟩
  rcases h.rm.2 with h1 | ⟨g, c, cur, h1, h2, h3⟩
  · exact Or.inl h1
  · exact Or.inr ⟨g, c, cur, h1, hB g (by rw [h1]; rfl), h3⟩

/-- Where Some stands: the result's box r, the spec's box q, and what is in it. -/
structure SmI (w : World) (r q : Nat) (y : Wf.Sv) (s : Wf.Sp) (W : World) : Prop where
  bel : Below w.heap.size w W
  res : W.heap[r]? = some (.cells #[.bool false, .slice none 0 0, .slice none 0 0, .slice none 0 0, .slice none 0 0, .slice none 0 0] 81 (0, 0))
  box : W.heap[q]? = some (.cells y.cs 81 (0, 0))
  hr : w.heap.size ≤ r
  hq : w.heap.size ≤ q
  ne : r ≠ q
  rows : Wf.SpRw w.heap.size y s W
section
variable {w : World} {r q : Nat} {y : Wf.Sv} {s : Wf.Sp} {W W' : World}
theorem SmI.ltr (h : SmI w r q y s W) : r < W.heap.size := (Array.getElem?_eq_some_iff.1 h.res).1
theorem SmI.ltq (h : SmI w r q y s W) : q < W.heap.size := (Array.getElem?_eq_some_iff.1 h.box).1
theorem SmI.low (h : SmI w r q y s W) (hb : Below W.heap.size W W') : SmI w r q y s W' :=
  ⟨h.bel.trans (hb.mono h.bel.size), by rw [hb.block _ h.ltr]; exact h.res, by rw [hb.block _ h.ltq]; exact h.box, h.hr, h.hq, h.ne, h.rows.low hb⟩
theorem SmI.cell (h : SmI w r q y s W) (j : Nat) : W.cell? ⟨q, j, none⟩ = y.cs[j]? := Lib.cell_of_heap h.box j
theorem SmI.free (h : SmI w r q y s W) (j : Nat) : W.frozen? ⟨q, j, none⟩ = false := Lib.frozen_of_heap h.box j
theorem SmI.hres (h : SmI w r q y s W) {b : Nat} {l : List Value} {E : TypeId} {ao : Option Addr} {n cap k : Nat} (ho : W.ownsRow w.heap.size E k (.slice ao n cap) n l) (hE : 81 ≠ E) (hb : b = r ∨ b = q) : some b ≠ (Value.slice ao n cap).ownBlock := by
  intro e
  obtain ⟨c, f, h1⟩ := Lib.ownsRow_kind ho b e.symm
  rcases hb with rfl | rfl
  · rw [h.res] at h1
    simp only [Option.some.injEq, Obj.cells.injEq] at h1
    exact hE h1.2.1
  · rw [h.box] at h1
    simp only [Option.some.injEq, Obj.cells.injEq] at h1
    exact hE h1.2.1
/-- A class more. -/
theorem SmI.addC {g cap : Nat} (m : Int × Int × Int) (h : SmI w r q y s W) (hg : W.grownBy W' (Value.slice y.a4 y.n4 y.c4).ownBlock) (hown : W'.ownsRow w.heap.size 130 3 (.slice (some ⟨g, 0, none⟩) (y.n4 + 1) cap) (y.n4 + 1) (Wf.flat Wf.eC s.classes ++ Wf.eC m)) :
    SmI w r q { y with a4 := some ⟨g, 0, none⟩, n4 := y.n4 + 1, c4 := cap } { s with classes := s.classes ++ [m] } (W'.setCell ⟨q, 4, none⟩ (.slice (some ⟨g, 0, none⟩) (y.n4 + 1 : Nat) cap)) := by
  have hr4 : some r ≠ (Value.slice y.a4 y.n4 y.c4).ownBlock := h.hres h.rows.m4.own (by decide) (Or.inl rfl)
  have hq4 : some q ≠ (Value.slice y.a4 y.n4 y.c4).ownBlock := h.hres h.rows.m4.own (by decide) (Or.inr rfl)
  have hblk : W'.heap[q]? = some (.cells y.cs 81 (0, 0)) := by rw [hg.block q h.ltq hq4]; exact h.box
  have hres : W'.heap[r]? = some (.cells #[.bool false, .slice none 0 0, .slice none 0 0, .slice none 0 0, .slice none 0 0, .slice none 0 0] 81 (0, 0)) := by rw [hg.block r h.ltr hr4]; exact h.res
  refine ⟨(h.bel.grown hg h.bel.size (fun k hk => (h.rows.m4.own.lt k hk).1)).setCell (p := ⟨q, 4, none⟩) h.hq _, ?_, Wf.set_block hblk 4 _, h.hr, h.hq, h.ne, h.rows.r, (h.rows.m1.past h.rows.m4 (by decide) hg).set hblk (by decide) _ _, (h.rows.m2.past h.rows.m4 (by decide) hg).set hblk (by decide) _ _, (h.rows.m3.past h.rows.m4 (by decide) hg).set hblk (by decide) _ _, (⟨by simp [h.rows.m4.len], by rw [Wf.flat_snoc]; exact hown⟩ : Wf.Row w.heap.size 130 3 Wf.eC (some ⟨g, 0, none⟩) (y.n4 + 1) cap (s.classes ++ [m]) W').set hblk (by decide) _ _, (h.rows.m5.past h.rows.m4 (by decide) hg).set hblk (by decide) _ _⟩
  rw [heap_setCell_other W' ⟨q, 4, none⟩ r _ h.ne]
  exact hres
/-- A join more. -/
theorem SmI.addJ {g cap : Nat} (m : Int × Int) (h : SmI w r q y s W) (hg : W.grownBy W' (Value.slice y.a5 y.n5 y.c5).ownBlock) (hown : W'.ownsRow w.heap.size 95 2 (.slice (some ⟨g, 0, none⟩) (y.n5 + 1) cap) (y.n5 + 1) (Wf.flat Wf.eM s.joins ++ Wf.eM m)) :
    SmI w r q { y with a5 := some ⟨g, 0, none⟩, n5 := y.n5 + 1, c5 := cap } { s with joins := s.joins ++ [m] } (W'.setCell ⟨q, 5, none⟩ (.slice (some ⟨g, 0, none⟩) (y.n5 + 1 : Nat) cap)) := by
  have hr4 : some r ≠ (Value.slice y.a5 y.n5 y.c5).ownBlock := h.hres h.rows.m5.own (by decide) (Or.inl rfl)
  have hq4 : some q ≠ (Value.slice y.a5 y.n5 y.c5).ownBlock := h.hres h.rows.m5.own (by decide) (Or.inr rfl)
  have hblk : W'.heap[q]? = some (.cells y.cs 81 (0, 0)) := by rw [hg.block q h.ltq hq4]; exact h.box
  have hres : W'.heap[r]? = some (.cells #[.bool false, .slice none 0 0, .slice none 0 0, .slice none 0 0, .slice none 0 0, .slice none 0 0] 81 (0, 0)) := by rw [hg.block r h.ltr hr4]; exact h.res
  refine ⟨(h.bel.grown hg h.bel.size (fun k hk => (h.rows.m5.own.lt k hk).1)).setCell (p := ⟨q, 5, none⟩) h.hq _, ?_, Wf.set_block hblk 5 _, h.hr, h.hq, h.ne, h.rows.r, (h.rows.m1.past h.rows.m5 (by decide) hg).set hblk (by decide) _ _, (h.rows.m2.past h.rows.m5 (by decide) hg).set hblk (by decide) _ _, (h.rows.m3.past h.rows.m5 (by decide) hg).set hblk (by decide) _ _, (h.rows.m4.past h.rows.m5 (by decide) hg).set hblk (by decide) _ _, (⟨by simp [h.rows.m5.len], by rw [Wf.flat_snoc]; exact hown⟩ : Wf.Row w.heap.size 95 2 Wf.eM (some ⟨g, 0, none⟩) (y.n5 + 1) cap (s.joins ++ [m]) W').set hblk (by decide) _ _⟩
  rw [heap_setCell_other W' ⟨q, 5, none⟩ r _ h.ne]
  exact hres
end

end Go.Proofs.YtdpmjaelbjjanaaGreat

namespace Go.Proofs.YtdpmjaelbjjanaaGreat
open Go.RowKit Go.Maps
set_option linter.unusedVariables false
set_option linter.unusedSimpArgs false

theorem flatS_append (l m : List (Int × ByteArray)) : Wf.flat Wf.eS (l ++ m) = Wf.flat Wf.eS l ++ Wf.flat Wf.eS m := by simp [Wf.flat]
theorem appS_nil (w : World) (e c : Nat) : (Builtin.append_ #[25, 25] 25 #[.slice (some ⟨e, 0, none⟩) 0 0, .slice none 0 c]).run Tryz.prog w = .ok (.slice (some ⟨e, 0, none⟩) 0 0) w := by
  obtain ⟨i0, hi, hz0, hz1, hz2⟩ := info_parts Wf.info_S
  simp [Builtin.append_, run_underlying Tryz.underlying25, Builtin.lenOf, Builtin.firstCells, Result.andThen]
  simp [storeCells, Result.andThen]
/-- Special tokens are put behind others: a row of its own comes. -/
theorem app_sp (w : World) (B : Nat) (ao : Option Addr) (n cap : Nat) (l : List (Int × ByteArray)) (h : w.ownsRow B 79 2 (.slice ao n cap) n (Wf.flat Wf.eS l)) (hB : B ≤ w.heap.size) (a : Addr) (m c : Nat) (L : List (Int × ByteArray)) (hR : Wf.RdS w (some a) m L) (hn : n ≤ 1000) (hm : m ≤ 1000) :
    ∃ a1 c1 w1, (Builtin.append_ #[25, 25] 25 #[.slice ao n cap, .slice (some a) m c]).run Tryz.prog w = .ok (.slice a1 (n + m) c1) w1 ∧ w1.ownsRow B 79 2 (.slice a1 (n + m) c1) (n + m) (Wf.flat Wf.eS (l ++ L)) ∧ w.grownBy w1 (Value.slice ao n cap).ownBlock := by
  obtain ⟨i0, hi, hz0, hz1, hz2⟩ := info_parts Wf.info_S
  have hnews : ∀ (j : Nat) (u : Value), (Wf.flat Wf.eS L)[j]? = some u → w.cell? (Addr.add a j) = some u := by
    rcases hR.2 with h0 | ⟨b, off, e, hlt, hcc⟩
    · obtain rfl : L = [] := List.eq_nil_of_length_eq_zero (hR.1.trans h0)
      intro j u hj
      simp [Wf.flat] at hj
    · simp only [Option.some.injEq] at e
      subst e
      refine Wf.flat_news Wf.eS 2 (fun _ => rfl) (by omega) L (0, ⟨#[]⟩) w b off (fun i j hi hj => ?_)
      have hci := hcc i (by rw [← hR.1]; exact hi)
      rcases (show j = 0 ∨ j = 1 by omega) with rfl | rfl
      · exact hci.1
      · exact hci.2
  obtain ⟨v', w1, hrun, hown, hgrow, -, -⟩ := run_append_own_at (P := Tryz.prog) w B 25 25 79 i0 _ 2 24 Tryz.underlying25 hi hz0 hz1 hz2 rfl (by omega) (.slice ao n cap) n (Wf.flat Wf.eS l) h a m c (Wf.flat Wf.eS L) (by rw [Wf.flat_len Wf.eS 2 (fun _ => rfl), hR.1]) hnews (Wf.flat_one Wf.eS Wf.one_S L) (by unfold maxLen; omega) (by omega) hB
  have hv : ∃ a1 c1, v' = .slice a1 (n + m) c1 := by
    rcases hown.2 with ⟨rfl, h0⟩ | ⟨g, c, cur, rfl, _⟩
    · exact ⟨none, 0, by rw [h0]⟩
    · exact ⟨_, c, rfl⟩
  obtain ⟨a1, c1, rfl⟩ := hv
  exact ⟨a1, c1, w1, hrun, by rw [flatS_append]; exact hown, hgrow⟩
theorem step_appS {w : World} {ops : Array Oper} {o : Oper} {a : Act} {K : Act → World → Prop} {Q : Exit → Act → World → Prop} {E : Prop} (hgd : o.guard = none) (s x : Operand)
    (ho : o.op = .call { callee := .builtin .append, args := #[s, x], argTypes := #[25, 25] }) (hty : o.type = 25)
    (B : Nat) (ao : Option Addr) (n cap : Nat) (l : List (Int × ByteArray)) (hs : a.eval s = .slice ao n cap) (hown : w.ownsRow B 79 2 (.slice ao n cap) n (Wf.flat Wf.eS l)) (hB : B ≤ w.heap.size) (ad : Addr) (m c : Nat) (L : List (Int × ByteArray)) (hx : a.eval x = .slice (some ad) m c) (hR : Wf.RdS w (some ad) m L) (hn : n ≤ 1000) (hm : m ≤ 1000) (N : Nat) (hN : n + m = N)
    (h : ∀ a1 c1 w1, w1.ownsRow B 79 2 (.slice a1 N c1) N (Wf.flat Wf.eS (l ++ L)) → w.grownBy w1 (Value.slice ao n cap).ownBlock → K (a.put o.dst (.slice a1 N c1)) w1) :
    if Region.wanted o (yielded ops a.tmps) = true then Oper.wp Tryz.prog o a w K Q else E := by
  have hw : Region.wanted o (yielded ops a.tmps) = true := by simp [Region.wanted, hgd]
  rw [if_pos hw]
  subst hN
  obtain ⟨a1, c1, w1, hr, h1, h2⟩ := app_sp w B ao n cap l hown hB ad m c L hR hn hm
  exact Lib.wp_append_run w s x _ _ ho _ _ hs hx _ w1 (by rw [hty]; exact hr) (h a1 c1 w1 h1 h2)
theorem step_appN {w : World} {ops : Array Oper} {o : Oper} {a : Act} {K : Act → World → Prop} {Q : Exit → Act → World → Prop} {E : Prop} (hgd : o.guard = none) (s x : Operand)
    (ho : o.op = .call { callee := .builtin .append, args := #[s, x], argTypes := #[25, 25] }) (hty : o.type = 25)
    (e c : Nat) (hs : a.eval s = .slice (some ⟨e, 0, none⟩) 0 0) (hx : a.eval x = .slice none 0 c) (h : K (a.put o.dst (.slice (some ⟨e, 0, none⟩) 0 0)) w) :
    if Region.wanted o (yielded ops a.tmps) = true then Oper.wp Tryz.prog o a w K Q else E := by
  have hw : Region.wanted o (yielded ops a.tmps) = true := by simp [Region.wanted, hgd]
  rw [if_pos hw]
  exact Lib.wp_append_run w s x _ _ ho _ _ hs hx _ w (by rw [hty]; exact appS_nil w e c) h
theorem rdS_new (w : World) (id : Int) (t : ByteArray) : Wf.RdS (w.alloc (.cells #[.int .i64 id, .string t] 79)) (some ⟨w.heap.size, 0, none⟩) 1 [(id, t)] := by
  refine ⟨rfl, Or.inr ⟨_, _, rfl, by simp, fun i hi => ?_⟩⟩
  obtain rfl : i = 0 := by omega
  constructor <;> simp [Wf.gS]
theorem rowE_new (w : World) (B : Nat) (hB : B ≤ w.heap.size) : (w.alloc (.cells #[] 79)).ownsRow B 79 2 (.slice (some ⟨w.heap.size, 0, none⟩) 0 0) 0 (Wf.flat Wf.eS []) := World.ownsRow_made w #[] 0 hB (Nat.zero_le _) rfl
theorem rdS_at (w : World) (id : Int) (t : ByteArray) (e : Nat) (he : e = w.heap.size) : Wf.RdS (w.alloc (.cells #[.int .i64 id, .string t] 79)) (some ⟨e, 0, none⟩) 1 [(id, t)] := by subst he; exact rdS_new w id t
theorem rowE_at (w : World) (B e : Nat) (hB : B ≤ w.heap.size) (he : e = w.heap.size) : (w.alloc (.cells #[] 79)).ownsRow B 79 2 (.slice (some ⟨e, 0, none⟩) 0 0) 0 (Wf.flat Wf.eS []) := by subst he; exact rowE_new w B hB
theorem rdS_grown {w w' : World} {row : Option Nat} {b off n : Nat} {L : List (Int × ByteArray)} (h : Wf.RdS w (some ⟨b, off, none⟩) n L) (hg : w.grownBy w' row) (hb : some b ≠ row) (hl : b < w.heap.size) : Wf.RdS w' (some ⟨b, off, none⟩) n L := by
  refine ⟨h.1, ?_⟩
  rcases h.2 with h0 | ⟨b2, off2, e, hlt, hc⟩
  · exact Or.inl h0
  · simp only [Option.some.injEq, Addr.mk.injEq, and_true] at e
    obtain ⟨rfl, rfl⟩ := e
    have hcell : ∀ o, w'.cell? ⟨b, o, none⟩ = w.cell? ⟨b, o, none⟩ := fun o => by
      have := hg.block b hl hb
      simp only [World.cell?, this]
    exact Or.inr ⟨b, off, rfl, Nat.lt_of_lt_of_le hlt hg.size, fun i hi => ⟨(hcell _).trans (hc i hi).1, (hcell _).trans (hc i hi).2⟩⟩
/-- The list of special tokens is set. -/
theorem SmI.setS {w : World} {r q : Nat} {y : Wf.Sv} {s : Wf.Sp} {W : World} (h : SmI w r q y s W) {a1 : Option Addr} {n1 c1 : Nat} {L : List (Int × ByteArray)} (hrow : Wf.Row w.heap.size 79 2 Wf.eS a1 n1 c1 L W) :
    SmI w r q { y with a3 := a1, n3 := n1, c3 := c1 } { s with specials := L } (W.setCell ⟨q, 3, none⟩ (.slice a1 n1 c1)) := by
  refine ⟨h.bel.setCell (p := ⟨q, 3, none⟩) h.hq _, ?_, Wf.set_block h.box 3 _, h.hr, h.hq, h.ne, h.rows.r, h.rows.m1.set h.box (by decide) _ _, h.rows.m2.set h.box (by decide) _ _, hrow.set h.box (by decide) _ _, h.rows.m4.set h.box (by decide) _ _, h.rows.m5.set h.box (by decide) _ _⟩
  rw [heap_setCell_other W ⟨q, 3, none⟩ r _ h.ne]
  exact h.res
end Go.Proofs.YtdpmjaelbjjanaaGreat
