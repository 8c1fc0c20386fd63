/- The document's Encode of a vocabulary. Made by mkeb.py. -/
import Derived.Test.YtdpmjaelbjjanaaGreatZQa35
import Derived.Test.YtdpmjaelbjjanaaGreatZQa40
import Derived.Test.YtdpmjaelbjjanaaGreatZQa26
import Derived.Test.YtdpmjaelbjjanaaGreatZQa24
import Derived.Deep.RegionHeld3
namespace Go.Proofs.YtdpmjaelbjjanaaGreat
open Go.RowKit Go.Maps
set_option linter.unusedVariables false
set_option linter.unusedSimpArgs false
attribute [local go_sem ↓] Go.wp_at_zero Go.wp_at_succ

theorem step_append_e {P : Program} {w : World} {ops : Array Oper} {o : Oper} {a : Act} {K : Act → World → Prop} {Q : Exit → Act → World → Prop} {E : Prop} (hgd : o.guard = none) (s x : Operand) (t tn : TypeId)
    (ho : o.op = .call { callee := .builtin .append, args := #[s, x], argTypes := #[t, tn] }) (vs vx : Value) (hs : a.eval s = vs) (hx : a.eval x = vx)
    (v' : Value) (w' : World) (hr : (Builtin.append_ #[t, tn] o.type #[vs, vx]).run P w = .ok v' w') (h : K (a.put o.dst v') w') :
    if Region.wanted o (yielded ops a.tmps) = true then Oper.wp P o a w K Q else E := by
  have hw : Region.wanted o (yielded ops a.tmps) = true := by simp [Region.wanted, hgd]
  rw [if_pos hw]
  exact Lib.wp_append_run w s x t tn ho vs vx hs hx v' w' hr h
theorem below_de {w : World} : Below w.heap.size w w.drew := ⟨rfl, rfl, rfl, Nat.le_refl _, fun k _ => rfl⟩
theorem ownsRow_le {W : World} {B B' k : Nat} {E : TypeId} {v : Value} {n : Nat} {xs : List Value} (h : W.ownsRow B E k v n xs) (hb : B' ≤ B) : W.ownsRow B' E k v n xs :=
  ⟨h.1, h.2.imp id (fun ⟨g, cap, cur, a, b, c⟩ => ⟨g, cap, cur, a, Nat.le_trans hb b, c⟩)⟩
/-- The document's vocabulary in a box, whole. -/
structure EnD (q : Nat) (vb vm : Value) (tx : List ByteArray) (mg : List (Int × Int)) (a4 : Option Addr) (n4 c4 : Nat) (C : List (Int × Int × Int)) (a5 : Option Addr) (n5 c5 : Nat) (J : List (Int × Int)) (ao : Option Addr) (n cap : Nat) (L : List (Int × ByteArray)) (ai : Option Addr) (ni : Nat) (I : List Int) (W : World) : Prop where
  rt : RT vb vm tx mg W
  rc : Wf.Bq.RdC W a4 n4 C
  rj : Wf.Bq.RdJ W a5 n5 J
  rd : Mk.RdS W ao n L
  ri : Mk.RdI W ai ni I
  box : W.heap[q]? = some (.cells #[vb, vm, .slice a4 n4 c4, .slice a5 n5 c5, .slice ao n cap] 38 (0, 0))
section
variable {q : Nat} {vb vm : Value} {tx : List ByteArray} {mg : List (Int × Int)} {a4 : Option Addr} {n4 c4 : Nat} {C : List (Int × Int × Int)} {a5 : Option Addr} {n5 c5 : Nat} {J : List (Int × Int)} {ao : Option Addr} {n cap : Nat} {L : List (Int × ByteArray)} {ai : Option Addr} {ni : Nat} {I : List Int} {W W' : World}
theorem EnD.next (h : EnD q vb vm tx mg a4 n4 c4 C a5 n5 c5 J ao n cap L ai ni I W) (hb : Below W.heap.size W W') : EnD q vb vm tx mg a4 n4 c4 C a5 n5 c5 J ao n cap L ai ni I W' :=
  ⟨h.rt.kept hb, h.rc.kept hb, h.rj.kept hb, h.rd.kept hb, h.ri.kept hb, by rw [hb.block _ (Array.getElem?_eq_some_iff.1 h.box).1]; exact h.box⟩
theorem EnD.lt (h : EnD q vb vm tx mg a4 n4 c4 C a5 n5 c5 J ao n cap L ai ni I W) : q < W.heap.size := (Array.getElem?_eq_some_iff.1 h.box).1
end
/-- Where the outer loop stands: what is made, and the run that is open. -/
structure EnV (w1 : World) (A : List Int) (N : Nat) (va : Value) (run : List UInt8) (nr : Nat) (vr : Value) (W : World) : Prop where
  bel : Below w1.heap.size w1 W
  out : W.ownsRow w1.heap.size 3 1 va N (Mk.iv A)
  row : W.ownsRow w1.heap.size 5 1 vr nr (Lib.byteCells run)
  ap : Apart va vr
  la : N = A.length
  lr : nr = run.length
/-- Where the inner loop stands: what is made, and the pieces. -/
structure EnW (w1 : World) (A : List Int) (N : Nat) (va : Value) (np : Nat) (vp : Value) (P : List (List UInt8)) (W : World) : Prop where
  bel : Below w1.heap.size w1 W
  out : W.ownsRow w1.heap.size 3 1 va N (Mk.iv A)
  row : W.ownsRow w1.heap.size 9 1 vp np (Wf.tv P)
  ap : Apart va vp
  la : N = A.length
theorem EnW.more {w1 : World} {A : List Int} {N : Nat} {a2 : Option Addr} {c2 np : Nat} {vp : Value} {P : List (List UInt8)} {W W1 : World} (h : EnW w1 A N (.slice a2 N c2) np vp P W) (hb : Below W.heap.size W W1) {B2 n2 ce : Nat} {ae : Option Addr} {l2 : List Int} (hv : W1.ownsRow B2 3 1 (.slice ae n2 ce) n2 (Mk.iv l2)) (hl : n2 = l2.length) (h0 : 0 < n2) (hN : N ≤ 50000) (hn2 : n2 ≤ 100000) :
    ∃ g cap w3, (Builtin.append_ #[41, 41] 41 #[.slice a2 N c2, .slice ae n2 ce]).run Tryz.prog W1 = .ok (.slice (some ⟨g, 0, none⟩) (N + n2) cap) w3 ∧ EnW w1 (A ++ l2) (N + n2) (.slice (some ⟨g, 0, none⟩) (N + n2) cap) np vp P w3 := by
  have hbs := h.bel.trans (hb.mono h.bel.size)
  obtain ⟨g, cap3, w3, hrun, hown, hrow, hap, hb3⟩ := app_numsE W1 w1.heap.size B2 a2 ae N n2 c2 ce np vp A l2 (Wf.tv P) (row_keptB h.out hb) hv (row_keptB h.row hb) h.ap (by omega) (by omega) h0 hbs.size
  exact ⟨g, cap3, w3, hrun, hbs.trans hb3, hown, hrow, hap, by rw [List.length_append, ← h.la, ← hl]⟩
/-- What is made so far, and what is made of the rest. -/
def EnP (q : Int → Int → Bool) (mg : List (Int × Int)) (bl : Int) (L : List (Int × ByteArray)) (I : List Int) (k : Nat) (A : List Int) (run : List UInt8) : Prop :=
  (k ≤ I.length ∧ A ++ encF q mg bl L run (I.drop k) = encF q mg bl L [] I) ∨ (k = I.length + 1 ∧ A = encF q mg bl L [] I)
section
variable {q : Int → Int → Bool} {mg : List (Int × Int)} {bl : Int} {L : List (Int × ByteArray)} {I : List Int} {k : Nat} {A : List Int} {run : List UInt8}
theorem EnP.byte (h : EnP q mg bl L I k A run) (hk : k < I.length) (hx : 0 ≤ Mk.gI I k) : EnP q mg bl L I (k + 1) A (run ++ [u8E (Mk.gI I k)]) := by
  rcases h with ⟨_, h⟩ | ⟨h, _⟩
  · refine Or.inl ⟨hk, ?_⟩
    have e : Mk.gI I k = I[k] := by simp [Mk.gI, hk]
    rw [List.drop_eq_getElem_cons hk, encF, if_pos (by rw [← e]; exact hx)] at h
    rw [e]
    exact h
  · omega
theorem EnP.mark (h : EnP q mg bl L I k A run) (hk : k < I.length) (hx : Mk.gI I k < 0) : EnP q mg bl L I (k + 1) (A ++ pcE q mg bl run ++ [idE L (Mk.gI I k)]) [] := by
  rcases h with ⟨_, h⟩ | ⟨h, _⟩
  · refine Or.inl ⟨hk, ?_⟩
    have e : Mk.gI I k = I[k] := by simp [Mk.gI, hk]
    rw [List.drop_eq_getElem_cons hk, encF, if_neg (by rw [← e]; omega)] at h
    rw [e, ← h]
    simp
  · omega
theorem EnP.last (h : EnP q mg bl L I k A run) (hk : k = I.length) : EnP q mg bl L I (k + 1) (A ++ pcE q mg bl run) [] := by
  rcases h with ⟨_, h⟩ | ⟨h, _⟩
  · subst hk
    rw [List.drop_length, encF] at h
    exact Or.inr ⟨rfl, h⟩
  · omega
theorem EnP.len (h : EnP q mg bl L I k A run) : A.length ≤ (encF q mg bl L [] I).length := by
  rcases h with ⟨_, h⟩ | ⟨_, h⟩
  · rw [← h, List.length_append]; omega
  · rw [h]; exact Nat.le_refl _
end
theorem flat_take {P : List (List UInt8)} {f : List UInt8 → List Int} {j : Nat} (hj : j < P.length) : (P.take (j + 1)).flatMap f = (P.take j).flatMap f ++ f P[j] := by
  rw [← List.take_append_getElem hj, List.flatMap_append]
  simp
theorem encF_len (q : Int → Int → Bool) (mg : List (Int × Int)) (bl : Int) (L : List (Int × ByteArray)) {I : List Int} (h : ∀ x ∈ I, x < 256) : (encF q mg bl L [] I).length ≤ I.length := by
  rw [encF_eq q mg bl L I [] h]
  have h2 : ∀ l : List (List Int), (∀ p ∈ l, p ≠ []) → (l.flatMap (mk1E mg bl L)).length ≤ l.flatten.length := fun l => by
    induction l with
    | nil => intro _; simp
    | cons p r ih =>
      intro hp
      have h1 := ih (fun x hx => hp x (List.mem_cons_of_mem _ hx))
      have h3 : (mk1E mg bl L p).length ≤ p.length := by
        unfold mk1E
        split
        · have h4 := List.length_pos_iff.2 (hp p (by simp))
          simp only [List.length_singleton]
          omega
        · have h4 := made_len mg bl (bsE p)
          have h5 : (bsE p).size = p.length := by simp [bsE, ByteArray.size]
          omega
      simp only [List.flatMap_cons, List.length_append, List.flatten_cons]
      omega
  have h3 := h2 _ (rns_ne (c := icE q) (itE [] ++ I))
  rw [rns_flat] at h3
  simpa [encG, itE] using h3

theorem pcs_ne {q : Int → Int → Bool} {run : List UInt8} {p : List UInt8} (h : p ∈ Wf.Bq.pcs q run) : p ≠ [] := by
  rw [pcs_rns] at h
  exact rns_ne _ _ h
theorem pcs_le {q : Int → Int → Bool} {run : List UInt8} {p : List UInt8} (h : p ∈ Wf.Bq.pcs q run) : p.length ≤ run.length := by
  have h2 : p.length ≤ (Wf.Bq.pcs q run).flatten.length := (List.sublist_flatten_of_mem h).length_le
  rwa [pcs_rns, rns_flat] at h2
theorem flat_cnt {α : Type} : ∀ l : List (List α), (∀ p ∈ l, p ≠ []) → l.length ≤ l.flatten.length
  | [], _ => by simp
  | p :: r, hp => by
    have h1 := flat_cnt r (fun x hx => hp x (List.mem_cons_of_mem _ hx))
    have h2 := List.length_pos_iff.2 (hp p (by simp))
    simp only [List.length_cons, List.flatten_cons, List.length_append]
    omega
theorem pcs_cnt (q : Int → Int → Bool) (run : List UInt8) : (Wf.Bq.pcs q run).length ≤ run.length := by
  have h := flat_cnt (Wf.Bq.pcs q run) (fun p hp => pcs_ne hp)
  rwa [pcs_rns, rns_flat, ← pcs_rns] at h

set_option maxRecDepth 20000 in
set_option maxHeartbeats 16000000 in
theorem rencode10_any {vb vm : Value} {tx : List ByteArray} {mg : List (Int × Int)} {a4 : Option Addr} {n4 c4 : Nat} {C : List (Int × Int × Int)} {a5 : Option Addr} {n5 c5 : Nat} {J : List (Int × Int)} {ao : Option Addr} {n cap : Nat} {L : List (Int × ByteArray)} {ai : Option Addr} {ni ci : Nat} {I : List Int} {w : World}
    (hT : RT vb vm tx mg w) (hk : Tok tx mg) (hC : Wf.Bq.RdC w a4 n4 C) (hJ : Wf.Bq.RdJ w a5 n5 J) (h : Mk.RdS w ao n L) (hI : Mk.RdI w ai ni I) (hn4 : n4 ≤ 1000000) (hn5 : n5 ≤ 1000000) (hn : n ≤ 1000000) (hni : ni ≤ 50000) (hok : ∀ j, j < ni → Mk.gI I j < 256 ∧ -(L.length : Int) ≤ Mk.gI I j) :
    Calls Tryz.prog 57 #[.agg #[vb, vm, .slice a4 n4 c4, .slice a5 n5 c5, .slice ao n cap], .slice ai ni ci] w fun e w' => (∃ a2 c2, e = .returned (.slice a2 (encF (Wf.Bq.cutP C J) mg tx.length L [] I).length c2) ∧ w'.ownsRow w.heap.size 3 1 (.slice a2 (encF (Wf.Bq.cutP C J) mg tx.length L [] I).length c2) (encF (Wf.Bq.cutP C J) mg tx.length L [] I).length (Mk.iv (encF (Wf.Bq.cutP C J) mg tx.length L [] I))) ∧ Below w.heap.size w w' := by
  obtain ⟨aB, cB, rfl⟩ := row_form hT.rb
  obtain ⟨aM, cM, rfl⟩ := row_form hT.rm
  have hl1 := Mk.low1 w (.cells #[.slice aB tx.length cB, .slice aM mg.length cM, .slice a4 n4 c4, .slice a5 n5 c5, .slice ao n cap] 38)
  have HM : Hid (EnD w.heap.size (.slice aB tx.length cB) (.slice aM mg.length cM) tx mg a4 n4 c4 C a5 n5 c5 J ao n cap L ai ni I (w.alloc (.cells #[.slice aB tx.length cB, .slice aM mg.length cM, .slice a4 n4 c4, .slice a5 n5 c5, .slice ao n cap] 38))) := hide ⟨hT.kept hl1, hC.kept hl1, hJ.kept hl1, h.kept hl1, hI.kept hl1, heap_alloc_new w _⟩
  have HIL := hide hI.1
  have HLL := hide h.1
  have HOK := hide hok
  have HK := hide hk
  have hml : mg.length ≤ 1000 := by have h1 := hk.cap; have h2 := hk.len; omega
  have htl : tx.length ≤ 2000 := by have h1 := hk.cap; omega
  have HBD := hide (And.intro hml htl)
  have HTL : Hid ((encF (Wf.Bq.cutP C J) mg tx.length L [] I).length ≤ ni) := hide (by
    have h1 := encF_len (Wf.Bq.cutP C J) mg tx.length L (I := I) (fun x hx => by
      obtain ⟨j, hj, rfl⟩ := List.mem_iff_getElem.1 hx
      have := (hok j (by rw [← hI.1]; exact hj)).1
      simpa [Mk.gI, hj] using this)
    rw [hI.1] at h1
    exact h1)
  have HL1 := hide hl1
  have HWS : Hid ((w.alloc (.cells #[.slice aB tx.length cB, .slice aM mg.length cM, .slice a4 n4 c4, .slice a5 n5 c5, .slice ao n cap] 38)).heap.size = w.heap.size + 1) := hide (by simp)
  have HV : Hid (EnV (w.alloc (.cells #[.slice aB tx.length cB, .slice aM mg.length cM, .slice a4 n4 c4, .slice a5 n5 c5, .slice ao n cap] 38)) [] 0 (.slice none 0 0) [] 0 (.slice (some ⟨w.heap.size + 1, 0, none⟩) 0 0) ((w.alloc (.cells #[.slice aB tx.length cB, .slice aM mg.length cM, .slice a4 n4 c4, .slice a5 n5 c5, .slice ao n cap] 38)).alloc (.cells #[] 5))) := hide (by
    refine ⟨Mk.low1 _ _, World.ownsRow_nil _ _ _ _, ?_, fun k hk => by simp [Value.ownBlock] at hk, rfl, rfl⟩
    have h2 := World.ownsRow_made (e := 5) (size := 1) (w.alloc (.cells #[.slice aB tx.length cB, .slice aM mg.length cM, .slice a4 n4 c4, .slice a5 n5 c5, .slice ao n cap] 38)) #[] 0 (Nat.le_refl _) (Nat.zero_le _) rfl
    simpa [Lib.byteCells] using h2)
  have HP : Hid (EnP (Wf.Bq.cutP C J) mg tx.length L I 0 [] []) := hide (Or.inl ⟨Nat.zero_le _, rfl⟩)
  clear hT hC hJ h hI hok hk hml htl hl1
  go_enter Tryz.func57, Tryz.ntmps57
  go_wp2
  generalize w.alloc (.cells #[.slice aB tx.length cB, .slice aM mg.length cM, .slice a4 n4 c4, .slice a5 n5 c5, .slice ao n cap] 38) = w1 at *
  generalize w1.alloc (.cells #[] 5) = w2 at *
  generalize hq : w.heap.size = q at *
  have HQ := hide hq
  clear hq
  go_loopw [5, 6, 7] (fun a r i wr => ∃ (k N nr : Nat) (a5' a6' : Option Addr) (c5' c6' : Nat) (A : List Int) (run : List UInt8), a = .slice a5' N c5' ∧ r = .slice a6' nr c6' ∧ i = .int .i64 k ∧ k ≤ ni + 1 ∧ nr ≤ k ∧ Hid (EnP (Wf.Bq.cutP C J) mg tx.length L I k A run) ∧ Hid (EnV w1 A N (.slice a5' N c5') run nr (.slice a6' nr c6') wr)) (fun _ _ i _ => ni + 1 - (intOf i).toNat)
  case atStart => exact ⟨0, 0, 0, none, _, 0, 0, [], [], rfl, rfl, rfl, by omega, Nat.le_refl _, HP, HV⟩
  case round =>
    obtain ⟨k, N, nr, a8, a9, c8, c9, A, run, rfl, rfl, rfl, hk, hnr, HP2, HV2⟩ := hrel
    clear HV HP
    by_cases hle : k ≤ ni
    · have hle0 : (k : Int) ≤ (ni : Int) := by omega
      have hk0 : (0 : Int) ≤ (k : Int) := by omega
      have HD := hide (HM.out.next HV2.out.bel)
      have hNA := HV2.out.la
      have hNT := HP2.out.len
      have hTn := HTL.out
      have hNb : N ≤ 50000 := by omega
      have HNB := hide hNb
      clear hNA hNT hTn
      by_cases hlt : k < ni
      · have hk1 : (k : Int) < (ni : Int) := by omega
        rcases HM.out.ri.2 with h0 | ⟨b, off, rfl, hbl, hc⟩
        · omega
        have c1 := (HV2.out.bel.cell (p := ⟨b, off + k, none⟩) hbl).trans (hc k hlt)
        have HC0 := hide (hc k hlt)
        have HBL := hide hbl
        have HOKk := hide (HOK.out k hlt)
        by_cases hx : 0 ≤ Mk.gI I k
        · have hPn := HP2.out.byte (by rw [HIL.out]; exact hlt) hx
          have hx1 := HOKk.out.1
          have hcv2 : IntKind.u8.wrap (Mk.gI I k) = Mk.gI I k := by
            rw [IntKind.wrap_u8]
            omega
          obtain ⟨g, cap3, w3, hrun, hown, hout, hap, hb3⟩ := app_byteE wr w1.heap.size a9 nr c9 N (.slice a8 N c8) run (Mk.iv A) (Mk.gI I k) hx hx1 HV2.out.row HV2.out.out HV2.out.ap.symm (by omega) HV2.out.bel.size
          have HRUN := hide hrun
          have HPN := hide hPn
          have HN : Hid (EnV w1 A N (.slice a8 N c8) (run ++ [u8E (Mk.gI I k)]) (nr + 1) (.slice (some ⟨g, 0, none⟩) (nr + 1) cap3) w3) := hide ⟨HV2.out.bel.trans hb3, hout, hown, hap.symm, HV2.out.la, by rw [List.length_append, ← HV2.out.lr]; rfl⟩
          clear hrun hown hout hap hb3 hPn hx1 HV2 HP2 HD HOKk hc hbl
          generalize Mk.gI I k = x at *
          go_wp2_with (at_builtin; refine Lib.wpList_append_run _ rfl _ _ _ _ rfl _ _ rfl rfl _ _ HRUN.out ?_)
          exact ⟨⟨k + 1, N, nr + 1, _, _, _, _, A, _, rfl, rfl, by go_num, by omega, by omega, HPN, HN⟩, by simp [intOf]; omega⟩
        · have hcv := Mk.conv_row wr w1.heap.size a9 nr c9 run HV2.out.row
          have hrl : (⟨run.toArray⟩ : ByteArray).size ≤ 100000 := by
            have h1 := HV2.out.lr
            show run.toArray.size ≤ _
            simp
            omega
          have HPI := hide (Wf.Bq.rpieces_any (c1 := c4) (c2 := c5) HD.out.rc HD.out.rj hn4 hn5 ⟨run.toArray⟩ hrl)
          have d2 := Lib.cell_of_heap HD.out.box 2
          have d3 := Lib.cell_of_heap HD.out.box 3
          have HRL := hide hrl
          clear hrl
          have hx2 : Mk.gI I k < 0 := by omega
          go_wp2_with fail
          refine (unhide HPI).mono ?_
          rintro e w3 ⟨⟨ap, np, cp, rfl, hnp, hpr⟩, hb3⟩
          have HNP : Hid (np = (Wf.Bq.pcs (Wf.Bq.cutP C J) run).length) := hide hnp
          have hpr' : w3.ownsRow wr.heap.size 9 1 (.slice ap np cp) np (Wf.tv (Wf.Bq.pcs (Wf.Bq.cutP C J) run)) := hpr
          have HW0 : Hid (EnW w1 (A ++ ((Wf.Bq.pcs (Wf.Bq.cutP C J) run).take 0).flatMap (fun p => made mg tx.length ⟨p.toArray⟩)) N (.slice a8 N c8) np (.slice ap np cp) (Wf.Bq.pcs (Wf.Bq.cutP C J) run) w3) := hide ⟨HV2.out.bel.trans (hb3.mono HV2.out.bel.size), by simpa using row_keptB HV2.out.out hb3, ownsRow_le hpr' HV2.out.bel.size, fun j h1 h2 => by
            have e1 := (HV2.out.out.lt j h1).2
            have e2 := (hpr'.lt j h2).1
            omega, by simpa using HV2.out.la⟩
          have HPL : Hid (∀ j, j < np → ∃ p, (Wf.Bq.pcs (Wf.Bq.cutP C J) run)[j]? = some p ∧ p ≠ [] ∧ p.length ≤ 100000) := hide (fun j hj => by
            have hj2 : j < (Wf.Bq.pcs (Wf.Bq.cutP C J) run).length := by rw [← HNP.out]; exact hj
            refine ⟨_, List.getElem?_eq_getElem hj2, pcs_ne (List.getElem_mem hj2), ?_⟩
            have h2 := pcs_le (List.getElem_mem hj2)
            have h3 := HRL.out
            have h4 : (⟨run.toArray⟩ : ByteArray).size = run.length := by show run.toArray.size = _; simp
            omega)
          have HPC : Hid (pcE (Wf.Bq.cutP C J) mg tx.length run = ((Wf.Bq.pcs (Wf.Bq.cutP C J) run).take np).flatMap (fun p => made mg tx.length ⟨p.toArray⟩)) := hide (by rw [HNP.out, List.take_length]; rfl)
          have hnp2 : np ≤ 100000 := by
            have h2 := HRL.out
            have h3 := pcs_cnt (Wf.Bq.cutP C J) run
            have h4 : (⟨run.toArray⟩ : ByteArray).size = run.length := by show run.toArray.size = _; simp
            have h5 := HNP.out
            omega
          have HLB : Hid (∀ j, (A ++ ((Wf.Bq.pcs (Wf.Bq.cutP C J) run).take j).flatMap (fun p => made mg tx.length ⟨p.toArray⟩)).length ≤ 50000) := hide (fun j => by
            have h1 : (((Wf.Bq.pcs (Wf.Bq.cutP C J) run).take j).flatMap (fun p => made mg tx.length ⟨p.toArray⟩)).length ≤ (pcE (Wf.Bq.cutP C J) mg tx.length run).length := by
              have e : pcE (Wf.Bq.cutP C J) mg tx.length run = ((Wf.Bq.pcs (Wf.Bq.cutP C J) run).take j).flatMap (fun p => made mg tx.length ⟨p.toArray⟩) ++ ((Wf.Bq.pcs (Wf.Bq.cutP C J) run).drop j).flatMap (fun p => made mg tx.length ⟨p.toArray⟩) := by
                rw [← List.flatMap_append, List.take_append_drop]
                rfl
              rw [e, List.length_append]
              omega
            have h2 := (HP2.out.mark (by rw [HIL.out]; exact hlt) (by omega)).len
            have h3 := HTL.out
            simp only [List.length_append] at h2 ⊢
            omega)
          clear hnp hpr hpr' hb3 HV2 hcv d2 d3 HPI HD HRL
          generalize Wf.Bq.pcs (Wf.Bq.cutP C J) run = P at *
          go_wp2
          go_loopw [5, 9] (fun a i wr => ∃ (j N2 : Nat) (a2 : Option Addr) (c2 : Nat), a = .slice a2 N2 c2 ∧ i = .int .i64 j ∧ j ≤ np ∧ Hid (EnW w1 (A ++ (P.take j).flatMap (fun p => made mg tx.length ⟨p.toArray⟩)) N2 (.slice a2 N2 c2) np (.slice ap np cp) P wr)) (fun _ i _ => np - (intOf i).toNat)
          case atStart => exact ⟨0, N, a8, c8, rfl, rfl, Nat.zero_le _, HW0⟩
          case round =>
            obtain ⟨j, N2, a2, c2, rfl, rfl, hj, HW⟩ := hrel
            clear HW0
            by_cases hjl : j < np
            · have hj0 : (0 : Int) ≤ (j : Int) := by omega
              have hj1 : (j : Int) < (np : Int) := by omega
              obtain ⟨p, hpj, hpne, hpl⟩ := HPL.out j hjl
              have HD := hide (HM.out.next HW.out.bel)
              have e0 : wr.cell? ⟨q, 0, none⟩ = some (.slice aB tx.length cB) := Lib.cell_of_heap HD.out.box 0
              have e1 : wr.cell? ⟨q, 1, none⟩ = some (.slice aM mg.length cM) := Lib.cell_of_heap HD.out.box 1
              have hf := HW.out.row.form (by omega)
              obtain ⟨gp, kp, hv, _, _⟩ := hf
              simp only [Value.slice.injEq] at hv
              obtain ⟨rfl, _, rfl⟩ := hv
              have e2 : wr.cell? ⟨gp, j, none⟩ = some (.string ⟨p.toArray⟩) := by
                rw [HW.out.row.cellAt j (by omega)]
                simp [Wf.tv, hpj]
              have HRA := hide (rall_any wr.drew (HD.out.rt.kept below_de) HBD.out.1 HBD.out.2 ⟨p.toArray⟩ (by show p.toArray.size ≤ _; simpa using hpl))
              have HMP : Hid (0 < (made mg tx.length ⟨p.toArray⟩).length) := hide (List.length_pos_iff.2 (fun e => hpne (by
                have h1 := made_txt HK.out tx.length ⟨p.toArray⟩
                rw [e] at h1
                simpa [txt] using h1.symm)))
              have HML := hide (made_len mg tx.length ⟨p.toArray⟩)
              have HPS : Hid ((⟨p.toArray⟩ : ByteArray).size ≤ 100000) := hide (by show p.toArray.size ≤ _; simpa using hpl)
              have HFT : Hid (A ++ (P.take (j + 1)).flatMap (fun p => made mg tx.length ⟨p.toArray⟩) = A ++ (P.take j).flatMap (fun p => made mg tx.length ⟨p.toArray⟩) ++ made mg tx.length ⟨p.toArray⟩) := hide (by
                have hj2 : j < P.length := by
                  rcases Nat.lt_or_ge j P.length with h | h
                  · exact h
                  · rw [List.getElem?_eq_none h] at hpj
                    cases hpj
                have e : P[j] = p := by rw [List.getElem?_eq_getElem hj2] at hpj; exact Option.some.inj hpj
                rw [flat_take hj2, e, List.append_assoc])
              have HN2 : Hid (N2 ≤ 50000) := hide (by rw [HW.out.la]; exact HLB.out j)
              have HWD : Hid (EnW w1 (A ++ (P.take j).flatMap (fun p => made mg tx.length ⟨p.toArray⟩)) N2 (.slice a2 N2 c2) np (.slice (some ⟨gp, 0, none⟩) np cp) P wr.drew) := hide ⟨HW.out.bel.trans (below_de.mono HW.out.bel.size), row_keptB HW.out.out below_de, row_keptB HW.out.row below_de, HW.out.ap, HW.out.la⟩
              have HQ1 : Hid (q < w1.heap.size) := hide HM.out.lt
              have hpj2 : (Wf.tv P)[j]? = some (.string ⟨p.toArray⟩) := by simp [Wf.tv, hpj]
              have HPJ := hide hpj2
              clear HW hpj hpne hpl hpj2 HD
              generalize (⟨p.toArray⟩ : ByteArray) = t at *
              generalize A ++ (P.take j).flatMap (fun p => made mg tx.length ⟨p.toArray⟩) = A2 at *
              go_wp2
              go_region_held3 (fun W => W.cell? ⟨q, 0, none⟩ = some (.slice aB tx.length cB) ∧ W.cell? ⟨q, 1, none⟩ = some (.slice aM mg.length cM) ∧ W.cell? ⟨gp, j, none⟩ = some (.string t)) (first | exact ⟨e0, e1, e2⟩ | go_keep) (first
                | (go_at_call 55; refine (unhide HRA).mono ?_; rintro e W1 ⟨⟨v, rfl, hv⟩, hb⟩; obtain ⟨ae, ce, hvv⟩ := row_form hv; subst hvv; obtain ⟨g, cap3, w3, hrun, hnw⟩ := HWD.out.more hb hv rfl HMP.out HN2.out (Nat.le_trans HML.out HPS.out); have HRUN := hide hrun; have HNW := hide hnw; replace e0 := (hb.cell (p := ⟨q, 0, none⟩) (World.block_lt_of_cell? wr.drew _ e0)).trans e0; replace e1 := (hb.cell (p := ⟨q, 1, none⟩) (World.block_lt_of_cell? wr.drew _ e1)).trans e1; replace e2 := (hb.cell (p := ⟨gp, j, none⟩) (World.block_lt_of_cell? wr.drew _ e2)).trans e2; clear hrun hnw hv hb)
                | (refine step_append_e (by rfl) _ _ _ _ (by rfl) _ _ (by rfl) (by rfl) _ _ HRUN.out ?_; have e0 : w3.cell? ⟨q, 0, none⟩ = some (.slice aB tx.length cB) := Lib.cell_of_heap (HM.out.next HNW.out.bel).box 0; have e1 : w3.cell? ⟨q, 1, none⟩ = some (.slice aM mg.length cM) := Lib.cell_of_heap (HM.out.next HNW.out.bel).box 1; have e2 : w3.cell? ⟨gp, j, none⟩ = some (.string t) := (HNW.out.row.cellAt j (by omega)).trans HPJ.out) | fail)
              clear HWD HRA HRUN e0 e1 e2
              rw [← HFT.out] at HNW
              go_wp2
              exact ⟨⟨j + 1, _, _, _, rfl, by go_num, by omega, HNW⟩, by simp [intOf]; omega⟩
            · obtain rfl : np = j := by omega
              have HX := hide HW.out
              rw [← HPC.out] at HX
              clear HW HPL HLB HNP
              have HPM := hide (HP2.out.mark (by rw [HIL.out]; exact hlt) (by omega))
              have hxn : Mk.gI I k < 0 := by omega
              obtain ⟨i, hxi, hil⟩ : ∃ i : Nat, Mk.gI I k = -1 - (i : Int) ∧ i < n := ⟨(-1 - Mk.gI I k).toNat, by omega, by have h1 := HOKk.out.2; have h2 := HLL.out; omega⟩
              have hid : idE L (Mk.gI I k) = (Mk.gS L i).1 := by unfold idE; rw [hxi]; congr 2; omega
              rw [hid] at HPM
              have HL2 := hide (Mk.low1 wr (.cells #[] 5))
              have HX2 : Hid (EnV w1 (A ++ pcE (Wf.Bq.cutP C J) mg tx.length run) N2 (.slice a2 N2 c2) [] 0 (.slice (some ⟨wr.heap.size, 0, none⟩) 0 0) (wr.alloc (.cells #[] 5))) := hide ⟨HX.out.bel.trans (HL2.out.mono HX.out.bel.size), row_keptB HX.out.out HL2.out, by
                have h2 := World.ownsRow_made (e := 5) (size := 1) wr #[] 0 HX.out.bel.size (Nat.zero_le _) rfl
                simpa [Lib.byteCells] using h2, fun j h1 h2 => by
                have h3 := (HX.out.out.lt j h1).2
                simp [Value.ownBlock] at h2
                omega, HX.out.la, rfl⟩
              have HE : Hid (N2 ≤ 50000) := hide (by
                have h1 := HX.out.la
                have h2 := HPM.out.len
                have h3 := HTL.out
                simp only [List.length_append] at h1 h2
                omega)
              have hsz : (wr.alloc (.cells #[] 5)).heap.size = wr.heap.size + 1 := by simp
              clear HX HL2 HPC HP2
              generalize A ++ pcE (Wf.Bq.cutP C J) mg tx.length run = A2 at *
              have HD := hide (HM.out.next HX2.out.bel)
              go_wp2
              generalize hw5 : wr.alloc (.cells #[] 5) = w5 at *
              generalize hr5 : wr.heap.size = r5 at *
              clear hw5 hr5 hsz
              have HXD : Hid (EnV w1 A2 N2 (.slice a2 N2 c2) [] 0 (.slice (some ⟨r5, 0, none⟩) 0 0) w5.drew) := hide ⟨HX2.out.bel.trans (below_de.mono HX2.out.bel.size), row_keptB HX2.out.out below_de, row_keptB HX2.out.row below_de, HX2.out.ap, HX2.out.la, rfl⟩
              rcases HM.out.rd.2 with h0 | ⟨b2, off2, rfl, hbl2, hc2⟩
              · omega
              have hc0 := HC0.out
              rw [hxi] at hc0
              have HCC : Hid (∀ W, Below w1.heap.size w1 W → W.cell? ⟨q, 4, none⟩ = some (.slice (some ⟨b2, off2, none⟩) n cap) ∧ W.cell? ⟨b, off + k, none⟩ = some (.int .i64 (-1 - (i : Int))) ∧ W.cell? ⟨b2, off2 + i * 2, none⟩ = some (.int .i64 (Mk.gS L i).1)) := hide (fun W hb => ⟨(hb.cell (p := ⟨q, 4, none⟩) HM.out.lt).trans (Lib.cell_of_heap HM.out.box 4), (hb.cell (p := ⟨b, off + k, none⟩) HBL.out).trans hc0, (hb.cell (p := ⟨b2, off2 + i * 2, none⟩) hbl2).trans (hc2 i hil).1⟩)
              have HA1 : Hid (Below w1.heap.size w1 (w5.alloc (.cells #[.int .i64 (Mk.gS L i).1] 3)).drew) := hide (HX2.out.bel.trans (((Mk.low1 w5 (.cells #[.int .i64 (Mk.gS L i).1] 3)).trans (below_de.mono (Mk.low1 w5 (.cells #[.int .i64 (Mk.gS L i).1] 3)).size)).mono HX2.out.bel.size))
              have HA0 := hide HXD.out.bel
              clear hc0 hc2 hbl2
              have hi0 : (0 : Int) ≤ (i : Int) := by omega
              have hi1 : (i : Int) < (n : Int) := by omega
              have hws : IntKind.i64.wrap (-1 - (-1 - (i : Int))) = (i : Int) := by rw [IntKind.wrap_i64]; omega
              obtain ⟨g, cap3, w6, hrun, hown, hrow, hap, hb6⟩ := app_numE w5.drew w1.heap.size a2 N2 c2 0 (.slice (some ⟨r5, 0, none⟩) 0 0) A2 (Lib.byteCells []) (Mk.gS L i).1 HXD.out.out HXD.out.row HXD.out.ap (by have := HE.out; omega) HXD.out.bel.size
              have HRUN := hide hrun
              have HN : Hid (EnV w1 (A2 ++ [(Mk.gS L i).1]) (N2 + 1) (.slice (some ⟨g, 0, none⟩) (N2 + 1) cap3) [] 0 (.slice (some ⟨r5, 0, none⟩) 0 0) w6) := hide ⟨HXD.out.bel.trans hb6, hown, hrow, hap, by rw [List.length_append, ← HXD.out.la]; rfl, rfl⟩
              clear hrun hown hrow hap hb6 HXD HX2 HD hxi hid HOKk HC0
              generalize (Mk.gS L i).1 = y at *
              go_region_held3 (fun W => W.cell? ⟨q, 4, none⟩ = some (.slice (some ⟨b2, off2, none⟩) n cap) ∧ W.cell? ⟨b, off + k, none⟩ = some (.int .i64 (-1 - (i : Int))) ∧ W.cell? ⟨b2, off2 + i * 2, none⟩ = some (.int .i64 y)) (first | exact HCC.out _ HA0.out | exact HCC.out _ HA1.out | exact HCC.out _ HN.out.bel | fail) (first
                | (refine step_append_e (by rfl) _ _ _ _ (by rfl) _ _ (by rfl) (by rfl) _ _ HRUN.out ?_) | fail)
              clear HRUN HCC HA0 HA1
              go_wp2
              exact ⟨⟨k + 1, N2 + 1, 0, _, _, _, _, _, [], rfl, rfl, by go_num, by omega, by omega, HPM, HN⟩, by simp [intOf]; omega⟩
      · obtain rfl : ni = k := by omega
        have hcv := Mk.conv_row wr w1.heap.size a9 nr c9 run HV2.out.row
        have hrl : (⟨run.toArray⟩ : ByteArray).size ≤ 100000 := by
          have h1 := HV2.out.lr
          show run.toArray.size ≤ _
          simp
          omega
        have HPI := hide (Wf.Bq.rpieces_any (c1 := c4) (c2 := c5) HD.out.rc HD.out.rj hn4 hn5 ⟨run.toArray⟩ hrl)
        have d2 := Lib.cell_of_heap HD.out.box 2
        have d3 := Lib.cell_of_heap HD.out.box 3
        have HRL := hide hrl
        clear hrl
        have hkk : ¬ ((ni : Int) < (ni : Int)) := by omega
        go_wp2_with fail
        refine (unhide HPI).mono ?_
        rintro e w3 ⟨⟨ap, np, cp, rfl, hnp, hpr⟩, hb3⟩
        have HNP : Hid (np = (Wf.Bq.pcs (Wf.Bq.cutP C J) run).length) := hide hnp
        have hpr' : w3.ownsRow wr.heap.size 9 1 (.slice ap np cp) np (Wf.tv (Wf.Bq.pcs (Wf.Bq.cutP C J) run)) := hpr
        have HW0 : Hid (EnW w1 (A ++ ((Wf.Bq.pcs (Wf.Bq.cutP C J) run).take 0).flatMap (fun p => made mg tx.length ⟨p.toArray⟩)) N (.slice a8 N c8) np (.slice ap np cp) (Wf.Bq.pcs (Wf.Bq.cutP C J) run) w3) := hide ⟨HV2.out.bel.trans (hb3.mono HV2.out.bel.size), by simpa using row_keptB HV2.out.out hb3, ownsRow_le hpr' HV2.out.bel.size, fun j h1 h2 => by
          have e1 := (HV2.out.out.lt j h1).2
          have e2 := (hpr'.lt j h2).1
          omega, by simpa using HV2.out.la⟩
        have HPL : Hid (∀ j, j < np → ∃ p, (Wf.Bq.pcs (Wf.Bq.cutP C J) run)[j]? = some p ∧ p ≠ [] ∧ p.length ≤ 100000) := hide (fun j hj => by
          have hj2 : j < (Wf.Bq.pcs (Wf.Bq.cutP C J) run).length := by rw [← HNP.out]; exact hj
          refine ⟨_, List.getElem?_eq_getElem hj2, pcs_ne (List.getElem_mem hj2), ?_⟩
          have h2 := pcs_le (List.getElem_mem hj2)
          have h3 := HRL.out
          have h4 : (⟨run.toArray⟩ : ByteArray).size = run.length := by show run.toArray.size = _; simp
          omega)
        have HPC : Hid (pcE (Wf.Bq.cutP C J) mg tx.length run = ((Wf.Bq.pcs (Wf.Bq.cutP C J) run).take np).flatMap (fun p => made mg tx.length ⟨p.toArray⟩)) := hide (by rw [HNP.out, List.take_length]; rfl)
        have hnp2 : np ≤ 100000 := by
          have h2 := HRL.out
          have h3 := pcs_cnt (Wf.Bq.cutP C J) run
          have h4 : (⟨run.toArray⟩ : ByteArray).size = run.length := by show run.toArray.size = _; simp
          have h5 := HNP.out
          omega
        have HLB : Hid (∀ j, (A ++ ((Wf.Bq.pcs (Wf.Bq.cutP C J) run).take j).flatMap (fun p => made mg tx.length ⟨p.toArray⟩)).length ≤ 50000) := hide (fun j => by
          have h1 : (((Wf.Bq.pcs (Wf.Bq.cutP C J) run).take j).flatMap (fun p => made mg tx.length ⟨p.toArray⟩)).length ≤ (pcE (Wf.Bq.cutP C J) mg tx.length run).length := by
            have e : pcE (Wf.Bq.cutP C J) mg tx.length run = ((Wf.Bq.pcs (Wf.Bq.cutP C J) run).take j).flatMap (fun p => made mg tx.length ⟨p.toArray⟩) ++ ((Wf.Bq.pcs (Wf.Bq.cutP C J) run).drop j).flatMap (fun p => made mg tx.length ⟨p.toArray⟩) := by
              rw [← List.flatMap_append, List.take_append_drop]
              rfl
            rw [e, List.length_append]
            omega
          have h2 := (HP2.out.last HIL.out.symm).len
          have h3 := HTL.out
          simp only [List.length_append] at h2 ⊢
          omega)
        clear hnp hpr hpr' hb3 HV2 hcv d2 d3 HPI HD HRL
        generalize Wf.Bq.pcs (Wf.Bq.cutP C J) run = P at *
        go_wp2
        go_loopw [5, 9] (fun a i wr => ∃ (j N2 : Nat) (a2 : Option Addr) (c2 : Nat), a = .slice a2 N2 c2 ∧ i = .int .i64 j ∧ j ≤ np ∧ Hid (EnW w1 (A ++ (P.take j).flatMap (fun p => made mg tx.length ⟨p.toArray⟩)) N2 (.slice a2 N2 c2) np (.slice ap np cp) P wr)) (fun _ i _ => np - (intOf i).toNat)
        case atStart => exact ⟨0, N, a8, c8, rfl, rfl, Nat.zero_le _, HW0⟩
        case round =>
          obtain ⟨j, N2, a2, c2, rfl, rfl, hj, HW⟩ := hrel
          clear HW0
          by_cases hjl : j < np
          · have hj0 : (0 : Int) ≤ (j : Int) := by omega
            have hj1 : (j : Int) < (np : Int) := by omega
            obtain ⟨p, hpj, hpne, hpl⟩ := HPL.out j hjl
            have HD := hide (HM.out.next HW.out.bel)
            have e0 : wr.cell? ⟨q, 0, none⟩ = some (.slice aB tx.length cB) := Lib.cell_of_heap HD.out.box 0
            have e1 : wr.cell? ⟨q, 1, none⟩ = some (.slice aM mg.length cM) := Lib.cell_of_heap HD.out.box 1
            have hf := HW.out.row.form (by omega)
            obtain ⟨gp, kp, hv, _, _⟩ := hf
            simp only [Value.slice.injEq] at hv
            obtain ⟨rfl, _, rfl⟩ := hv
            have e2 : wr.cell? ⟨gp, j, none⟩ = some (.string ⟨p.toArray⟩) := by
              rw [HW.out.row.cellAt j (by omega)]
              simp [Wf.tv, hpj]
            have HRA := hide (rall_any wr.drew (HD.out.rt.kept below_de) HBD.out.1 HBD.out.2 ⟨p.toArray⟩ (by show p.toArray.size ≤ _; simpa using hpl))
            have HMP : Hid (0 < (made mg tx.length ⟨p.toArray⟩).length) := hide (List.length_pos_iff.2 (fun e => hpne (by
              have h1 := made_txt HK.out tx.length ⟨p.toArray⟩
              rw [e] at h1
              simpa [txt] using h1.symm)))
            have HML := hide (made_len mg tx.length ⟨p.toArray⟩)
            have HPS : Hid ((⟨p.toArray⟩ : ByteArray).size ≤ 100000) := hide (by show p.toArray.size ≤ _; simpa using hpl)
            have HFT : Hid (A ++ (P.take (j + 1)).flatMap (fun p => made mg tx.length ⟨p.toArray⟩) = A ++ (P.take j).flatMap (fun p => made mg tx.length ⟨p.toArray⟩) ++ made mg tx.length ⟨p.toArray⟩) := hide (by
              have hj2 : j < P.length := by
                rcases Nat.lt_or_ge j P.length with h | h
                · exact h
                · rw [List.getElem?_eq_none h] at hpj
                  cases hpj
              have e : P[j] = p := by rw [List.getElem?_eq_getElem hj2] at hpj; exact Option.some.inj hpj
              rw [flat_take hj2, e, List.append_assoc])
            have HN2 : Hid (N2 ≤ 50000) := hide (by rw [HW.out.la]; exact HLB.out j)
            have HWD : Hid (EnW w1 (A ++ (P.take j).flatMap (fun p => made mg tx.length ⟨p.toArray⟩)) N2 (.slice a2 N2 c2) np (.slice (some ⟨gp, 0, none⟩) np cp) P wr.drew) := hide ⟨HW.out.bel.trans (below_de.mono HW.out.bel.size), row_keptB HW.out.out below_de, row_keptB HW.out.row below_de, HW.out.ap, HW.out.la⟩
            have HQ1 : Hid (q < w1.heap.size) := hide HM.out.lt
            have hpj2 : (Wf.tv P)[j]? = some (.string ⟨p.toArray⟩) := by simp [Wf.tv, hpj]
            have HPJ := hide hpj2
            clear HW hpj hpne hpl hpj2 HD
            generalize (⟨p.toArray⟩ : ByteArray) = t at *
            generalize A ++ (P.take j).flatMap (fun p => made mg tx.length ⟨p.toArray⟩) = A2 at *
            go_wp2
            go_region_held3 (fun W => W.cell? ⟨q, 0, none⟩ = some (.slice aB tx.length cB) ∧ W.cell? ⟨q, 1, none⟩ = some (.slice aM mg.length cM) ∧ W.cell? ⟨gp, j, none⟩ = some (.string t)) (first | exact ⟨e0, e1, e2⟩ | go_keep) (first
              | (go_at_call 55; refine (unhide HRA).mono ?_; rintro e W1 ⟨⟨v, rfl, hv⟩, hb⟩; obtain ⟨ae, ce, hvv⟩ := row_form hv; subst hvv; obtain ⟨g, cap3, w3, hrun, hnw⟩ := HWD.out.more hb hv rfl HMP.out HN2.out (Nat.le_trans HML.out HPS.out); have HRUN := hide hrun; have HNW := hide hnw; replace e0 := (hb.cell (p := ⟨q, 0, none⟩) (World.block_lt_of_cell? wr.drew _ e0)).trans e0; replace e1 := (hb.cell (p := ⟨q, 1, none⟩) (World.block_lt_of_cell? wr.drew _ e1)).trans e1; replace e2 := (hb.cell (p := ⟨gp, j, none⟩) (World.block_lt_of_cell? wr.drew _ e2)).trans e2; clear hrun hnw hv hb)
              | (refine step_append_e (by rfl) _ _ _ _ (by rfl) _ _ (by rfl) (by rfl) _ _ HRUN.out ?_; have e0 : w3.cell? ⟨q, 0, none⟩ = some (.slice aB tx.length cB) := Lib.cell_of_heap (HM.out.next HNW.out.bel).box 0; have e1 : w3.cell? ⟨q, 1, none⟩ = some (.slice aM mg.length cM) := Lib.cell_of_heap (HM.out.next HNW.out.bel).box 1; have e2 : w3.cell? ⟨gp, j, none⟩ = some (.string t) := (HNW.out.row.cellAt j (by omega)).trans HPJ.out) | fail)
            clear HWD HRA HRUN e0 e1 e2
            rw [← HFT.out] at HNW
            go_wp2
            exact ⟨⟨j + 1, _, _, _, rfl, by go_num, by omega, HNW⟩, by simp [intOf]; omega⟩
          · obtain rfl : np = j := by omega
            have HX := hide HW.out
            rw [← HPC.out] at HX
            clear HW HPL HLB HNP
            have HPM := hide (HP2.out.last HIL.out.symm)
            have HL2 := hide (Mk.low1 wr (.cells #[] 5))
            have HX2 : Hid (EnV w1 (A ++ pcE (Wf.Bq.cutP C J) mg tx.length run) N2 (.slice a2 N2 c2) [] 0 (.slice (some ⟨wr.heap.size, 0, none⟩) 0 0) (wr.alloc (.cells #[] 5))) := hide ⟨HX.out.bel.trans (HL2.out.mono HX.out.bel.size), row_keptB HX.out.out HL2.out, by
              have h2 := World.ownsRow_made (e := 5) (size := 1) wr #[] 0 HX.out.bel.size (Nat.zero_le _) rfl
              simpa [Lib.byteCells] using h2, fun j h1 h2 => by
              have h3 := (HX.out.out.lt j h1).2
              simp [Value.ownBlock] at h2
              omega, HX.out.la, rfl⟩
            clear HX HL2 HPC HP2
            go_wp2
            exact ⟨⟨ni + 1, N2, 0, _, _, _, _, _, [], rfl, rfl, by go_num, by omega, by omega, HPM, HX2⟩, by simp [intOf]⟩
    · obtain rfl : k = ni + 1 := by omega
      have hgt : ¬ (((ni + 1 : Nat) : Int) ≤ (ni : Int)) := by omega
      have hFin : A = encF (Wf.Bq.cutP C J) mg tx.length L [] I := by
        rcases HP2.out with ⟨h1, _⟩ | ⟨_, h2⟩
        · have := HIL.out; omega
        · exact h2
      have hNA := HV2.out.la
      have HO := hide HV2.out.out
      rw [hFin] at HO hNA
      have HBF := hide (HL1.out.trans (HV2.out.bel.mono (by have h1 := HL1.out.size; have h2 := HQ.out; omega)))
      have HWS2 := HWS
      clear hFin HV2 HP2
      subst hNA
      go_wp2
      go_ret
      exact ⟨⟨_, _, rfl, ownsRow_le HO.out (by have h1 := HWS2.out; have h2 := HQ.out; omega)⟩, by rw [HQ.out]; exact HBF.out⟩
end Go.Proofs.YtdpmjaelbjjanaaGreat
