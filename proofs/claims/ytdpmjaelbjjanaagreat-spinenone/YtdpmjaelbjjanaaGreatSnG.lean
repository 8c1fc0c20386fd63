/- Contracts of package spine: beside, Valid, First. -/
import Derived.Test.YtdpmjaelbjjanaaGreatSnB
import Derived.Test.YtdpmjaelbjjanaaGreatSnC
import Derived.Test.YtdpmjaelbjjanaaGreatSnF
import Derived.Test.YtdpmjaelbjjanaaGreatQa33
namespace Go.Proofs.YtdpmjaelbjjanaaGreat
open Go.RowKit Go.Maps
set_option linter.unusedVariables false
set_option linter.unusedSimpArgs false

/-- Two tokens of a vocabulary may stand side by side. -/
def validV (s : Wf.Sp) (x y : Int) : Bool := aloneV s x && (aloneV s y && besV s x y)
theorem spc_size {s : Wf.Sp} (hV : VOk s) {x : Int} (h : aloneV s x = true) : decide (((txT s).length : Int) ≤ x) = spcV s x := by
  rcases alone_kind h with hs | ⟨hs, hx⟩
  · rw [hs]
    refine decide_eq_true ?_
    unfold spcV at hs
    rw [List.any_eq_true] at hs
    obtain ⟨y, hy, hd⟩ := hs
    obtain ⟨j, hj, rfl⟩ := List.mem_iff_getElem.1 hy
    have h1 := hV.2.2 j hj
    have h2 := of_decide_eq_true hd
    have h3 : Mk.gS s.specials j = s.specials[j] := by simp [Mk.gS, hj]
    rw [h3] at h1
    omega
  · rw [hs]
    refine decide_eq_false ?_
    have := hx.2
    omega
section
variable {w W W' : World} {B q : Nat} {z : VV} {s : Wf.Sp} {u d m1 : Int} {ax : Option Addr} {an : Nat}
theorem vboundsV (h : Va B q z s u d ax an m1 W) : Calls Tryz.prog 94 #[.pointer (some ⟨q, 0, none⟩)] W fun e w' => e = .returned (.pointer (some ⟨z.pb, 0, none⟩)) ∧ w' = W := by
  have c9 := h.cells.2.2.2.1
  clear h
  go_enter Tryz.func94, Tryz.ntmps94
  go_wp2
  go_ret
  exact ⟨rfl, rfl⟩
theorem isspecial_any (h : Va B q z s u d ax an m1 W) (x : Int) : Calls Tryz.prog 93 #[.pointer (some ⟨q, 0, none⟩), .int .i64 x] W fun e w' => e = .returned (.bool (decide (((txT s).length : Int) ≤ x))) ∧ w' = W := by
  have KS := hide (vsize_c h.cells.2.1)
  clear h
  go_enter Tryz.func93, Tryz.ntmps93
  go_wp2_with fail
  refine (unhide KS).mono ?_
  rintro e w' ⟨rfl, hw⟩
  subst hw
  go_wp2
  go_ret
  exact ⟨rfl, rfl⟩

set_option maxRecDepth 20000 in
set_option maxHeartbeats 4000000 in
theorem beside_any (h : Va B q z s u d ax an m1 W) (hV : VOk s) (hR : okB s) {x y : Int} (hx : aloneV s x = true) (hy : aloneV s y = true) :
    Calls Tryz.prog 60 #[.pointer (some ⟨q, 0, none⟩), .pointer (some ⟨z.p, 0, none⟩), .int .i64 x, .int .i64 y] W fun e w' => e = .returned (.bool (besV s x y)) ∧ Below W.heap.size W w' := by
  have K1 := hide (isspecial_any h x)
  have K2 := hide (isspecial_any h y)
  rw [spc_size hV hx] at K1
  rw [spc_size hV hy] at K2
  have HV := hide h
  unfold besV
  cases h1 : spcV s x with
  | true =>
    rw [h1] at K1
    clear h hx hy h1 K2 HV
    go_enter Tryz.func60, Tryz.ntmps60
    go_wp2_with fail
    refine (unhide K1).mono ?_
    rintro e w' ⟨rfl, hw⟩
    subst hw
    go_wp2
    (try simp only [Exit.inBlock, Exit.then])
    refine bodyPost_ret (v := .bool true) (by simp [results, Tryz.results60, go_sem]) rfl ?_
    exact ⟨rfl, Below.refl _ _⟩
  | false =>
    rw [h1] at K1
    cases h2 : spcV s y with
    | true =>
      rw [h2] at K2
      clear h hx hy h1 h2 HV
      go_enter Tryz.func60, Tryz.ntmps60
      go_wp2_with fail
      refine (unhide K1).mono ?_
      rintro e w' ⟨rfl, hw⟩
      subst hw
      go_wp2_with fail
      refine (unhide K2).mono ?_
      rintro e w' ⟨rfl, hw⟩
      subst hw
      go_wp2
      (try simp only [Exit.inBlock, Exit.then])
      refine bodyPost_ret (v := .bool true) (by simp [results, Tryz.results60, go_sem]) rfl ?_
      exact ⟨rfl, Below.refl _ _⟩
    | false =>
      rw [h2] at K2
      have tx1 : inT (txT s) x := by rcases alone_kind hx with e | ⟨_, e⟩
                                     · rw [h1] at e; cases e
                                     · exact e
      have ty1 : inT (txT s) y := by rcases alone_kind hy with e | ⟨_, e⟩
                                     · rw [h2] at e; cases e
                                     · exact e
      have hsx := hsT_iff.2 tx1
      have hsy := hsT_iff.2 ty1
      have KX := hide (tbytesS h.tb.1 x)
      have KY := hide (tbytesS h.tb.1 y)
      have ex : gsT (txT s) x = gs (txT s) x.toNat := by unfold gsT; rw [hsx]; rfl
      have ey : gsT (txT s) y = gs (txT s) y.toNat := by unfold gsT; rw [hsy]; rfl
      rw [ex, hsx] at KX
      rw [ey, hsy] at KY
      have hzx := (tokT s).sz x.toNat (by have := tx1.1; have := tx1.2; omega)
      have KB := hide (vboundsV h)
      have KT := hide (Wf.Bq.between_any (bat_tb h.bd hR) (gs (txT s) x.toNat) (gs (txT s) y.toNat) (by omega))
      have KW := hide (fun W' (hb : Below W.heap.size W W') => walk_any (h.low hb).tb.1 (tokT s) x y 9223372036854775807)
      have ew : walkB (txT s) (mgT s) x y 9223372036854775807 = (wk (mgT s) x y 9223372036854775807).1 := by unfold walkB; rw [hsx, hsy]; rfl
      rw [ew] at KW
      clear h hx hy h1 h2 tx1 ty1 hsx hsy ex ey hzx ew HV
      generalize gs (txT s) x.toNat = t1 at *
      generalize gs (txT s) y.toNat = t2 at *
      have KT2 : Hid (Calls Tryz.prog 95 #[.pointer (some ⟨z.pb, 0, none⟩), .string t1, .string t2] W fun e w' => e = .returned (.bool (Wf.Bq.btw (cuE s) t1.data.toList t2.data.toList)) ∧ Below W.heap.size W w') := hide KT.out
      clear KT
      obtain ⟨bt, hbt⟩ : ∃ b, Wf.Bq.btw (cuE s) t1.data.toList t2.data.toList = b := ⟨_, rfl⟩
      obtain ⟨wb, hwb⟩ : ∃ b, (wk (mgT s) x y 9223372036854775807).1 = b := ⟨_, rfl⟩
      rw [hbt] at KT2
      rw [hwb] at KW
      rw [hbt, hwb]
      clear hbt hwb
      cases bt
      all_goals
        go_enter Tryz.func60, Tryz.ntmps60
        go_wp2_with fail
        refine (unhide K1).mono ?_
        rintro e w' ⟨rfl, hw⟩
        subst hw
        go_wp2_with fail
        refine (unhide K2).mono ?_
        rintro e w' ⟨rfl, hw⟩
        subst hw
        go_wp2_with fail
        refine (unhide KX).mono ?_
        rintro e w' ⟨rfl, hw⟩
        subst hw
        go_wp2_with fail
        refine (unhide KY).mono ?_
        rintro e w' ⟨rfl, hw⟩
        subst hw
        go_wp2_with fail
        refine (unhide KB).mono ?_
        rintro e w' ⟨rfl, hw⟩
        subst hw
        go_wp2_with fail
        refine (unhide KT2).mono ?_
        rintro e W1 ⟨rfl, hb⟩
        have HB1 := hide hb
        have KW1 := hide (KW.out _ hb)
        clear hb K1 K2 KX KY KB KT2 KW
      · go_wp2_with fail
        refine (unhide KW1).mono ?_
        rintro e W2 ⟨rfl, hb⟩
        have HB2 := hide (below_step HB1.out hb)
        clear hb KW1
        cases wb
        all_goals
          go_wp2
          go_ret
          exact ⟨rfl, HB2.out⟩
      · go_wp2
        go_ret
        exact ⟨rfl, HB1.out⟩
end

set_option maxRecDepth 20000 in
set_option maxHeartbeats 4000000 in
theorem valid_gen {M : World → Prop} {q p : Nat} {x y : Int} {b1 b2 b3 : Bool} {W : World} (K1 : Hid (Calls Tryz.prog 59 #[.pointer (some ⟨q, 0, none⟩), .int .i64 x] W fun e w' => e = .returned (.bool b1) ∧ M w'))
    (K2 : Hid (∀ W, M W → Calls Tryz.prog 59 #[.pointer (some ⟨q, 0, none⟩), .int .i64 y] W fun e w' => e = .returned (.bool b2) ∧ M w'))
    (K3 : Hid (∀ W, M W → Calls Tryz.prog 61 #[.pointer (some ⟨q, 0, none⟩)] W fun e w' => e = .returned (.pointer (some ⟨p, 0, none⟩)) ∧ M w'))
    (K4 : Hid (b1 = true → b2 = true → ∀ W, M W → Calls Tryz.prog 60 #[.pointer (some ⟨q, 0, none⟩), .pointer (some ⟨p, 0, none⟩), .int .i64 x, .int .i64 y] W fun e w' => e = .returned (.bool b3) ∧ M w')) :
    Calls Tryz.prog 29 #[.pointer (some ⟨q, 0, none⟩), .int .i64 x, .int .i64 y] W fun e w' => e = .returned (.bool (b1 && (b2 && b3))) ∧ M w' := by
  cases b1
  · clear K2 K3 K4
    go_enter Tryz.func29, Tryz.ntmps29
    go_wp2_with fail
    refine (unhide K1).mono ?_
    rintro e W1 ⟨rfl, h1⟩
    have H1 := hide h1
    clear h1 K1
    go_wp2
    go_ret
    exact ⟨rfl, H1.out⟩
  cases b2
  · clear K3 K4
    go_enter Tryz.func29, Tryz.ntmps29
    go_wp2_with fail
    refine (unhide K1).mono ?_
    rintro e W1 ⟨rfl, h1⟩
    have K2' := hide (K2.out _ h1)
    clear h1 K1 K2
    go_wp2_with fail
    refine (unhide K2').mono ?_
    rintro e W2 ⟨rfl, h2⟩
    have H2 := hide h2
    clear h2 K2'
    go_wp2
    go_ret
    exact ⟨rfl, H2.out⟩
  · go_enter Tryz.func29, Tryz.ntmps29
    go_wp2_with fail
    refine (unhide K1).mono ?_
    rintro e W1 ⟨rfl, h1⟩
    have K2' := hide (K2.out _ h1)
    clear h1 K1 K2
    go_wp2_with fail
    refine (unhide K2').mono ?_
    rintro e W2 ⟨rfl, h2⟩
    have K3' := hide (K3.out _ h2)
    clear h2 K2' K3
    go_wp2_with fail
    refine (unhide K3').mono ?_
    rintro e W3 ⟨rfl, h3⟩
    have K4' := hide (K4.out (by trivial) (by trivial) _ h3)
    clear h3 K3' K4
    go_wp2_with fail
    refine (unhide K4').mono ?_
    rintro e W4 ⟨rfl, h4⟩
    have H4 := hide h4
    clear h4 K4'
    cases b3
    all_goals
      go_wp2
      go_ret
      exact ⟨rfl, H4.out⟩

section
variable {w W W' : World} {B q qd : Nat} {z : VV} {s : Wf.Sp} {vb vm : Value} {a4 a5 a3 : Option Addr} {n4 c4 n5 c5 n3 c3 : Nat}
theorem SvS.beside (h : SvS w B q qd z s vb vm a4 n4 c4 a5 n5 c5 a3 n3 c3 W) (hV : VOk s) (hR : okB s) {x y : Int} (hx : aloneV s x = true) (hy : aloneV s y = true) :
    Calls Tryz.prog 60 #[.pointer (some ⟨q, 0, none⟩), .pointer (some ⟨z.p, 0, none⟩), .int .i64 x, .int .i64 y] W fun e w' => e = .returned (.bool (besV s x y)) ∧ SvS w B q qd z s vb vm a4 n4 c4 a5 n5 c5 a3 n3 c3 w' := by
  obtain ⟨u, d, ax, an, hv⟩ := h.va
  exact (beside_any hv hV hR hx hy).mono (fun e w' ⟨h1, h2⟩ => ⟨h1, h.next h2⟩)
theorem SvS.table (h : SvS w B q qd z s vb vm a4 n4 c4 a5 n5 c5 a3 n3 c3 W) :
    Calls Tryz.prog 61 #[.pointer (some ⟨q, 0, none⟩)] W fun e w' => e = .returned (.pointer (some ⟨z.p, 0, none⟩)) ∧ SvS w B q qd z s vb vm a4 n4 c4 a5 n5 c5 a3 n3 c3 w' := by
  obtain ⟨u, d, ax, an, hv⟩ := h.va
  exact (vtable_any hv).mono (fun e w' ⟨h1, h2⟩ => ⟨h1, h.next h2⟩)

theorem SvS.valid (h : SvS w B q qd z s vb vm a4 n4 c4 a5 n5 c5 a3 n3 c3 W) (hV : VOk s) (hR : okB s) (hl : s.specials.length ≤ 1000) (x y : Int) (hx : Mk.wfI x) (hy : Mk.wfI y) :
    Calls Tryz.prog 29 #[.pointer (some ⟨q, 0, none⟩), .int .i64 x, .int .i64 y] W fun e w' => e = .returned (.bool (validV s x y)) ∧ SvS w B q qd z s vb vm a4 n4 c4 a5 n5 c5 a3 n3 c3 w' := by
  have K1 := hide (h.alone hR hl x hx)
  have K2 := hide (fun W' (h' : SvS w B q qd z s vb vm a4 n4 c4 a5 n5 c5 a3 n3 c3 W') => h'.alone hR hl y hy)
  have K3 := hide (fun W' (h' : SvS w B q qd z s vb vm a4 n4 c4 a5 n5 c5 a3 n3 c3 W') => h'.table)
  have K4 := hide (fun (e1 : aloneV s x = true) (e2 : aloneV s y = true) W' (h' : SvS w B q qd z s vb vm a4 n4 c4 a5 n5 c5 a3 n3 c3 W') => h'.beside hV hR e1 e2)
  exact valid_gen K1 K2 K3 K4

/-- Does the token at a place offend? -/
def badV (s : Wf.Sp) (I : List Int) (i : Nat) : Bool := !(aloneV s (Mk.gI I i)) || (decide (0 < i) && !(besV s (Mk.gI I (i - 1)) (Mk.gI I i)))
/-- The first one that offends. -/
def FsP (s : Wf.Sp) (I : List Int) (e : Ending) : Prop :=
  (∃ k : Nat, k < I.length ∧ badV s I k = true ∧ (∀ j, j < k → badV s I j = false) ∧ e = .returned (.tuple #[.int .i64 (k : Int), .bool true])) ∨
  ((∀ j, j < I.length → badV s I j = false) ∧ e = .returned (.tuple #[.int .i64 0, .bool false]))

set_option maxRecDepth 20000 in
set_option maxHeartbeats 8000000 in
theorem SvS.first (h : SvS w B q qd z s vb vm a4 n4 c4 a5 n5 c5 a3 n3 c3 W) (hV : VOk s) (hR : okB s) (hl : s.specials.length ≤ 1000) {ai : Option Addr} {ni ci : Nat} {I : List Int} (hI : Mk.RdI w ai ni I) (hci : ni ≤ ci) (hni : ni ≤ 1000000) (hw : ∀ j, j < ni → Mk.wfI (Mk.gI I j)) :
    Calls Tryz.prog 30 #[.pointer (some ⟨q, 0, none⟩), .slice ai ni ci] W fun e w' => FsP s I e ∧ SvS w B q qd z s vb vm a4 n4 c4 a5 n5 c5 a3 n3 c3 w' := by
  have KT := hide h.table
  have HV := hide hV
  have HR := hide hR
  have HL := hide hl
  have HI := hide hI
  have HIL := hide hI.1
  have HW := hide hw
  clear h hV hR hl hI hw
  go_enter Tryz.func30, Tryz.ntmps30
  go_wp2_with fail
  refine (unhide KT).mono ?_
  rintro e W1 ⟨rfl, h1⟩
  have HS1 := hide h1
  clear h1 KT
  go_wp2
  go_loopw [13] (fun ix wr => ∃ k : Nat, ix = .int .i64 (k : Int) ∧ k ≤ ni ∧ Hid (SvS w B q qd z s vb vm a4 n4 c4 a5 n5 c5 a3 n3 c3 wr) ∧ Hid (∀ j, j < k → badV s I j = false)) (fun ix _ => ni - (intOf ix).toNat)
  case atStart => exact ⟨0, rfl, Nat.zero_le _, HS1, hide (fun j hj => by omega)⟩
  case round =>
    obtain ⟨k, rfl, hk, HS, HN⟩ := hrel
    clear HS1
    by_cases hlt : k < ni
    · have hk0 : (0 : Int) ≤ (k : Int) := by omega
      have hk1 : (k : Int) < (ni : Int) := by omega
      rcases HI.out.2 with h0 | ⟨b, off, ha, hbl, hc⟩
      · omega
      subst ha
      have HC := hide (fun (W' : World) (hb : Below w.heap.size w W') (j : Nat) (hj : j < ni) => (hb.cell (p := ⟨b, off + j, none⟩) hbl).trans (hc j hj))
      have c0 := HC.out wr HS.out.bel k hlt
      have KA := hide (HS.out.alone HR.out HL.out (Mk.gI I k) (HW.out k hlt))
      have HX := hide (show ∃ x, Mk.gI I k = x from ⟨_, rfl⟩)
      clear hbl hc
      by_cases ha : aloneV s (Mk.gI I k) = true
      · rw [ha] at KA
        by_cases h0 : 0 < k
        · have hprev := HN.out (k - 1) (by omega)
          have hap : aloneV s (Mk.gI I (k - 1)) = true := by
            unfold badV at hprev
            rw [Bool.or_eq_false_iff] at hprev
            simpa using hprev.1
          have KB := hide (fun W' (h' : SvS w B q qd z s vb vm a4 n4 c4 a5 n5 c5 a3 n3 c3 W') => h'.beside HV.out HR.out hap ha)
          have HBD : Hid (badV s I k = !(besV s (Mk.gI I (k - 1)) (Mk.gI I k))) := hide (by unfold badV; rw [ha, decide_eq_true h0]; simp)
          have hg0 : decide ((0 : Int) < (k : Int)) = true := decide_eq_true (by omega)
          have hg1 : (0 : Int) < (k : Int) := by omega
          have hg2 : decide (0 < k) = true := decide_eq_true h0
          have hw1 : IntKind.i64.wrap ((k : Int) - 1) = ((k - 1 : Nat) : Int) := by rw [IntKind.wrap_i64]; omega
          have hj0 : (0 : Int) ≤ ((k - 1 : Nat) : Int) := by omega
          have hj1 : ((k - 1 : Nat) : Int) < (ni : Int) := by omega
          generalize besV s (Mk.gI I (k - 1)) (Mk.gI I k) = bs at *
          generalize hx : Mk.gI I k = x at *
          generalize hxp : Mk.gI I (k - 1) = xp at *
          have HXX := hide (And.intro hx hxp)
          clear hx hxp hprev hap ha HX
          go_wp2_with fail
          refine (unhide KA).mono ?_
          rintro e W2 ⟨rfl, h2⟩
          have HS2 := hide h2
          have c1 : W2.cell? ⟨b, off + (k - 1), none⟩ = some (.int .i64 xp) := by rw [← HXX.out.2]; exact HC.out W2 h2.bel (k - 1) (by omega)
          have KB2 := hide (KB.out _ h2)
          clear h2 KA KB c0
          go_wp2_with fail
          refine (unhide KB2).mono ?_
          rintro e W3 ⟨rfl, h3⟩
          have HS3 := hide h3
          clear h3 KB2 HS2 c1
          cases bs with
          | true =>
            have HN2 : Hid (∀ j, j < k + 1 → badV s I j = false) := hide (fun j hj => by
              by_cases e : j = k
              · subst e; rw [HBD.out]; rfl
              · exact HN.out j (by omega))
            clear HN HBD
            go_wp2
            first
              | exact ⟨⟨k + 1, by go_num, by omega, HS3, HN2⟩, by simp [intOf]; omega⟩
              | (go_roundw
                 case rel => exact ⟨k + 1, by go_num, by omega, HS3, HN2⟩
                 case measure => simp [intOf]; omega)
          | false =>
            go_wp2
            (try simp only [Exit.inBlock, Exit.then])
            refine bodyPost_ret (v := .tuple #[.int .i64 (k : Int), .bool true]) (by simp [results, Tryz.results30, go_sem]) rfl ?_
            exact ⟨Or.inl ⟨k, by rw [HIL.out]; exact hlt, by rw [HBD.out]; rfl, HN.out, rfl⟩, HS3.out⟩
        · have HBD : Hid (badV s I k = false) := hide (by unfold badV; rw [ha, decide_eq_false h0]; rfl)
          have hg0 : decide ((0 : Int) < (k : Int)) = false := decide_eq_false (by omega)
          have hg1 : ¬ (0 : Int) < (k : Int) := by omega
          have hg2 : decide (0 < k) = false := decide_eq_false h0
          generalize hx : Mk.gI I k = x at *
          have HXX := hide hx
          clear hx ha HX
          go_wp2_with fail
          refine (unhide KA).mono ?_
          rintro e W2 ⟨rfl, h2⟩
          have HS2 := hide h2
          clear h2 KA c0
          have HN2 : Hid (∀ j, j < k + 1 → badV s I j = false) := hide (fun j hj => by
            by_cases e : j = k
            · subst e; exact HBD.out
            · exact HN.out j (by omega))
          clear HN HBD
          go_wp2
          first
            | exact ⟨⟨k + 1, by go_num, by omega, HS2, HN2⟩, by simp [intOf]; omega⟩
            | (go_roundw
               case rel => exact ⟨k + 1, by go_num, by omega, HS2, HN2⟩
               case measure => simp [intOf]; omega)
      · have ha' : aloneV s (Mk.gI I k) = false := by simpa using ha
        rw [ha'] at KA
        have HBD : Hid (badV s I k = true) := hide (by unfold badV; rw [ha']; rfl)
        generalize hx : Mk.gI I k = x at *
        have HXX := hide hx
        clear hx ha HX ha'
        go_wp2_with fail
        refine (unhide KA).mono ?_
        rintro e W2 ⟨rfl, h2⟩
        have HS2 := hide h2
        clear h2 KA c0
        go_wp2
        (try simp only [Exit.inBlock, Exit.then])
        refine bodyPost_ret (v := .tuple #[.int .i64 (k : Int), .bool true]) (by simp [results, Tryz.results30, go_sem]) rfl ?_
        exact ⟨Or.inl ⟨k, by rw [HIL.out]; exact hlt, HBD.out, HN.out, rfl⟩, HS2.out⟩
    · obtain rfl : ni = k := by omega
      go_wp2
      (try simp only [Exit.inBlock, Exit.then])
      first
        | (go_ret
           exact ⟨Or.inr ⟨fun j hj => HN.out j (by rw [← HIL.out]; exact hj), rfl⟩, HS.out⟩)
        | (refine bodyPost_ret (v := .tuple #[.int .i64 0, .bool false]) (by simp [results, Tryz.results30, go_sem]) rfl ?_
           exact ⟨Or.inr ⟨fun j hj => HN.out j (by rw [← HIL.out]; exact hj), rfl⟩, HS.out⟩)
end
end Go.Proofs.YtdpmjaelbjjanaaGreat
