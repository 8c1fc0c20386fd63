/- Marks: All; the example of the laws. -/
import Derived.Test.YtnklgfolllfghaaMkE
import Derived.Test.YtnklgfolllfghaaMkH
import Derived.Test.YtnklgfolllfghaaMkJ
import Derived.Test.YtnklgfolllfghaaMkS
namespace Go.Proofs.Ytnklgfolllfghaa.Mk
open Go.RowKit Go.Maps
set_option linter.unusedVariables false
set_option linter.unusedSimpArgs false

/-- What may stand in a set. -/
theorem good_tx {L : List (Int × ByteArray)} {e : Int} (h : ChkR L L.length e) : TxOk L := by
  obtain ⟨h, _⟩ := h
  refine ⟨?_, fun i hi => (h i hi).1.2.2.1, fun i hi => by have := (h i hi).1.2.2.2; omega, fun i hi => by have h1 := (h i hi).1.1; have h2 := (h i hi).1.2.1; exact ⟨by omega, by omega⟩⟩
  rcases Nat.lt_or_ge 1000 L.length with h1 | h1
  · have := (h 999 (by omega)).2.1; omega
  · exact h1
theorem good_mk {L : List (Int × ByteArray)} {e : Int} (h : ChkR L L.length e) : MkOk (tL L) := by
  have hk := good_tx h
  obtain ⟨h, _⟩ := h
  refine ⟨fun i hi => hk.pos i hi, fun i j hi hj e => ?_⟩
  rw [tL_len] at hi hj
  rw [mT_tL L hi, mT_tL L hj] at e
  have e2 : (gS L i).2 = (gS L j).2 := by
    cases hA : (gS L i).2; cases hB : (gS L j).2
    rw [hA, hB] at e
    simp at e
    simp [e]
  rcases Nat.lt_trichotomy i j with h1 | h1 | h1
  · exact absurd e2 ((h j hj).2.2 i h1).2
  · exact h1
  · exact absurd e2.symm ((h i hi).2.2 j h1).2
theorem chk_err {L : List (Int × ByteArray)} {k : Nat} {e : Int} (h : ChkR L k e) (h0 : e ≠ 0) : e = 1 ∨ e = 3 ∨ e = 10 := by
  rcases h.2 with h1 | ⟨_, h1⟩
  · exact absurd h1.2 h0
  · rcases h1 with ⟨_, rfl⟩ | ⟨_, _, rfl⟩ | ⟨_, _, _, rfl⟩ <;> simp
theorem chk_all {L : List (Int × ByteArray)} {k : Nat} (h : ChkR L k 0) : k = L.length := by
  rcases h.2 with h1 | ⟨_, h1⟩
  · exact h1.1
  · exact absurd rfl (err_ne h1)

/- All. -/
theorem addr_add00 (b off k : Nat) : (⟨b, off, none⟩ : Addr).add k = ⟨b, off + k, none⟩ := by
  unfold Addr.add; split <;> simp_all
theorem app_nil0 (w : World) (ao : Option Addr) (cap : Nat) : (Builtin.append_ #[22, 22] 22 #[.slice none 0 0, .slice ao 0 cap]).run Try.prog w = .ok (.slice none 0 0) w := by
  obtain ⟨i0, hi, hz0, hz1, hz2⟩ := info_parts info_special
  cases ao with
  | none => simp [Builtin.append_, run_underlying Try.underlying22, Builtin.lenOf, Builtin.firstCells, Result.andThen]
  | some a => simp [Builtin.append_, run_underlying Try.underlying22, Builtin.lenOf, Builtin.firstCells, Result.andThen, loadCells, loadCellsFrom]
theorem app_nil (w : World) (b off n cap : Nat) (l : List (Int × ByteArray)) (h : RdS w (some ⟨b, off, none⟩) n l) (h0 : 0 < n) (hn : n ≤ 1000) :
    ∃ g cap1 w1, (Builtin.append_ #[22, 22] 22 #[.slice none 0 0, .slice (some ⟨b, off, none⟩) n cap]).run Try.prog w = .ok (.slice (some ⟨g, 0, none⟩) n cap1) w1 ∧ RdS w1 (some ⟨g, 0, none⟩) n l ∧ Below w.heap.size w w1 := by
  obtain ⟨i0, hi, hz0, hz1, hz2⟩ := info_parts info_special
  rcases h.2 with h1 | ⟨b2, off2, e, hbl, hc⟩
  · omega
  simp only [Option.some.injEq, Addr.mk.injEq, and_true] at e
  obtain ⟨rfl, rfl⟩ := e
  obtain ⟨g, cap1, w1, hrun, hown, hgrow, _, _⟩ := run_append_lies (P := Try.prog) w 22 22 w.heap.size 34 i0 _ 2 24 Try.underlying22 hi hz0 hz1 hz2 rfl (by omega) (.slice none 0 0) 0 [] (World.ownsRow_nil _ _ _ _) ⟨b, off, none⟩ n cap (sv l) (by rw [sv_len, h.1]) (fun j u hj => by
      have hjl : j < (sv l).length := (List.getElem?_eq_some_iff.1 hj).1
      rw [sv_len, h.1] at hjl
      have hg := sv_get l (j / 2) (by rw [h.1]; omega)
      have hcc := hc (j / 2) (by omega)
      rw [addr_add00]
      rcases Nat.mod_two_eq_zero_or_one j with hm | hm
      · rw [show j = j / 2 * 2 by omega] at hj ⊢
        rw [hg.1] at hj
        simp only [Option.some.injEq] at hj
        subst hj
        exact hcc.1
      · rw [show j = j / 2 * 2 + 1 by omega] at hj ⊢
        rw [hg.2] at hj
        simp only [Option.some.injEq] at hj
        subst hj
        rw [← Nat.add_assoc]
        exact hcc.2) (sv_one l) h0 (by unfold maxLen; omega) (by omega) (Nat.le_refl _) w.heap.size rfl
  rw [Nat.zero_add] at hrun hown
  rw [List.nil_append] at hown
  exact ⟨g, cap1, w1, hrun, RdS.of_row hown, ⟨hgrow.os, hgrow.tape, hgrow.output, hgrow.size, fun k hk => hgrow.block k hk (by simp [Value.ownBlock])⟩⟩
section
variable {v : Value} {ao : Option Addr} {cap : Nat} {L : List (Int × ByteArray)} {w : World}
theorem All_any (h : StV w v ao cap L) (hn : L.length ≤ 1000) : Calls Try.prog 14 #[v] w fun e w' => (∃ a1 c1, e = .returned (.slice a1 L.length c1) ∧ RdS w' a1 L.length L) ∧ Below w.heap.size w w' := by
  have K := all_any h
  have hrd := h.rd
  clear h
  generalize hN : L.length = n at *
  by_cases h0 : n = 0
  · subst h0
    have hrun := app_nil0 w ao cap
    have HRD := hide (show RdS w none 0 L from ⟨hN, Or.inl rfl⟩)
    have HRUN := hide hrun
    clear hrd hrun hN
    go_enter Try.func14, Try.ntmps14
    go_wp2_with fail
    refine K.mono ?_
    rintro e w' ⟨rfl, rfl⟩
    go_wp2_with (at_builtin; refine Lib.wpList_append_run _ rfl _ _ _ _ rfl _ _ rfl rfl _ _ HRUN.out ?_)
    go_ret
    exact ⟨⟨_, _, rfl, HRD.out⟩, Below.refl _ _⟩
  · rcases hrd.2 with h1 | ⟨b, off, rfl, hbl, hc⟩
    · exact absurd h1 h0
    obtain ⟨g, cap1, w1, hrun, hr1, hb1⟩ := app_nil w b off n cap L hrd (by omega) hn
    have HRUN := hide hrun
    have HR1 := hide hr1
    have HB1 := hide hb1
    clear hrd hrun hr1 hb1 hc hN
    go_enter Try.func14, Try.ntmps14
    go_wp2_with fail
    refine K.mono ?_
    rintro e w' ⟨rfl, rfl⟩
    go_wp2_with (at_builtin; refine Lib.wpList_append_run _ rfl _ _ _ _ rfl _ _ rfl rfl _ _ HRUN.out ?_)
    go_ret
    exact ⟨⟨_, _, rfl, HR1.out⟩, HB1.out⟩
end

/- The example. -/
def exL : List (Int × ByteArray) := [(300, ⟨#[60]⟩), (301, ⟨#[60, 124]⟩)]
theorem exG0 : GoodAt exL 0 := ⟨⟨by decide, by decide, by decide, by decide⟩, by decide, fun j hj => by omega⟩
theorem exG1 : GoodAt exL 1 := ⟨⟨by decide, by decide, by decide, by decide⟩, by decide, fun j hj => by
  obtain rfl : j = 0 := by omega
  exact ⟨by decide, by decide⟩⟩
theorem exC : ChkR exL 2 0 := ⟨fun i hi => by
  rcases (show i = 0 ∨ i = 1 by omega) with rfl | rfl
  · exact exG0
  · exact exG1, Or.inl ⟨rfl, rfl⟩⟩
theorem exP : parsM (tL exL) [97, 60, 124, 98, 60] = [97, -2, 98, -1] := by decide +kernel

set_option maxRecDepth 20000 in
set_option maxHeartbeats 4000000 in
theorem awake9_any (w : World) : Calls Try.prog 9 #[] w fun e w' => e = .returned (.bool true) ∧ Below w.heap.size w w' := by
  have hlow := low1 w (.cells #[.int .i64 300, .string ⟨#[60]⟩, .int .i64 301, .string ⟨#[60, 124]⟩] 34)
  have hM : RdS (w.alloc (.cells #[.int .i64 300, .string ⟨#[60]⟩, .int .i64 301, .string ⟨#[60, 124]⟩] 34)) (some ⟨w.heap.size, 0, none⟩) 2 exL := by
    refine ⟨rfl, Or.inr ⟨_, _, rfl, by simp, fun i hi => ?_⟩⟩
    rcases (show i = 0 ∨ i = 1 by omega) with rfl | rfl
    · simp [gS, exL]
    · simp [gS, exL]
  have HN := hide (new_any _ _ 2 2 exL hM (by omega))
  have HLO := hide hlow
  clear hM hlow
  go_enter Try.func9, Try.ntmps9
  go_wp2_with fail
  refine (unhide HN).mono ?_
  rintro e w1 ⟨hE, hb1⟩
  have HB1 := hide (HLO.out.trans (hb1.mono HLO.out.size))
  rcases hE with ⟨k, er, hk, hne, _⟩ | ⟨_, p, ao, cap, rfl, hS⟩
  · exact absurd (chk_uniq hk exC).2 hne
  have KP := parse_any hS (good_tx exC) (good_mk exC) ⟨#[97, 60, 124, 98, 60]⟩ (by decide)
  rw [show (⟨#[97, 60, 124, 98, 60]⟩ : ByteArray).data.toList = [97, 60, 124, 98, 60] from rfl, exP] at KP
  have HK := hide KP
  clear hS hb1 KP HN
  go_wp2_with fail
  refine (unhide HK).mono ?_
  rintro e w2 ⟨⟨ai, ci, rfl, hr2⟩, hb2⟩
  have hl4 := low1 w2 (.cells #[.int .i64 97, .int .i64 (-2), .int .i64 98, .int .i64 (-1)] 3)
  have HI := hide (ints_same _ _ w2.heap.size _ (.slice (some ⟨w2.heap.size, 0, none⟩) 4 4) [97, -2, 98, -1] (row_keptB hr2 hl4) (World.ownsRow_lit w2 #[.int .i64 97, .int .i64 (-2), .int .i64 98, .int .i64 (-1)] 4 (Nat.le_refl _) (by unfold maxLen; omega) rfl) (by simp))
  have HB2 := hide (HB1.out.trans ((hb2.trans (hl4.mono hb2.size)).mono HB1.out.size))
  clear hr2 hb2 hl4 HK
  go_wp2_with fail
  refine (unhide HI).mono ?_
  rintro e w3 ⟨rfl, hb3⟩
  have HB3 := hide (HB2.out.trans (hb3.mono HB2.out.size))
  clear hb3 HI
  go_wp2
  go_ret
  exact ⟨rfl, HB3.out⟩
end Go.Proofs.Ytnklgfolllfghaa.Mk
