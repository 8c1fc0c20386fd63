/- The law's own example (awake), and HeapNone's walk. -/
import Derived.Test.YtdeenhmcifopfaaHpGString
import Derived.Test.YtdeenhmcifopfaaHpM2
namespace Go.Proofs.Ytdeenhmcifopfaa
open Go.RowKit
set_option linter.unusedVariables false
set_option linter.unusedSimpArgs false

def xS : Value := .string ⟨#[120]⟩
def yS : Value := .string ⟨#[121]⟩
def zS : Value := .string ⟨#[122]⟩

set_option maxRecDepth 20000 in
set_option maxHeartbeats 4000000 in
theorem awake_any (w : World) : Calls Try.prog 9 #[] w fun e w' => e = .returned (.bool true) ∧ Below w.heap.size w w' := by
  go_enter Try.func9, Try.ntmps9
  go_wp2_with fail
  refine (Hstring.new_any w).mono ?_
  rintro e w1 ⟨p, rfl, hH1, hb1⟩
  go_wp2_with fail
  refine (Hstring.push_any _ p _ 0 [] w1 hH1 Hp.nil (by simp) (by omega) 5 1 ⟨#[120]⟩ hb1.size).mono ?_
  rintro e w2 ⟨rfl, v2, l2, hH2, hP2, hp2, hF2, hN2⟩
  go_wp2_with fail
  refine (Hstring.push_any _ p v2 1 l2 w2 hH2 hP2 (by rw [hp2.length_eq]; simp) (by omega) 3 9 ⟨#[121]⟩ (Nat.le_trans hb1.size hF2.size)).mono ?_
  rintro e w3 ⟨rfl, v3, l3, hH3, hP3, hp3, hF3, hN3⟩
  go_wp2_with fail
  refine (Hstring.push_any _ p v3 2 l3 w3 hH3 hP3 (by rw [hp3.length_eq, List.length_cons, hp2.length_eq]; simp) (by omega) 3 2 ⟨#[122]⟩ (Nat.le_trans (Nat.le_trans hb1.size hF2.size) hF3.size)).mono ?_
  rintro e w4 ⟨rfl, v4, l4, hH4, hP4, hp4, hF4, hN4⟩
  have hq4 : l4.Perm [⟨3, 2, 2, .string ⟨#[122]⟩⟩, ⟨3, 9, 1, .string ⟨#[121]⟩⟩, ⟨5, 1, 0, .string ⟨#[120]⟩⟩] := hp4.trans ((hp3.trans (hp2.cons _)).cons _)
  obtain ⟨hl4, hg4, ht4⟩ := hP4.top_of hq4 (by
    intro b hb
    simp only [List.mem_cons, List.not_mem_nil, or_false] at hb
    rcases hb with rfl | rfl <;> rfl)
  have HQ := hide hq4.length_eq
  clear hp4 hp3 hp2 hq4
  go_wp2_with fail
  refine (Hstring.pop_some _ p v4 3 l4 w4 hH4 hP4 hl4 (by rw [HQ.out]; decide)).mono ?_
  rw [hg4]
  rintro e w5 ⟨rfl, v5, l5, hH5, hP5, hp5, hF5, hv5⟩
  have hq5 := hp5.trans ht4
  obtain ⟨hl5, hg5, ht5⟩ := hP5.top_of hq5 (by
    intro b hb
    simp only [List.mem_cons, List.not_mem_nil, or_false] at hb
    rcases hb with rfl; rfl)
  have HQ5 := hide hq5.length_eq
  clear hp5 ht4 hq5 hg4
  go_wp2_with fail
  refine (Hstring.pop_some _ p v5 3 l5 w5 hH5 hP5 hl5 (by rw [HQ5.out]; decide)).mono ?_
  rw [hg5]
  rintro e w6 ⟨rfl, v6, l6, hH6, hP6, hp6, hF6, hv6⟩
  have HQ6 := hide (hp6.trans ht5).length_eq
  have hB : Hid (Below w.heap.size w w6) := by
    have N5 : Nw w4 v4 v5 := Or.inl hv5
    have F := ((((hF2.trans hN2 hF3).trans (hN2.trans hF2.size hN3) hF4).trans ((hN2.trans hF2.size hN3).trans (hF2.trans hN2 hF3).size hN4) hF5).trans (((hN2.trans hF2.size hN3).trans (hF2.trans hN2 hF3).size hN4).trans ((hF2.trans hN2 hF3).trans (hN2.trans hF2.size hN3) hF4).size N5) hF6)
    exact hide (hb1.trans (F.below hb1.size hH1.bp (fun g e => by cases e)))
  have HLn := hide (Hstring.len_any _ p v6 3 l6 w6 hH6)
  rw [HQ6.out] at HLn
  clear hp6 ht5 hg5 hF2 hF3 hF4 hF5 hF6 hN2 hN3 hN4 hv5 hv6 hH1 hH2 hH3 hH4 hH5 hb1
  go_wp2_with fail
  refine (unhide HLn).mono ?_
  rintro e w' ⟨rfl, hw⟩
  subst hw
  go_wp2
  go_ret
  exact ⟨rfl, hB.out⟩

set_option maxRecDepth 20000 in
set_option maxHeartbeats 4000000 in
theorem none_walk (k r q : Int) (w : World) : Calls Try.prog 5 #[.agg #[.int .i64 k, .int .i64 r, .int .i64 q]] w fun e w' => e = .returned (.bool true) ∧ Below w.heap.size w w' := by
  have hb0 : Below w.heap.size w (w.alloc (.cells #[.int .i64 k, .int .i64 r, .int .i64 q] 28)) := (Below.refl _ _).alloc (Nat.le_refl _) _
  have HB0 := hide hb0
  clear hb0
  go_enter Try.func5, Try.ntmps5
  go_wp2_with fail
  refine (Hstring.push_nil r q _ _).mono ?_
  rintro e w1 ⟨rfl, hw⟩
  subst hw
  go_wp2_with fail
  refine (Hstring.clear_nil _).mono ?_
  rintro e w1 ⟨rfl, hw⟩
  subst hw
  go_wp2_with fail
  refine (Hstring.pop_nil _).mono ?_
  rintro e w1 ⟨rfl, hw⟩
  subst hw
  go_wp2_with fail
  refine (Hstring.peek_nil _).mono ?_
  rintro e w1 ⟨rfl, hw⟩
  subst hw
  go_wp2_with fail
  refine (Hstring.len_nil _).mono ?_
  rintro e w1 ⟨rfl, hw⟩
  subst hw
  go_wp2_with fail
  refine (Hstring.drain_nil _).mono ?_
  rintro e w1 ⟨rfl, hw⟩
  subst hw
  go_wp2_with fail
  refine (awake_any _).mono ?_
  rintro e w1 ⟨rfl, hb⟩
  go_wp2
  go_ret
  exact ⟨rfl, HB0.out.trans (hb.mono HB0.out.size)⟩

end Go.Proofs.Ytdeenhmcifopfaa
