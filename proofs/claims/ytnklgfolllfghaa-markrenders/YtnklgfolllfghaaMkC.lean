/- Contracts of package mark: at, Id, Mark, Bytes, Parse. -/
import Derived.Test.YtnklgfolllfghaaMkB
namespace Go.Proofs.Ytnklgfolllfghaa.Mk
open Go.RowKit Go.Maps
set_option linter.unusedVariables false
set_option linter.unusedSimpArgs false

section
variable {v : Value} {ao : Option Addr} {cap : Nat} {L : List (Int × ByteArray)} {w : World}
set_option maxRecDepth 20000 in
set_option maxHeartbeats 4000000 in
theorem atm_yes (h : StV w v ao cap L) (hn : L.length ≤ 1000) (m : Int) (i : Nat) (hi : i < L.length) (hm : m = -1 - i) : Calls Try.prog 25 #[v, .int .i64 m] w fun e w' => e = .returned (.tuple #[.agg #[.int .i64 (gS L i).1, .string (gS L i).2], .bool true]) ∧ Below w.heap.size w w' := by
  have hlow := low1 w (.cells #[.int .i64 0, .string ⟨#[]⟩] 34)
  have h1 := h.kept hlow
  have KF := flip_any m (w.alloc (.cells #[.int .i64 0, .string ⟨#[]⟩] 34)) ⟨by omega, by omega⟩
  rw [show -1 - m = (i : Int) by omega] at KF
  have KL := len_any h1
  rcases h1.is with ⟨_, e2, _⟩ | ⟨b, mb, rfl, h2, h3, h4⟩
  · rw [e2] at hi; cases hi
  rcases h1.rd.2 with h0 | ⟨g, off, rfl, hbl0, hc⟩
  · omega
  obtain ⟨c0, c1⟩ := hc i hi
  have hne : b ≠ w.heap.size := fun e => by subst e; simp at h2
  have hng : g ≠ w.heap.size := fun e => by
    subst e
    have : w.heap.size < w.heap.size := by
      rcases h.rd.2 with h0 | ⟨g2, off2, e2, hb2, _⟩
      · omega
      · simp only [Option.some.injEq, Addr.mk.injEq, and_true] at e2
        omega
    omega
  have HL := hide hlow
  have hi0 : (0 : Int) ≤ (i : Int) := by omega
  have hi1 : (i : Int) < (L.length : Int) := by omega
  clear h h1 hlow h3 h4 hc hm
  generalize (gS L i).1 = x1 at *
  generalize (gS L i).2 = x2 at *
  go_enter Try.func25, Try.ntmps25
  go_wp2_with fail
  refine KF.mono ?_
  rintro e w' ⟨rfl, rfl⟩
  go_wp2_with fail
  refine KL.mono ?_
  rintro e w' ⟨rfl, rfl⟩
  go_wp2
  refine bodyPost_ret (v := .tuple #[.agg #[.int .i64 x1, .string x2], .bool true]) (by simp [results, Try.results25, go_sem]) rfl ⟨rfl, low1 _ _⟩
set_option maxRecDepth 20000 in
set_option maxHeartbeats 4000000 in
theorem atm_no (h : StV w v ao cap L) (hn : L.length ≤ 1000) (m : Int) (hm : wfI m) (hi : ¬ (m < 0 ∧ -1 - m < L.length)) : Calls Try.prog 25 #[v, .int .i64 m] w fun e w' => e = .returned (.tuple #[.agg #[.int .i64 0, .string ⟨#[]⟩], .bool false]) ∧ Below w.heap.size w w' := by
  have hlow := low1 w (.cells #[.int .i64 0, .string ⟨#[]⟩] 34)
  have h1 := h.kept hlow
  obtain ⟨hm1, hm2⟩ := hm
  have KF := flip_any m (w.alloc (.cells #[.int .i64 0, .string ⟨#[]⟩] 34)) ⟨hm1, hm2⟩
  have KL := len_any h1
  have HL := hide hlow
  clear h h1 hlow
  by_cases hy : -1 - m < 0
  · go_enter Try.func25, Try.ntmps25
    go_wp2_with fail
    refine KF.mono ?_
    rintro e w' ⟨rfl, rfl⟩
    go_wp2
    refine bodyPost_ret (v := .tuple #[.agg #[.int .i64 0, .string ⟨#[]⟩], .bool false]) (by simp [results, Try.results25, go_sem]) rfl ⟨rfl, low1 _ _⟩
  · have hz : (L.length : Int) ≤ -1 - m := by omega
    clear hi
    generalize hq : -1 - m = q at *
    clear hq
    go_enter Try.func25, Try.ntmps25
    go_wp2_with fail
    refine KF.mono ?_
    rintro e w' ⟨rfl, rfl⟩
    go_wp2_with fail
    refine KL.mono ?_
    rintro e w' ⟨rfl, rfl⟩
    go_wp2
    refine bodyPost_ret (v := .tuple #[.agg #[.int .i64 0, .string ⟨#[]⟩], .bool false]) (by simp [results, Try.results25, go_sem]) rfl ⟨rfl, low1 _ _⟩

set_option maxHeartbeats 1000000 in
/-- A mark's number: what is told. -/
theorem id_yes (h : StV w v ao cap L) (hn : L.length ≤ 1000) (m : Int) (i : Nat) (hi : i < L.length) (hm : m = -1 - i) : Calls Try.prog 12 #[v, .int .i64 m] w fun e w' => e = .returned (.tuple #[.int .i64 (gS L i).1, .bool true]) ∧ Below w.heap.size w w' := by
  have K := atm_yes h hn m i hi hm
  clear h hm hi hn
  generalize (gS L i).1 = x1 at *
  generalize (gS L i).2 = x2 at *
  go_enter Try.func12, Try.ntmps12
  go_wp2_with fail
  refine K.mono ?_
  rintro e w1 ⟨rfl, hb⟩
  have HB := hide (hb.alloc hb.size (.cells #[.int .i64 x1, .string x2] 34))
  clear hb K
  go_wp2
  go_ret2
  exact ⟨rfl, HB.out⟩
theorem id_no (h : StV w v ao cap L) (hn : L.length ≤ 1000) (m : Int) (hm : wfI m) (hi : ¬ (m < 0 ∧ -1 - m < L.length)) : Calls Try.prog 12 #[v, .int .i64 m] w fun e w' => e = .returned (.tuple #[.int .i64 0, .bool false]) ∧ Below w.heap.size w w' := by
  have K := atm_no h hn m hm hi
  clear h hi
  go_enter Try.func12, Try.ntmps12
  go_wp2_with fail
  refine K.mono ?_
  rintro e w1 ⟨rfl, hb⟩
  have HB := hide (hb.alloc hb.size (.cells #[.int .i64 0, .string ⟨#[]⟩] 34))
  clear hb K
  go_wp2
  go_ret2
  exact ⟨rfl, HB.out⟩
theorem mark_nil (n : Int) : Calls Try.prog 13 #[.pointer none, .int .i64 n] w fun e w' => e = .returned (.tuple #[.int .i64 0, .bool false]) ∧ w' = w := by
  go_enter Try.func13, Try.ntmps13
  go_wp2
  go_ret2
  exact ⟨rfl, rfl⟩
theorem mark_no (h : StV w v ao cap L) (n : Int) (hw : wfI n) (hn : ik n ∉ ids L) : Calls Try.prog 13 #[v, .int .i64 n] w fun e w' => e = .returned (.tuple #[.int .i64 0, .bool false]) ∧ w' = w := by
  rcases h.is with ⟨rfl, _, _, _⟩ | ⟨b, mb, rfl, h2, h3, h4⟩
  · exact mark_nil n
  have hlk := (h4.look keyI Try.underlying50 Try.underlying3 zeroI (ik_key hw)).1 hn
  clear h h4 hn h2
  go_enter Try.func13, Try.ntmps13
  go_wp2
  go_ret2
  exact ⟨rfl, rfl⟩
theorem mark_yes (h : StV w v ao cap L) (hl : L.length ≤ 1000) (n : Int) (hw : wfI n) (i : Nat) (hi : (ids L)[i]? = some (ik n)) : Calls Try.prog 13 #[v, .int .i64 n] w fun e w' => e = .returned (.tuple #[.int .i64 (-1 - i), .bool true]) ∧ w' = w := by
  have hiL : i < L.length := by
    have := (List.getElem?_eq_some_iff.1 hi).1
    simpa [ids] using this
  rcases h.is with ⟨_, e, _, _⟩ | ⟨b, mb, rfl, h2, h3, h4⟩
  · rw [e] at hiL; cases hiL
  have hlk := (h4.look keyI Try.underlying50 Try.underlying3 zeroI (ik_key hw)).2 i hi
  rw [Int.zero_add] at hlk
  have KF := flip_any i w ⟨by omega, by omega⟩
  clear h h4 hi h2
  go_enter Try.func13, Try.ntmps13
  go_wp2_with fail
  refine KF.mono ?_
  rintro e w1 ⟨rfl, rfl⟩
  go_wp2
  go_ret2
  exact ⟨rfl, rfl⟩
end
end Go.Proofs.Ytnklgfolllfghaa.Mk
