/- The document's Great, and all that it bounds. -/
import Derived.Test.YteiinkhdgppgbaaGreatDoorSpT
namespace Go.Proofs.YteiinkhdgppgbaaGreatDoor
open Go.RowKit
set_option linter.unusedVariables false
set_option linter.unusedSimpArgs false

/-- It answers; where it says no, there are few. -/
def IsG3 (x : Sv) (e : Ending) : Prop := e = .returned (.bool true) ∨ (e = .returned (.bool false) ∧ (x.n1 ≤ 60 ∨ x.n1 = 745) ∧ x.n2 ≤ 60 ∧ x.n3 ≤ 40 ∧ x.n4 ≤ 70 ∧ x.n5 ≤ 70)
theorem isG3 {x : Sv} {e : Ending} (h : e = .returned (.bool true)) : IsG3 x e := Or.inl h
theorem isN3 {x : Sv} {e : Ending} (h : e = .returned (.bool false)) (h1 : (x.n1 ≤ 60 ∨ x.n1 = 745) ∧ x.n2 ≤ 60 ∧ x.n3 ≤ 40 ∧ x.n4 ≤ 70 ∧ x.n5 ≤ 70) : IsG3 x e := Or.inr ⟨h, h1⟩

set_option maxHeartbeats 8000000 in
set_option maxRecDepth 20000 in
theorem great3_any (x : Sv) (s : Sp) (w : World) (h : SpAt w x s) :
    Calls Tryz.prog 6 #[.agg x.cs] w fun e w' => IsG3 x e ∧ Below w.heap.size w w' := by
  have HI := hide (SpI.new h 28)
  obtain ⟨y0, y1, y2, y3, y4, y5⟩ := HI.out.box
  clear h
  have hm : (60 < x.n1 ∧ x.n1 ≠ 745) ∨ x.n1 ≤ 60 ∨ x.n1 = 745 := by omega
  have HN1 : Hid (x.n1 ≤ 60 ∨ x.n1 = 745 ∨ 60 < x.n1) := hide (by omega)
  by_cases a1 : 60 < x.n1 ∧ x.n1 ≠ 745
  · have b1 : (60 : Int) < (x.n1 : Int) := by omega
    have b2 : ((x.n1 : Int) != 745) = true := by simp; omega
    clear hm a1
    go_enter Tryz.func6, Tryz.ntmps6
    go_wp2
    go_ret
    exact ⟨isG3 rfl, HI.out.bel⟩
  have hm2 : x.n1 ≤ 60 ∨ x.n1 = 745 := by omega
  clear hm a1 HN1
  have HM2 := hide hm2
  by_cases a2 : 60 < x.n2
  · have b2 : (60 : Int) < (x.n2 : Int) := by omega
    rcases hm2 with a1 | a1
    · have b1 : ¬ (60 : Int) < (x.n1 : Int) := by omega
      go_enter Tryz.func6, Tryz.ntmps6
      go_wp2
      go_ret
      exact ⟨isG3 rfl, HI.out.bel⟩
    · rw [a1] at y1
      clear a1
      go_enter Tryz.func6, Tryz.ntmps6
      go_wp2
      go_ret
      exact ⟨isG3 rfl, HI.out.bel⟩
  have b2 : ¬ (60 : Int) < (x.n2 : Int) := by omega
  by_cases a3 : 40 < x.n3
  · have b3 : (40 : Int) < (x.n3 : Int) := by omega
    rcases hm2 with a1 | a1
    · have b1 : ¬ (60 : Int) < (x.n1 : Int) := by omega
      go_enter Tryz.func6, Tryz.ntmps6
      go_wp2
      go_ret
      exact ⟨isG3 rfl, HI.out.bel⟩
    · rw [a1] at y1
      clear a1
      go_enter Tryz.func6, Tryz.ntmps6
      go_wp2
      go_ret
      exact ⟨isG3 rfl, HI.out.bel⟩
  have b3 : ¬ (40 : Int) < (x.n3 : Int) := by omega
  by_cases a4 : 70 < x.n4
  · have b4 : (70 : Int) < (x.n4 : Int) := by omega
    rcases hm2 with a1 | a1
    · have b1 : ¬ (60 : Int) < (x.n1 : Int) := by omega
      go_enter Tryz.func6, Tryz.ntmps6
      go_wp2
      go_ret
      exact ⟨isG3 rfl, HI.out.bel⟩
    · rw [a1] at y1
      clear a1
      go_enter Tryz.func6, Tryz.ntmps6
      go_wp2
      go_ret
      exact ⟨isG3 rfl, HI.out.bel⟩
  have b4 : ¬ (70 : Int) < (x.n4 : Int) := by omega
  by_cases a5 : 70 < x.n5
  · have b5 : (70 : Int) < (x.n5 : Int) := by omega
    rcases hm2 with a1 | a1
    · have b1 : ¬ (60 : Int) < (x.n1 : Int) := by omega
      go_enter Tryz.func6, Tryz.ntmps6
      go_wp2
      go_ret
      exact ⟨isG3 rfl, HI.out.bel⟩
    · rw [a1] at y1
      clear a1
      go_enter Tryz.func6, Tryz.ntmps6
      go_wp2
      go_ret
      exact ⟨isG3 rfl, HI.out.bel⟩
  have b5 : ¬ (70 : Int) < (x.n5 : Int) := by omega
  have HNN : Hid ((x.n1 ≤ 60 ∨ x.n1 = 745) ∧ x.n2 ≤ 60 ∧ x.n3 ≤ 40 ∧ x.n4 ≤ 70 ∧ x.n5 ≤ 70) := hide ⟨hm2, by omega, by omega, by omega, by omega⟩
  obtain ⟨n1, hn1⟩ : ∃ n1, x.n1 = n1 := ⟨_, rfl⟩
  rw [hn1] at y1 hm2
  have HN := hide hn1
  clear hn1 HM2 a4 a5
  rcases hm2 with a1 | rfl
  all_goals (try have b1 : ¬ (60 : Int) < (n1 : Int) := by omega)
  all_goals
    go_enter Tryz.func6, Tryz.ntmps6
    go_wp2
    generalize w.alloc (.cells x.cs 28) = W at *
    go_loopw [3] (fun i wr => ∃ (k : Nat), i = .int .i64 k ∧ k ≤ x.n2 ∧ wr = W) (fun i _ => x.n2 - (intOf i).toNat)
    case atStart => exact ⟨0, rfl, Nat.zero_le _, rfl⟩
    case round =>
      obtain ⟨k, rfl, hk, rfl⟩ := hrel
      by_cases hlt : k < x.n2
      · have hk0 : (0 : Int) ≤ (k : Int) := by omega
        have hk1 : (k : Int) < (x.n2 : Int) := by omega
        rcases HI.out.sp.ts.2 with h0 | ⟨b, off, hao, hbl, hc⟩
        · omega
        have hck := hc k hlt
        clear hc
        rw [hao] at y2
        generalize gT s.tokens k = t at hck
        by_cases ht : 100 < t.size
        · have ht1 : (100 : Int) < (t.size : Int) := by omega
          go_wp2
          go_ret
          exact ⟨isG3 rfl, HI.out.bel⟩
        · have ht1 : ¬ (100 : Int) < (t.size : Int) := by omega
          go_wp2
          first
            | exact ⟨⟨k + 1, by go_num, by omega, (by first | trivial | rfl)⟩, by simp [intOf]; omega⟩
            | (go_roundw
               case rel => exact ⟨k + 1, by go_num, by omega, (by first | trivial | rfl)⟩
               case measure => simp [intOf]; omega)
      · have hkn : k = x.n2 := by omega
        subst hkn
        clear hlt hk
        go_wp2
        go_loopw [4] (fun i wr2 => ∃ (k : Nat), i = .int .i64 k ∧ k ≤ x.n3 ∧ wr2 = wr) (fun i _ => x.n3 - (intOf i).toNat)
        case atStart => exact ⟨0, rfl, Nat.zero_le _, rfl⟩
        case round =>
          obtain ⟨k, rfl, hk, rfl⟩ := hrel
          by_cases hlt : k < x.n3
          · have hk0 : (0 : Int) ≤ (k : Int) := by omega
            have hk1 : (k : Int) < (x.n3 : Int) := by omega
            rcases HI.out.sp.ss.2 with h0 | ⟨b, off, hao, hbl, hc⟩
            · omega
            have hck := (hc k hlt).2
            clear hc
            rw [hao] at y3
            generalize (gS s.specials k).2 = t at hck
            by_cases ht : 100 < t.size
            · have ht1 : (100 : Int) < (t.size : Int) := by omega
              go_wp2
              go_ret
              exact ⟨isG3 rfl, HI.out.bel⟩
            · have ht1 : ¬ (100 : Int) < (t.size : Int) := by omega
              go_wp2
              first
                | exact ⟨⟨k + 1, by go_num, by omega, (by first | trivial | rfl)⟩, by simp [intOf]; omega⟩
                | (go_roundw
                   case rel => exact ⟨k + 1, by go_num, by omega, (by first | trivial | rfl)⟩
                   case measure => simp [intOf]; omega)
          · have hkn : k = x.n3 := by omega
            subst hkn
            clear hlt hk
            go_wp2
            go_ret
            exact ⟨isN3 rfl HNN.out, HI.out.bel⟩
end Go.Proofs.YteiinkhdgppgbaaGreatDoor
