/- Contracts of package mark: isRight, New. Contracts of the document's answer for marks: Check, Ints. What may stand in a set of marks. -/
import Derived.Test.YtdpmjaelbjjanaaGreatZQa30
import Derived.WideKeyEntry
import Derived.BigRegion
import Derived.Test.YtdpmjaelbjjanaaGreatZQa29
namespace Go.Proofs.YtdpmjaelbjjanaaGreat.Mk
open Go.RowKit Go.Maps
set_option linter.unusedVariables false
set_option linter.unusedSimpArgs false

/-- A special token that may be there. -/
def rgt (x : Int × ByteArray) : Prop := 0 ≤ x.1 ∧ x.1 ≤ 1073741824 ∧ 0 < x.2.size ∧ x.2.size ≤ 64
def GoodAt (L : List (Int × ByteArray)) (k : Nat) : Prop := rgt (gS L k) ∧ k < 32 ∧ ∀ j, j < k → (gS L j).1 ≠ (gS L k).1 ∧ (gS L j).2 ≠ (gS L k).2
def ErrAt (L : List (Int × ByteArray)) (k : Nat) (e : Int) : Prop := (¬ rgt (gS L k) ∧ e = 1) ∨ (rgt (gS L k) ∧ 32 ≤ k ∧ e = 3) ∨ (rgt (gS L k) ∧ k < 32 ∧ (∃ j, j < k ∧ ((gS L j).1 = (gS L k).1 ∨ (gS L j).2 = (gS L k).2)) ∧ e = 10)
/-- How many can be there, and the error of the next one. -/
def ChkR (L : List (Int × ByteArray)) (k : Nat) (e : Int) : Prop := (∀ i, i < k → GoodAt L i) ∧ (k = L.length ∧ e = 0 ∨ k < L.length ∧ ErrAt L k e)
theorem err_good {L : List (Int × ByteArray)} {k : Nat} {e : Int} (h : ErrAt L k e) (g : GoodAt L k) : False := by
  obtain ⟨g1, g2, g3⟩ := g
  rcases h with h | h | h
  · exact h.1 g1
  · omega
  · obtain ⟨_, _, ⟨j, hj, h1⟩, _⟩ := h
    rcases h1 with h1 | h1
    · exact (g3 j hj).1 h1
    · exact (g3 j hj).2 h1
theorem err_uniq {L : List (Int × ByteArray)} {k : Nat} {e e' : Int} (h : ErrAt L k e) (h' : ErrAt L k e') : e = e' := by
  rcases h with ⟨h1, rfl⟩ | ⟨h1, h2, rfl⟩ | ⟨h1, h2, h3, rfl⟩ <;> rcases h' with ⟨g1, rfl⟩ | ⟨g1, g2, rfl⟩ | ⟨g1, g2, g3, rfl⟩ <;> first | rfl | (exact absurd ‹rgt (gS L k)› ‹¬ rgt (gS L k)›) | omega
theorem err_ne {L : List (Int × ByteArray)} {k : Nat} {e : Int} (h : ErrAt L k e) : e ≠ 0 := by
  rcases h with ⟨_, rfl⟩ | ⟨_, _, rfl⟩ | ⟨_, _, _, rfl⟩ <;> decide
theorem chk_uniq {L : List (Int × ByteArray)} {k k' : Nat} {e e' : Int} (h : ChkR L k e) (h' : ChkR L k' e') : k = k' ∧ e = e' := by
  obtain ⟨g, h⟩ := h
  obtain ⟨g', h'⟩ := h'
  rcases h with ⟨rfl, rfl⟩ | ⟨hk, he⟩
  · rcases h' with ⟨rfl, rfl⟩ | ⟨hk', he'⟩
    · exact ⟨rfl, rfl⟩
    · exact absurd (g _ hk') (fun x => err_good he' x)
  · rcases h' with ⟨rfl, rfl⟩ | ⟨hk', he'⟩
    · exact absurd (g' _ hk) (fun x => err_good he x)
    · have : k = k' := by
        rcases Nat.lt_trichotomy k k' with h1 | h1 | h1
        · exact absurd (g' _ h1) (fun x => err_good he x)
        · exact h1
        · exact absurd (g _ h1) (fun x => err_good he' x)
      subst this
      exact ⟨rfl, err_uniq he he'⟩

theorem right_yes (x1 : Int) (x2 : ByteArray) (w : World) (h : rgt (x1, x2)) : Calls Tryz.prog 157 #[.agg #[.int .i64 x1, .string x2]] w fun e w' => e = .returned (.bool true) ∧ Below w.heap.size w w' := by
  obtain ⟨h1, h2, h3, h4⟩ := h
  simp only at h1 h2 h3 h4
  have he := isEmpty_false (show ¬ x2.size = 0 by omega)
  go_enter Tryz.func157, Tryz.ntmps157
  go_wp2
  go_ret
  exact ⟨by simp; omega, low1 _ _⟩
theorem right_no (x1 : Int) (x2 : ByteArray) (w : World) (h : ¬ rgt (x1, x2)) : Calls Tryz.prog 157 #[.agg #[.int .i64 x1, .string x2]] w fun e w' => e = .returned (.bool false) ∧ Below w.heap.size w w' := by
  unfold rgt at h
  simp only at h
  by_cases h1 : 0 ≤ x1
  · by_cases h2 : x1 ≤ 1073741824
    · by_cases h3 : x2.size = 0
      · have he := isEmpty_true h3
        clear h h3
        go_enter Tryz.func157, Tryz.ntmps157
        go_wp2
        go_ret
        exact ⟨rfl, low1 _ _⟩
      · have he := isEmpty_false h3
        have h4 : ¬ x2.size ≤ 64 := by omega
        clear h
        go_enter Tryz.func157, Tryz.ntmps157
        go_wp2
        go_ret
        exact ⟨by simp; omega, low1 _ _⟩
    · clear h
      go_enter Tryz.func157, Tryz.ntmps157
      go_wp2
      go_ret
      exact ⟨rfl, low1 _ _⟩
  · clear h
    go_enter Tryz.func157, Tryz.ntmps157
    go_wp2
    go_ret
    exact ⟨rfl, low1 _ _⟩

end Go.Proofs.YtdpmjaelbjjanaaGreat.Mk

namespace Go.Proofs.YtdpmjaelbjjanaaGreat.Mk
open Go.RowKit Go.Maps
set_option linter.unusedVariables false
set_option linter.unusedSimpArgs false

section
variable {ao : Option Addr} {cap : Nat} {L : List (Int × ByteArray)} {w : World}
set_option maxRecDepth 20000 in
set_option maxHeartbeats 8000000 in
theorem rchk_any (h : RdS w ao L.length L) (hn : L.length ≤ 1000) : Calls Tryz.prog 70 #[.slice ao L.length cap] w fun e w' => (∃ (k : Nat) (er : Int), e = .returned (.tuple #[.int .i64 k, .int .i64 er]) ∧ ChkR L k er) ∧ Below w.heap.size w w' := by
  have HR := hide h
  clear h
  go_enter Tryz.func70, Tryz.ntmps70
  go_wp2
  go_loopw [4] (fun i wr => ∃ (k : Nat), i = .int .i64 k ∧ k ≤ L.length ∧ Hid (∀ i, i < k → GoodAt L i) ∧ Hid (Below w.heap.size w wr)) (fun i _ => L.length - (intOf i).toNat)
  case atStart => exact ⟨0, rfl, Nat.zero_le _, hide (fun i hi => by omega), hide (Below.refl _ _)⟩
  case round =>
    obtain ⟨k, rfl, hkn, HA, HB⟩ := hrel
    by_cases hlt : k < L.length
    · have hk0 : (0 : Int) ≤ (k : Int) := by omega
      have hk1 : (k : Int) < (L.length : Int) := by omega
      rcases HR.out.2 with h0 | ⟨b, off, rfl, hbl0, hc⟩
      · omega
      have c0 := (HB.out.cell (p := ⟨b, _, none⟩) hbl0).trans (hc k hlt).1
      have c1 := (HB.out.cell (p := ⟨b, _, none⟩) hbl0).trans (hc k hlt).2
      have HC := hide hc
      have HK0 := hide (hc k hlt).1
      have HK1 := hide (hc k hlt).2
      clear hc
      have HE1 : Hid (¬ (0 ≤ (gS L k).1 ∧ (gS L k).1 ≤ 1073741824 ∧ 0 < (gS L k).2.size ∧ (gS L k).2.size ≤ 64) → ErrAt L k 1) := hide (fun h => Or.inl ⟨h, rfl⟩)
      have HE3 : Hid ((0 ≤ (gS L k).1 ∧ (gS L k).1 ≤ 1073741824 ∧ 0 < (gS L k).2.size ∧ (gS L k).2.size ≤ 64) → 32 ≤ k → ErrAt L k 3) := hide (fun h h2 => Or.inr (Or.inl ⟨h, h2, rfl⟩))
      have HE10 : Hid ((0 ≤ (gS L k).1 ∧ (gS L k).1 ≤ 1073741824 ∧ 0 < (gS L k).2.size ∧ (gS L k).2.size ≤ 64) → k < 32 → ∀ j, j < k → ((gS L j).1 = (gS L k).1 ∨ (gS L j).2 = (gS L k).2) → ErrAt L k 10) := hide (fun h h2 j hj hs => Or.inr (Or.inr ⟨h, h2, ⟨j, hj, hs⟩, rfl⟩))
      have HGd : Hid ((0 ≤ (gS L k).1 ∧ (gS L k).1 ≤ 1073741824 ∧ 0 < (gS L k).2.size ∧ (gS L k).2.size ≤ 64) → k < 32 → (∀ j, j < k → (gS L j).1 ≠ (gS L k).1 ∧ (gS L j).2 ≠ (gS L k).2) → GoodAt L k) := hide (fun h h2 h3 => ⟨h, h2, h3⟩)
      generalize (gS L k).1 = x1 at *
      generalize (gS L k).2 = x2 at *
      by_cases hr : 0 ≤ x1 ∧ x1 ≤ 1073741824 ∧ 0 < x2.size ∧ x2.size ≤ 64
      · obtain ⟨r1, r2, r3, r4⟩ := hr
        have hr1 : ¬ x1 < 0 := by omega
        have hr2 : ¬ 1073741824 < x1 := by omega
        have hr3 : ¬ x2.size < 1 := by omega
        have hr4 : ¬ 64 < x2.size := by omega
        by_cases h32 : 32 ≤ k
        · go_wp2
          go_ret2
          exact ⟨⟨k, 3, rfl, HA.out, Or.inr ⟨hlt, HE3.out ⟨r1, r2, r3, r4⟩ h32⟩⟩, HB.out⟩
        · go_wp2
          go_loopw [5] (fun i wr2 => ∃ (j : Nat), i = .int .i64 j ∧ j ≤ k ∧ Hid (∀ i, i < j → (gS L i).1 ≠ x1 ∧ (gS L i).2 ≠ x2) ∧ Hid (Below w.heap.size w wr2)) (fun i _ => k - (intOf i).toNat)
          case atStart => exact ⟨0, rfl, Nat.zero_le _, hide (fun i hi => by omega), HB⟩
          case round =>
            obtain ⟨j, rfl, hjk, HJ, HB2⟩ := hrel
            by_cases hlj : j < k
            · have hj0 : (0 : Int) ≤ (j : Int) := by omega
              have hj1 : (j : Int) < (k : Int) := by omega
              have hj2 : (j : Int) < (L.length : Int) := by omega
              have d0 := (HB2.out.cell (p := ⟨b, _, none⟩) hbl0).trans (HC.out j (by omega)).1
              have d1 := (HB2.out.cell (p := ⟨b, _, none⟩) hbl0).trans (HC.out j (by omega)).2
              have e0 := (HB2.out.cell (p := ⟨b, _, none⟩) hbl0).trans HK0.out
              have e1 := (HB2.out.cell (p := ⟨b, _, none⟩) hbl0).trans HK1.out
              have HN : Hid ((gS L j).1 ≠ x1 → (gS L j).2 ≠ x2 → ∀ i, i < j + 1 → (gS L i).1 ≠ x1 ∧ (gS L i).2 ≠ x2) := hide (fun h1 h2 i hi => by
                by_cases e : i = j
                · subst e; exact ⟨h1, h2⟩
                · exact HJ.out i (by omega))
              have HY : Hid (((gS L j).1 = x1 ∨ (gS L j).2 = x2) → ErrAt L k 10) := hide (fun h => HE10.out ⟨r1, r2, r3, r4⟩ (by omega) j hlj h)
              clear c0 c1
              generalize (gS L j).1 = y1 at *
              generalize (gS L j).2 = y2 at *
              by_cases hy1 : y1 = x1
              · have hb1 : (y1 == x1) = true := by simpa using hy1
                have HY1 := hide (HY.out (Or.inl hy1))
                clear hy1
                go_wp2
                go_quiet (fail)
                have HB3 := hide (lowD HB2.out nq)
                clear d0 d1 e0 e1
                generalize wr.drewN nq = wd at *
                go_wp2
                go_ret2
                exact ⟨⟨k, 10, rfl, HA.out, Or.inr ⟨hlt, HY1.out⟩⟩, HB3.out⟩
              · have hb1 : (y1 == x1) = false := by simpa using hy1
                by_cases hy2 : y2 = x2
                · have hb2 : (y2.toList == x2.toList) = true := by rw [beqS]; simpa using hy2
                  have HY1 := hide (HY.out (Or.inr hy2))
                  clear hy2 hy1
                  go_wp2
                  go_quiet (fail)
                  have HB3 := hide (lowD HB2.out nq)
                  clear d0 d1 e0 e1
                  generalize wr.drewN nq = wd at *
                  go_wp2
                  go_ret2
                  exact ⟨⟨k, 10, rfl, HA.out, Or.inr ⟨hlt, HY1.out⟩⟩, HB3.out⟩
                · have hb2 : (y2.toList == x2.toList) = false := by rw [beqS]; simpa using hy2
                  have HN1 := hide (HN.out hy1 hy2)
                  clear hy2 hy1
                  go_wp2
                  go_quiet (fail)
                  have HB3 := hide (lowD HB2.out nq)
                  clear d0 d1 e0 e1
                  generalize wr.drewN nq = wd at *
                  go_wp2
                  exact ⟨⟨j + 1, by go_num, by omega, HN1, HB3⟩, by simp [intOf]; omega⟩
            · obtain rfl : j = k := by omega
              have HG := hide (HGd.out ⟨r1, r2, r3, r4⟩ (by omega) (fun i hi => HJ.out i hi))
              go_wp2
              refine ⟨⟨j + 1, by go_num, by omega, hide (fun i hi => ?_), HB2⟩, by simp [intOf]; omega⟩
              by_cases e : i = j
              · subst e; exact HG.out
              · exact HA.out i (by omega)
      · have HE := hide (HE1.out hr)
        by_cases q1 : x1 < 0
        · go_wp2
          go_ret2
          exact ⟨⟨k, 1, rfl, HA.out, Or.inr ⟨hlt, HE.out⟩⟩, HB.out⟩
        · by_cases q2 : 1073741824 < x1
          · go_wp2
            go_ret2
            exact ⟨⟨k, 1, rfl, HA.out, Or.inr ⟨hlt, HE.out⟩⟩, HB.out⟩
          · by_cases q3 : x2.size < 1
            · clear hr
              go_wp2
              go_ret2
              exact ⟨⟨k, 1, rfl, HA.out, Or.inr ⟨hlt, HE.out⟩⟩, HB.out⟩
            · have q4 : 64 < x2.size := by omega
              clear hr
              go_wp2
              go_ret2
              exact ⟨⟨k, 1, rfl, HA.out, Or.inr ⟨hlt, HE.out⟩⟩, HB.out⟩
    · obtain rfl : k = L.length := by omega
      go_wp2
      go_ret2
      exact ⟨⟨L.length, 0, rfl, HA.out, Or.inl ⟨rfl, rfl⟩⟩, HB.out⟩
end
end Go.Proofs.YtdpmjaelbjjanaaGreat.Mk

namespace Go.Proofs.YtdpmjaelbjjanaaGreat.Mk
set_option linter.unusedVariables false
set_option linter.unusedSimpArgs false

end Go.Proofs.YtdpmjaelbjjanaaGreat.Mk
