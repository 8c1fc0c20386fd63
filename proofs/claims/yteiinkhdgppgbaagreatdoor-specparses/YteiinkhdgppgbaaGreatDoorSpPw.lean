/- The walk of SpecParses. -/
import Derived.Test.YteiinkhdgppgbaaGreatDoorSpPa
import Derived.Test.YteiinkhdgppgbaaGreatDoorSpAw
import Derived.Test.YteiinkhdgppgbaaGreatDoorSpSm
namespace Go.Proofs.YteiinkhdgppgbaaGreatDoor
open Go.RowKit
set_option linter.unusedVariables false
set_option linter.unusedSimpArgs false

theorem right_nn {s : Sp} {x : Sv} {w : World} (h : s.Right) (hS : SpAt w x s) : x.n1 ≤ 1000 ∧ x.n2 ≤ 1000 ∧ x.n3 ≤ 1000 ∧ x.n4 ≤ 1000 ∧ x.n5 ≤ 1000 := by
  have h1 := h.nm; have h2 := h.nt; have h3 := h.ns; have h4 := h.nc; have h5 := h.nj
  have g1 := hS.ms.1; have g2 := hS.ts.1; have g3 := hS.ss.1; have g4 := hS.cs.1; have g5 := hS.js.1
  unfold roomM at h1
  unfold roomT at h2
  refine ⟨?_, ?_, by omega, by omega, by omega⟩
  · split at h1 <;> omega
  · split at h2 <;> omega
theorem parse_form {t : List UInt8} (hl : t.length ≤ 60000) : (∃ s, parseP t = (s, 0, 0) ∧ s.Right) ∨ ∃ n, parseP t = (Sp.zero, n + 1, 2) := by
  cases hp : parseP t with
  | mk s q =>
    obtain ⟨n, e⟩ := q
    have hp2 := hp
    unfold parseP at hp
    rw [if_neg (by omega)] at hp
    unfold parseC at hp
    simp only at hp
    split at hp
    · cases hp
      obtain ⟨h1, _, _⟩ := parseP_sound hp2
      exact Or.inl ⟨_, rfl, h1⟩
    · cases hp
      exact Or.inr ⟨_, rfl⟩
theorem same_all {x y : Sv} {s : Sp} {w : World} (hR : s.Right) (hx : SpAt w x s) (hy : SpAt w y s) : Calls Tryz.prog 12 #[.agg x.cs, .agg y.cs] w fun e w' => e = .returned (.bool true) ∧ Below w.heap.size w w' := by
  obtain ⟨h1, h2, h3, h4, h5⟩ := right_nn hR hx
  exact same_any x y s w hx hy h1 h2 h3 h4 h5

set_option maxHeartbeats 16000000 in
set_option maxRecDepth 20000 in
theorem parses_walk (t : ByteArray) (w : World) (hE : Env w) (ht : t.size ≤ 9223372036854775807) :
    Calls Tryz.prog 4 #[.string t] w fun e w' => e = .returned (.bool true) ∧ Below w.heap.size w w' := by
  have hsz : t.data.toList.length = t.size := by rw [Array.length_toList]; rfl
  have HAW : Hid (∀ W, Below w.heap.size w W → Calls Tryz.prog 7 #[] W fun e w' => e = .returned (.bool true) ∧ Below W.heap.size W w') := hide fun W hb => awake6_any W (hE.kept hb)
  have KP := parseT_any t w hE ht
  unfold ParsePost at KP
  clear hE
  by_cases h3 : (3000 : Int) < (t.size : Int)
  · by_cases h6 : (t.size : Int) ≤ 60000
    · clear KP
      go_enter Tryz.func4, Tryz.ntmps4
      go_wp2_with fail
      refine (HAW.out _ (Below.refl _ _)).mono ?_
      rintro e w1 ⟨rfl, hb1⟩
      have HB1 := hide hb1
      clear hb1
      go_wp2
      go_ret
      exact ⟨rfl, HB1.out⟩
    · have hp : parseP t.data.toList = (Sp.zero, 0, 3) := by
        unfold parseP
        rw [if_pos (by omega)]
      rw [hp] at KP
      clear hp
      have h7 : (60000 : Int) < (t.size : Int) := by omega
      go_enter Tryz.func4, Tryz.ntmps4
      go_wp2_with fail
      refine KP.mono ?_
      clear KP
      rintro e w1 ⟨x, rfl, hx, hb1⟩
      have hlo := low_alloc w1 (.cells x.cs 28)
      have KS := same_all zero_right (hx.kept hlo) (zero_at (w1.alloc (.cells x.cs 28)))
      have HB2 := hide (hb1.trans (hlo.mono hb1.size))
      obtain ⟨x0, x1, x2, x3, x4, x5⟩ := BxS.new w1 x 28
      clear hb1 hx hlo
      go_wp2_with fail
      refine KS.mono ?_
      rintro e w2 ⟨rfl, hb2⟩
      have HB3 := hide (HB2.out.trans (hb2.mono HB2.out.size))
      clear KS hb2 x0 x1 x2 x3 x4 x5 HB2
      go_wp2_with fail
      refine (HAW.out _ HB3.out).mono ?_
      rintro e w3 ⟨rfl, hb3⟩
      have HB4 := hide (HB3.out.trans (hb3.mono HB3.out.size))
      clear hb3 HB3
      go_wp2
      go_ret
      exact ⟨rfl, HB4.out⟩
  · have h7 : ¬ (60000 : Int) < (t.size : Int) := by omega
    have KR := fun W => rparse_any t W (by omega)
    rcases parse_form (t := t.data.toList) (by omega) with ⟨s, hp, hR⟩ | ⟨n, hp⟩
    · rw [hp] at KP
      simp only [hp] at KR
      have HRT := hide hR
      clear hp hR
      go_enter Tryz.func4, Tryz.ntmps4
      go_wp2_with fail
      refine KP.mono ?_
      clear KP
      rintro e w1 ⟨x, rfl, hx, hb1⟩
      have hlo := low_alloc w1 (.cells x.cs 28)
      have HX := hide (hx.kept hlo)
      have HBX := hide (BxS.new w1 x 28)
      have HB2 := hide (hb1.trans (hlo.mono hb1.size))
      have hlt : w1.heap.size < (w1.alloc (.cells x.cs 28)).heap.size := by simp
      clear hb1 hx hlo
      have K2 := KR (w1.alloc (.cells x.cs 28))
      clear KR
      go_wp2_with fail
      refine K2.mono ?_
      clear K2
      rintro e w2 ⟨y, rfl, hy, hb2⟩
      have hlo := low_alloc w2 (.cells y.cs 28)
      have KS := same_all HRT.out ((HX.out.kept hb2).kept hlo) (hy.kept hlo)
      have HB3 := hide ((HB2.out.trans (hb2.mono HB2.out.size)).trans (hlo.mono (Nat.le_trans HB2.out.size hb2.size)))
      obtain ⟨x0, x1, x2, x3, x4, x5⟩ := (HBX.out.kept hlt hb2).kept (Nat.lt_of_lt_of_le hlt hb2.size) hlo
      obtain ⟨y0, y1, y2, y3, y4, y5⟩ := BxS.new w2 y 28
      clear hb2 hy hlo hlt
      go_wp2_with fail
      refine KS.mono ?_
      rintro e w3 ⟨rfl, hb3⟩
      have HB4 := hide (HB3.out.trans (hb3.mono HB3.out.size))
      clear KS hb3 x0 x1 x2 x3 x4 x5 y0 y1 y2 y3 y4 y5 HB3
      go_wp2_with fail
      refine (HAW.out _ HB4.out).mono ?_
      rintro e w4 ⟨rfl, hb4⟩
      have HB5 := hide (HB4.out.trans (hb4.mono HB4.out.size))
      clear hb4 HB4
      go_wp2
      go_ret
      exact ⟨rfl, HB5.out⟩
    · rw [hp] at KP
      simp only [hp] at KR
      clear hp
      have hn1 : (0 : Int) < ((n + 1 : Nat) : Int) := by omega
      generalize n + 1 = m at *
      go_enter Tryz.func4, Tryz.ntmps4
      go_wp2_with fail
      refine KP.mono ?_
      clear KP
      rintro e w1 ⟨x, rfl, hx, hb1⟩
      have hlo := low_alloc w1 (.cells x.cs 28)
      have HX := hide (hx.kept hlo)
      have HBX := hide (BxS.new w1 x 28)
      have HB2 := hide (hb1.trans (hlo.mono hb1.size))
      have hlt : w1.heap.size < (w1.alloc (.cells x.cs 28)).heap.size := by simp
      clear hb1 hx hlo
      have K2 := KR (w1.alloc (.cells x.cs 28))
      clear KR
      go_wp2_with fail
      refine K2.mono ?_
      clear K2
      rintro e w2 ⟨y, rfl, hy, hb2⟩
      have hlo := low_alloc w2 (.cells y.cs 28)
      have KS := same_all zero_right ((HX.out.kept hb2).kept hlo) (zero_at (w2.alloc (.cells y.cs 28)))
      have HB3 := hide ((HB2.out.trans (hb2.mono HB2.out.size)).trans (hlo.mono (Nat.le_trans HB2.out.size hb2.size)))
      obtain ⟨x0, x1, x2, x3, x4, x5⟩ := (HBX.out.kept hlt hb2).kept (Nat.lt_of_lt_of_le hlt hb2.size) hlo
      clear hb2 hy hlo hlt
      go_wp2_with fail
      refine KS.mono ?_
      rintro e w3 ⟨rfl, hb3⟩
      have HB4 := hide (HB3.out.trans (hb3.mono HB3.out.size))
      clear KS hb3 x0 x1 x2 x3 x4 x5 HB3
      go_wp2_with fail
      refine (HAW.out _ HB4.out).mono ?_
      rintro e w4 ⟨rfl, hb4⟩
      have HB5 := hide (HB4.out.trans (hb4.mono HB4.out.size))
      clear hb4 HB4
      go_wp2
      go_ret
      exact ⟨rfl, HB5.out⟩
end Go.Proofs.YteiinkhdgppgbaaGreatDoor
