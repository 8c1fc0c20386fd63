/- VocabOwn: rows that are written, a vocabulary that stays as it is. VocabOwn: the walk. -/
import Derived.Test.YteonoccefpkcgaaGreatDoorQi42
import Derived.Test.YteonoccefpkcgaaGreatDoorQi39
import Derived.Test.YteonoccefpkcgaaGreatDoorQi33
namespace Go.Proofs.YteonoccefpkcgaaGreatDoor
open Go.RowKit Go.Maps
set_option linter.unusedVariables false
set_option linter.unusedSimpArgs false
attribute [local go_sem ↓] Go.wp_at_zero Go.wp_at_succ

/-- Too great, or not. -/
def G10 (nu nc nj : Nat) (X : List (Int × ByteArray)) (e : Ending) : Prop := ∃ b, e = .returned (.bool b) ∧ (b = false → nu ≤ 60 ∧ nc ≤ 20 ∧ nj ≤ 20 ∧ Mk.fewS X)

set_option maxRecDepth 20000 in
set_option maxHeartbeats 4000000 in
theorem rgreat10_any (au : Option Addr) (nu cu : Nat) (ac : Option Addr) (nc cc : Nat) (aj : Option Addr) (nj cj : Nat) (ax : Option Addr) (nx cx : Nat) (X : List (Int × ByteArray)) (w : World) (hX : Mk.RdS w ax nx X) (hn : nx ≤ 9223372036854775807) :
    Calls Tryz.prog 5 #[.slice au nu cu, .slice ac nc cc, .slice aj nj cj, .slice ax nx cx] w fun e w' => G10 nu nc nj X e ∧ Below w.heap.size w w' := by
  have HK := hide (Mk.great_any (cap := cx) hX hn)
  clear hX hn
  by_cases h1 : 60 < nu
  · have g1 : (60 : Int) < (nu : Int) := by omega
    go_enter Tryz.func5, Tryz.ntmps5
    go_wp2
    go_ret
    exact ⟨⟨true, rfl, fun h => by cases h⟩, Below.refl _ _⟩
  have g1 : ¬ (60 : Int) < (nu : Int) := by omega
  by_cases h2 : 20 < nc
  · have g2 : (20 : Int) < (nc : Int) := by omega
    go_enter Tryz.func5, Tryz.ntmps5
    go_wp2
    go_ret
    exact ⟨⟨true, rfl, fun h => by cases h⟩, Below.refl _ _⟩
  have g2 : ¬ (20 : Int) < (nc : Int) := by omega
  by_cases h3 : 20 < nj
  · have g3 : (20 : Int) < (nj : Int) := by omega
    go_enter Tryz.func5, Tryz.ntmps5
    go_wp2
    go_ret
    exact ⟨⟨true, rfl, fun h => by cases h⟩, Below.refl _ _⟩
  have g3 : ¬ (20 : Int) < (nj : Int) := by omega
  have HF := hide (And.intro h1 (And.intro h2 h3))
  clear h1 h2 h3
  go_enter Tryz.func5, Tryz.ntmps5
  go_wp2_with fail
  refine (unhide HK).mono ?_
  rintro e w2 ⟨⟨b, rfl, hb⟩, hw⟩
  have HB := hide hb
  have HW := hide hw
  clear hb hw HK
  go_wp2
  go_ret
  exact ⟨⟨b, rfl, fun h => ⟨by have := HF.out.1; omega, by have := HF.out.2.1; omega, by have := HF.out.2.2; omega, HB.out h⟩⟩, HW.out⟩
end Go.Proofs.YteonoccefpkcgaaGreatDoor

namespace Go.Proofs.YteonoccefpkcgaaGreatDoor
open Go.RowKit Go.Maps
set_option linter.unusedVariables false
set_option linter.unusedSimpArgs false
attribute [local go_sem ↓] Go.wp_at_zero Go.wp_at_succ

end Go.Proofs.YteonoccefpkcgaaGreatDoor
