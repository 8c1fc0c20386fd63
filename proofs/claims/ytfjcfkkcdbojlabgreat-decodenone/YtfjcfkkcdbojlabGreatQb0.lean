/- DecodeNone: the walk. -/
import Derived.Test.YtfjcfkkcdbojlabGreatQa38
import Derived.Deep.RegionHeld3
namespace Go.Proofs.YtfjcfkkcdbojlabGreat
open Go.RowKit Go.Maps
set_option linter.unusedVariables false
set_option linter.unusedSimpArgs false

set_option maxRecDepth 20000 in
set_option maxHeartbeats 16000000 in
theorem dnone_walk (ai : Option Addr) (ni ci : Nat) (I : List Int) (w : World) (hI : Mk.RdI w ai ni I) (hlen : ni ≤ 9223372036854775807) (hw : ∀ j, j < ni → Mk.wfI (Mk.gI I j)) :
    Calls Tryz.prog 3 #[.slice ai ni ci] w fun e w' => e = .returned (.bool true) ∧ Below w.heap.size w w' := by
  have KA := hide (awake13_any w)
  clear hI hlen hw
  by_cases h : 100 < ni
  · have g1 : (100 : Int) < (ni : Int) := by omega
    go_enter Tryz.func3, Tryz.ntmps3
    go_wp2_with fail
    refine (unhide KA).mono ?_
    rintro e w1 ⟨rfl, hb⟩
    have HB := hide hb
    clear hb KA
    go_wp2
    (try simp only [Exit.inBlock, Exit.then])
    refine bodyPost_ret (v := .bool true) (by simp [results, Tryz.results3, go_sem]) rfl ?_
    exact ⟨rfl, HB.out⟩
  · have g1 : ¬ (100 : Int) < (ni : Int) := by omega
    have K1 := hide (dtext_nil w ai ni ci)
    have K2 := hide (dnew_nil w)
    have K3 := hide (dfeed_nil w ai ni ci)
    have K4 := hide (dheld_nil w)
    have K5 := hide (dclose_nil w)
    have K6 := hide (dbytes_nil w)
    go_enter Tryz.func3, Tryz.ntmps3
    go_wp2_with fail
    refine (unhide K1).mono ?_
    rintro e w1 ⟨rfl, h1⟩
    obtain rfl := h1.symm
    clear h1 K1
    go_wp2_with fail
    refine (unhide K2).mono ?_
    rintro e w1 ⟨rfl, h1⟩
    obtain rfl := h1.symm
    clear h1 K2
    go_wp2_with fail
    refine (unhide K3).mono ?_
    rintro e w1 ⟨rfl, h1⟩
    obtain rfl := h1.symm
    clear h1 K3
    go_wp2_with fail
    refine (unhide K4).mono ?_
    rintro e w1 ⟨rfl, h1⟩
    obtain rfl := h1.symm
    clear h1 K4
    go_wp2_with fail
    refine (unhide K5).mono ?_
    rintro e w1 ⟨rfl, h1⟩
    obtain rfl := h1.symm
    clear h1 K5
    go_wp2_with fail
    refine (unhide K6).mono ?_
    rintro e w1 ⟨rfl, h1⟩
    obtain rfl := h1.symm
    clear h1 K6
    go_wp2_with fail
    refine (unhide KA).mono ?_
    rintro e w1 ⟨rfl, hb⟩
    have HB := hide hb
    clear hb KA
    go_wp2
    go_ret
    exact ⟨rfl, HB.out⟩
end Go.Proofs.YtfjcfkkcdbojlabGreat
