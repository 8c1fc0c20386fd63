/- TokenNews: of any merges the table, or which one can't be added, and why. -/
import Derived.Test.YtoibkkmfcdljkaaTkZ
namespace Go.Proofs.Ytoibkkmfcdljkaa
open Go.RowKit Go.Maps
set_option linter.unusedVariables false
set_option linter.unusedSimpArgs false
attribute [local go_sem ↓] Go.wp_at_zero Go.wp_at_succ

set_option maxRecDepth 20000 in
set_option maxHeartbeats 8000000 in
theorem news_walk (ao : Option Addr) (n cap : Nat) (M : List (Int × Int)) (w : World) (hM : ReadsM w ao n M) (hn : n ≤ 9223372036854775807) :
    Calls Try.prog 3 #[.slice ao n cap] w fun e w' => e = .returned (.bool true) ∧ Below w.heap.size w w' := by
  go_enter Try.func3, Try.ntmps3
  by_cases hbig : 60 < n
  · have hb : (60 : Int) < (n : Int) := by omega
    go_wp2_with fail
    refine (awake_any _).mono ?_
    rintro e w1 ⟨rfl, hb1⟩
    go_wp2
    go_ret
    exact ⟨rfl, hb1⟩
  · have hb : ¬ (60 : Int) < (n : Int) := by omega
    go_wp2_with fail
    refine (new_any ao n cap M w hM (by omega)).mono ?_
    rintro e w1 ⟨hres, hb1⟩
    have hM1 := hM.kept hb1
    have HRN := hide (rnew_any ao n cap M w1 hM1 (by omega))
    rcases hres with ⟨k, hk, hok, hne, rfl⟩ | ⟨hok, p, F, v0, v1, b2, b3, rfl, hT, hF⟩
    · have HOK := hide hok
      clear hok
      go_wp2_with fail
      refine (unhide HRN).mono ?_
      rintro e w2 ⟨k', c, vb, vm, rfl, hok', hc, hR, hb2⟩
      obtain ⟨rfl, hcc⟩ : k' = k ∧ c = addC (stT M k).1 (gm M k) := by
        rcases hc with ⟨h1, h2, h3⟩ | ⟨h1, h2⟩
        · by_cases e1 : k' < k
          · exact absurd (h2 ▸ HOK.out k' e1) h3
          · by_cases e2 : k < k'
            · exact absurd (hok' k e2) hne
            · obtain rfl : k' = k := by omega
              exact ⟨rfl, h2⟩
        · exact absurd (hok' k (by omega)) hne
      clear hc hok'
      rw [← hcc]
      rw [← hcc] at hne
      obtain ⟨a1, c1, hv1⟩ := row_form hR.rb
      obtain ⟨a2, c2, hv2⟩ := row_form hR.rm
      subst hv1 hv2
      have hne2 : (c == 0) = false := by simpa using hne
      have HB2 := hide (hb1.trans (hb2.mono hb1.size))
      clear hcc hR
      go_wp2_with fail
      refine (awake_any _).mono ?_
      rintro e w3 ⟨rfl, hb3⟩
      have HB3 := hide ((HB2.out.trans ((low1 w2 _).mono HB2.out.size)).trans (hb3.mono (by have := HB2.out.size; simp; omega)))
      go_wp2
      go_ret
      exact ⟨rfl, HB3.out⟩
    · have HOK := hide hok
      clear hok
      go_wp2_with fail
      refine (unhide HRN).mono ?_
      rintro e w2 ⟨k', c, vb, vm, rfl, hok', hc, hR, hb2⟩
      obtain ⟨rfl, rfl⟩ : k' = n ∧ c = 0 := by
        rcases hc with ⟨h1, h2, h3⟩ | h1
        · exact absurd (h2 ▸ HOK.out k' h1) h3
        · exact h1
      clear hc hok'
      obtain ⟨a1, c1, hv1⟩ := row_form hR.rb
      obtain ⟨a2, c2, hv2⟩ := row_form hR.rm
      have hT2 := hT.keptB hb2
      have htok := stT_tok M k'
      generalize (stT M k').1 = tx at *
      generalize (stT M k').2 = mg at *
      subst hv1 hv2
      have hlw := low1 w2 (.cells #[.slice a1 tx.length c1, .slice a2 mg.length c2] 30)
      have HSM := hide (same_any (hT2.keptB hlw) (hR.kept hlw) htok)
      have HB2 := hide (hb1.trans (hb2.mono hb1.size))
      have hz2 := (hb1.trans (hb2.mono hb1.size)).size
      clear hT hT2 hR hF
      go_wp2_with fail
      refine (unhide HSM).mono ?_
      rintro e w3 ⟨rfl, hb3⟩
      have HB3 := hide ((HB2.out.trans (hlw.mono HB2.out.size)).trans (hb3.mono (by simp; omega)))
      clear hb3
      go_wp2_with fail
      refine (awake_any _).mono ?_
      rintro e w4 ⟨rfl, hb4⟩
      have HB4 := hide (HB3.out.trans (hb4.mono HB3.out.size))
      go_wp2
      go_ret
      exact ⟨rfl, HB4.out⟩

end Go.Proofs.Ytoibkkmfcdljkaa
