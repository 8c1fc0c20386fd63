/- Contracts of the document's answer for tokens: Add, whatever comes, and New. -/
import Derived.Test.YtadbffphmmkljaaTkU
namespace Go.Proofs.Ytadbffphmmkljaa
open Go.RowKit Go.Maps
set_option linter.unusedVariables false
set_option linter.unusedSimpArgs false
attribute [local go_sem ↓] Go.wp_at_zero Go.wp_at_succ

section
variable {vb vm : Value} {tx : List ByteArray} {mg : List (Int × Int)} {w : World}

theorem radd_any (h : RT vb vm tx mg w) (hk : Tok tx mg) (m : Int × Int) :
    Calls Try.prog 21 #[.agg #[vb, vm], .agg #[.int .i64 m.1, .int .i64 m.2]] w fun e w' => (∃ vb' vm', e = .returned (rtR vb' vm' (addC tx m)) ∧ RT vb' vm' (nextT tx m) (nextM tx mg m) w' ∧ (∀ k, vb'.ownBlock = some k → vb.ownBlock = some k ∨ w.heap.size ≤ k) ∧ (∀ k, vm'.ownBlock = some k → vm.ownBlock = some k ∨ w.heap.size ≤ k)) ∧ Below w.heap.size w w' := by
  have same : ∀ (c : Int), addC tx m = c → c ≠ 0 → ∀ e w', (e = Ending.returned (rtR vb vm c) ∧ Below w.heap.size w w') → ((∃ vb' vm', e = .returned (rtR vb' vm' (addC tx m)) ∧ RT vb' vm' (nextT tx m) (nextM tx mg m) w' ∧ (∀ k, vb'.ownBlock = some k → vb.ownBlock = some k ∨ w.heap.size ≤ k) ∧ (∀ k, vm'.ownBlock = some k → vm.ownBlock = some k ∨ w.heap.size ≤ k)) ∧ Below w.heap.size w w') := by
    rintro c hc hne e w' ⟨rfl, hb⟩
    have hn : addC tx m ≠ 0 := by rw [hc]; exact hne
    rw [hc]
    unfold nextT nextM
    rw [if_neg hn, if_neg hn]
    exact ⟨⟨vb, vm, rfl, h.kept hb, fun k e => Or.inl e, fun k e => Or.inl e⟩, hb⟩
  by_cases h1 : m.1 < 0 ∨ (tx.length : Int) ≤ m.1 ∨ m.2 < 0 ∨ (tx.length : Int) ≤ m.2
  · exact (radd_id h m (by omega)).mono (same 4 (by unfold addC; rw [if_pos h1]) (by omega))
  · obtain ⟨i, hi⟩ := Int.eq_ofNat_of_zero_le (show 0 ≤ m.1 by omega)
    obtain ⟨j, hj⟩ := Int.eq_ofNat_of_zero_le (show 0 ≤ m.2 by omega)
    have hil : i < tx.length := by omega
    have hjl : j < tx.length := by omega
    have hS : addS tx m = gs tx i ++ gs tx j := by unfold addS; rw [hi, hj]; rfl
    have hC : addC tx m = if 64 < (addS tx m).size then 3 else if 1000 ≤ tx.length then 5 else if (addS tx m).data.toList ∈ tx.map (fun t => t.data.toList) then 10 else 0 := by
      unfold addC
      rw [if_neg h1]
      rfl
    have hzi := hk.sz i hil
    have hzj := hk.sz j hjl
    rw [hi, hj]
    by_cases h2 : 64 < (addS tx m).size
    · exact (radd_long h i j hil hjl hzi hzj _ hS.symm h2).mono (same 3 (by rw [hC, if_pos h2]) (by omega))
    · rw [if_neg h2] at hC
      by_cases h3 : 1000 ≤ tx.length
      · exact (radd_full h i j hil hjl hzi hzj _ hS.symm (by omega) h3).mono (same 5 (by rw [hC, if_pos h3]) (by omega))
      · rw [if_neg h3] at hC
        by_cases h4 : addS tx m ∈ tx
        · exact (radd_twice h i j hil hjl hzi hzj _ hS.symm (by omega) (by omega) h4).mono (same 10 (by rw [hC, if_pos (data_mem.2 h4)]) (by omega))
        · rw [if_neg (fun e => h4 (data_mem.1 e))] at hC
          have hm : ((i : Int), (j : Int)) = m := by cases m; simp at hi hj; simp [hi, hj]
          have hlen := hk.len
          refine (radd_ok h i j hil hjl hzi hzj _ hS.symm (by omega) (by omega) (by omega) h4).mono ?_
          rintro e w' ⟨⟨vb', vm', rfl, hT, hb1, hb2⟩, hB⟩
          rw [hm] at hT
          unfold nextT nextM
          rw [if_pos hC, if_pos hC, hC]
          exact ⟨⟨vb', vm', rfl, hT, fun k e => Or.inr (hb1 k e), fun k e => Or.inr (hb2 k e)⟩, hB⟩
end

theorem stT_of {M : List (Int × Int)} {k : Nat} : stT M (k + 1) = (nextT (stT M k).1 (gm M k), nextM (stT M k).1 (stT M k).2 (gm M k)) := rfl

end Go.Proofs.Ytadbffphmmkljaa
