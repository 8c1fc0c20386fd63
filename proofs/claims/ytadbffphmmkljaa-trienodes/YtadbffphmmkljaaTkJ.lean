/- Contracts of package token: Add as a whole, New. -/
import Derived.Test.YtadbffphmmkljaaTkH
import Derived.Test.YtadbffphmmkljaaTkI
namespace Go.Proofs.Ytadbffphmmkljaa
open Go.RowKit Go.Maps
set_option linter.unusedVariables false
set_option linter.unusedSimpArgs false

def nextT (tx : List ByteArray) (m : Int × Int) : List ByteArray := if addC tx m = 0 then tx ++ [addS tx m] else tx
def nextM (tx : List ByteArray) (mg : List (Int × Int)) (m : Int × Int) : List (Int × Int) := if addC tx m = 0 then mg ++ [m] else mg
theorem Tok.next {tx : List ByteArray} {mg : List (Int × Int)} (h : Tok tx mg) (m : Int × Int) : Tok (nextT tx m) (nextM tx mg m) := by
  unfold nextT nextM
  by_cases hc : addC tx m = 0
  · rw [if_pos hc, if_pos hc]; exact h.add hc
  · rw [if_neg hc, if_neg hc]; exact h

section
variable {F : List Nat} {p : Nat} {v0 v1 : Value} {b2 b3 : Nat} {tx : List ByteArray} {mg : List (Int × Int)} {w : World}

theorem add_any (h : TAt F p v0 v1 b2 b3 tx mg (lgs tx) w) (hk : Tok tx mg) (m : Int × Int) :
    Calls Try.prog 18 #[.pointer (some ⟨p, 0, none⟩), .agg #[.int .i64 m.1, .int .i64 m.2]] w fun e w' => e = .returned (two (if addC tx m = 0 then tx.length else 0) (addC tx m)) ∧ ∃ F' v0' v1', TAt F' p v0' v1' b2 b3 (nextT tx m) (nextM tx mg m) (lgs (nextT tx m)) w' ∧ FrL F w w' ∧ NwL w F F' := by
  have same : ∀ (c : Int), addC tx m = c → c ≠ 0 → ∀ e w', (e = Ending.returned (two 0 c) ∧ Below w.heap.size w w') → (e = .returned (two (if addC tx m = 0 then tx.length else 0) (addC tx m)) ∧ ∃ F' v0' v1', TAt F' p v0' v1' b2 b3 (nextT tx m) (nextM tx mg m) (lgs (nextT tx m)) w' ∧ FrL F w w' ∧ NwL w F F') := by
    rintro c hc hne e w' ⟨rfl, hb⟩
    have hn : addC tx m ≠ 0 := by rw [hc]; exact hne
    rw [if_neg hn, hc]
    unfold nextT nextM
    rw [if_neg hn, if_neg hn]
    exact ⟨rfl, F, v0, v1, h.keptB hb, FrL.ofBelow hb, NwL.refl _ _⟩
  by_cases h1 : m.1 < 0 ∨ (tx.length : Int) ≤ m.1 ∨ m.2 < 0 ∨ (tx.length : Int) ≤ m.2
  · exact (add_id h m.1 m.2 (by omega)).mono (same 4 (by unfold addC; rw [if_pos h1]) (by omega))
  · obtain ⟨i, hi⟩ := Int.eq_ofNat_of_zero_le (show 0 ≤ m.1 by omega)
    obtain ⟨j, hj⟩ := Int.eq_ofNat_of_zero_le (show 0 ≤ m.2 by omega)
    have hil : i < tx.length := by omega
    have hjl : j < tx.length := by omega
    have hS : addS tx m = gs tx i ++ gs tx j := by unfold addS; rw [hi, hj]; rfl
    have hC : addC tx m = if 64 < (addS tx m).size then 3 else if 1000 ≤ tx.length then 5 else if (addS tx m).data.toList ∈ tx.map (fun t => t.data.toList) then 10 else 0 := by
      unfold addC
      rw [if_neg h1]
      rfl
    have hzi := hk.sz i hil
    have hzj := hk.sz j hjl
    rw [hi, hj]
    by_cases h2 : 64 < (addS tx m).size
    · exact (add_long h i j hil hjl hzi hzj _ hS.symm h2).mono (same 3 (by rw [hC, if_pos h2]) (by omega))
    · rw [if_neg h2] at hC
      by_cases h3 : 1000 ≤ tx.length
      · exact (add_full h i j hil hjl hzi hzj _ hS.symm (by omega) h3).mono (same 5 (by rw [hC, if_pos h3]) (by omega))
      · rw [if_neg h3] at hC
        by_cases h4 : addS tx m ∈ tx
        · obtain ⟨k, hkl, hke⟩ := gs_mem.1 h4
          exact (add_twice h i j hil hjl hzi hzj _ hS.symm (by omega) (by omega) k hkl hke).mono (same 10 (by rw [hC, if_pos (data_mem.2 h4)]) (by omega))
        · rw [if_neg (fun e => h4 (data_mem.1 e))] at hC
          have hm : ((i : Int), (j : Int)) = m := by cases m; simp at hi hj; simp [hi, hj]
          have hlg := hk.lg0
          refine (add_ok h i j hil hjl hzi hzj _ hS.symm (by omega) (by omega) h4 hk.len hk.wf (by rw [hm]; exact hk.not_mem h4) (by omega) _ (lgs_snoc tx (addS tx m))).mono ?_
          rintro e w' ⟨rfl, F', v0', v1', hT, hF, hN⟩
          rw [hm] at hT
          unfold nextT nextM
          rw [if_pos hC, if_pos hC, if_pos hC, hC]
          exact ⟨rfl, F', v0', v1', hT, hF, hN⟩
end

/-- The merges that came in lie at ao. -/
def ReadsM (w : World) (ao : Option Addr) (n : Nat) (M : List (Int × Int)) : Prop :=
  M.length = n ∧ (n = 0 ∨ ∃ b off, ao = some ⟨b, off, none⟩ ∧ ∀ i, i < n → w.cell? ⟨b, off + i * 2, none⟩ = some (.int .i64 (gm M i).1) ∧ w.cell? ⟨b, off + i * 2 + 1, none⟩ = some (.int .i64 (gm M i).2))
theorem ReadsM.kept {w w' : World} {ao : Option Addr} {n : Nat} {M : List (Int × Int)} (h : ReadsM w ao n M) (hb : Below w.heap.size w w') : ReadsM w' ao n M := by
  refine ⟨h.1, ?_⟩
  rcases h.2 with h | ⟨b, off, rfl, hc⟩
  · exact Or.inl h
  · exact Or.inr ⟨b, off, rfl, fun i hi => ⟨(hb.cell (World.block_lt_of_cell? w _ (hc i hi).1)).trans (hc i hi).1, (hb.cell (World.block_lt_of_cell? w _ (hc i hi).2)).trans (hc i hi).2⟩⟩
theorem ReadsM.at {w : World} {ao : Option Addr} {n : Nat} {M : List (Int × Int)} (h : ReadsM w ao n M) {i : Nat} (hi : i < n) :
    ∃ b off, ao = some ⟨b, off, none⟩ ∧ b < w.heap.size ∧ w.cell? ⟨b, off + i * 2, none⟩ = some (.int .i64 (gm M i).1) ∧ w.cell? ⟨b, off + i * 2 + 1, none⟩ = some (.int .i64 (gm M i).2) := by
  rcases h.2 with h | ⟨b, off, rfl, hc⟩
  · omega
  · exact ⟨b, off, rfl, World.block_lt_of_cell? w _ (hc i hi).1, hc i hi⟩

/-- The table behind the first k merges. -/
def stT (M : List (Int × Int)) : Nat → List ByteArray × List (Int × Int)
  | 0 => (tb 256, [])
  | k + 1 => (nextT (stT M k).1 (gm M k), nextM (stT M k).1 (stT M k).2 (gm M k))
theorem stT_tok (M : List (Int × Int)) (k : Nat) : Tok (stT M k).1 (stT M k).2 := by
  induction k with
  | zero => exact tok_begin
  | succ k ih => exact ih.next _

set_option maxRecDepth 20000 in
set_option maxHeartbeats 4000000 in
theorem new_any (ao : Option Addr) (n cap : Nat) (M : List (Int × Int)) (w : World) (hM : ReadsM w ao n M) (hn : n ≤ 1000000) :
    Calls Try.prog 8 #[.slice ao n cap] w fun e w' =>
      ((∃ k : Nat, k < n ∧ (∀ j, j < k → addC (stT M j).1 (gm M j) = 0) ∧ addC (stT M k).1 (gm M k) ≠ 0 ∧ e = .returned (.tuple #[.pointer none, .int .i64 k, .int .i64 (addC (stT M k).1 (gm M k))])) ∨
       ((∀ j, j < n → addC (stT M j).1 (gm M j) = 0) ∧ ∃ p F v0 v1 b2 b3, e = .returned (.tuple #[.pointer (some ⟨p, 0, none⟩), .int .i64 n, .int .i64 0]) ∧ TAt F p v0 v1 b2 b3 (stT M n).1 (stT M n).2 (lgs (stT M n).1) w' ∧ (∀ k ∈ F, w.heap.size ≤ k))) ∧ Below w.heap.size w w' := by
  go_enter Try.func8, Try.ntmps8
  go_wp2_with fail
  refine (ofBytes_any w).mono ?_
  rintro e w1 ⟨p, F, v0, b2, b3, rfl, hT, hFb, hB⟩
  go_wp2
  go_loopw [13] (fun i wr => ∃ (k : Nat) (F : List Nat) (v0 v1 : Value), i = .int .i64 k ∧ k ≤ n ∧ Hid (∀ j, j < k → addC (stT M j).1 (gm M j) = 0) ∧ TAt F p v0 v1 b2 b3 (stT M k).1 (stT M k).2 (lgs (stT M k).1) wr ∧ (∀ k ∈ F, w.heap.size ≤ k) ∧ Below w.heap.size w wr) (fun i _ => n - (intOf i).toNat)
  case atStart => exact ⟨0, F, v0, _, rfl, by omega, hide (fun j hj => by omega), by rw [show lgs (stT M 0).1 = 1 from lgs_tb 255]; exact hT, hFb, hB⟩
  case round =>
    obtain ⟨k, F, v0, v1, rfl, hk, hOK, hT, hFb, hB⟩ := hrel
    by_cases hlt : k < n
    · have hA1 := hM.kept hB
      obtain ⟨b, off, rfl, hbw, k0, k1⟩ := hA1.at hlt
      have hk0 : (0 : Int) ≤ (k : Int) := by omega
      have hk1 : (k : Int) < (n : Int) := by omega
      have htok := stT_tok M k
      have HST := hide (show stT M (k + 1) = (nextT (stT M k).1 (gm M k), nextM (stT M k).1 (stT M k).2 (gm M k)) from rfl)
      have hba : Below wr.heap.size wr (wr.alloc (.cells #[.int .i64 (gm M k).1, .int .i64 (gm M k).2] 44)) := low1 _ _
      have HAD := hide (add_any (hT.keptB hba) htok (gm M k))
      have HT := hide hT
      generalize hmk : gm M k = m at k0 k1 HAD HST hba
      have HMK := hide hmk
      clear hmk hT hA1 htok
      generalize htx : (stT M k).1 = tx at HAD HST
      generalize hmg : (stT M k).2 = mg at HAD HST
      have HTX := hide htx
      have HMG := hide hmg
      clear htx hmg
      go_wp2_with fail
      refine (unhide HAD).mono ?_
      rintro e w2 ⟨rfl, F2, v2, v3, hT2, hFr2, hN2⟩
      have hB2 := (hB.trans (hba.mono hB.size)).trans (hFr2.below (by have := hba.size; have := hB.size; omega) hFb)
      have hFb2 : ∀ k ∈ F2, w.heap.size ≤ k := by
        intro q hq
        rcases hN2 q hq with h1 | h1
        · exact hFb q h1
        · have := hba.size; have := hB.size; omega
      unfold two
      by_cases hc : addC tx m = 0
      · rw [if_pos hc, hc]
        have HC := hide hc
        have HT2 := hide hT2
        clear hc hT2
        go_wp2
        go_roundw
        case rel =>
          refine ⟨k + 1, F2, v2, v3, by go_num, by omega, hide (fun j hj => ?_), ?_, hFb2, hB2⟩
          · by_cases e : j = k
            · rw [e, HMK.out, HTX.out]; exact HC.out
            · exact hOK.out j (by omega)
          · rw [HST.out]; exact HT2.out
        case measure => simp [intOf]; omega
      · have hcb : (addC tx m != 0) = true := by simpa using hc
        rw [if_neg hc]
        have HC := hide hc
        clear hc
        go_wp2
        (try simp only [Exit.inBlock, Exit.then])
        refine bodyPost_ret (v := .tuple #[.pointer none, .int .i64 k, .int .i64 (addC tx m)]) (by simp [results, Try.results8, go_sem]) rfl ?_
        exact ⟨Or.inl ⟨k, hlt, hOK.out, by rw [HTX.out, HMK.out]; exact HC.out, by rw [HTX.out, HMK.out]⟩, hB2⟩
    · obtain rfl : n = k := by omega
      go_wp2
      (try simp only [Exit.inBlock, Exit.then])
      refine bodyPost_ret (v := .tuple #[.pointer (some ⟨p, 0, none⟩), .int .i64 n, .int .i64 0]) (by simp [results, Try.results8, go_sem]) rfl ?_
      exact ⟨Or.inr ⟨hOK.out, p, F, v0, v1, b2, b3, rfl, hT, hFb⟩, hB⟩

end Go.Proofs.Ytadbffphmmkljaa
