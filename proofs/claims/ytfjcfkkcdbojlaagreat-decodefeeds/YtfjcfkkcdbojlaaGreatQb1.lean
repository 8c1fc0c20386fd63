/- Contracts of the document's layer 8: Cuts. -/
import Derived.Test.YtfjcfkkcdbojlaaGreatQa35
namespace Go.Proofs.YtfjcfkkcdbojlaaGreat.Wf.Bq
open Go.RowKit
set_option linter.unusedVariables false
set_option linter.unusedSimpArgs false

section
variable {w : World} {q : Nat} {ao : Option Addr} {n c1 : Nat} {C : List (Int × Int × Int)} {bo : Option Addr} {m c2 : Nat} {J : List (Int × Int)} {W W' : World}
set_option maxRecDepth 20000 in
set_option maxHeartbeats 8000000 in
theorem rcuts_any (hC : RdC w ao n C) (hJ : RdJ w bo m J) (hn : n ≤ 1000000) (hm : m ≤ 1000000) (a b : Int) (ha : 0 ≤ a ∧ a ≤ 255) (hb : 0 ≤ b ∧ b ≤ 255) :
    Calls Tryz.prog 22 #[.agg #[.slice ao n c1, .slice bo m c2], .int .u8 a, .int .u8 b] w fun e w' => e = .returned (.bool (cutP C J a b)) ∧ Below w.heap.size w w' := by
  have HI := hide (RbI.new hC hJ c1 c2)
  have HJL := hide hJ.1
  have HK := hide (fun (p : Wd (RbI w w.heap.size ao n c1 C bo m c2 J)) (z : Int) (hz : 0 ≤ z ∧ z ≤ 255) => Calls.toW (fun _ _ h hb => h.next hb) p (rclass_any (c1 := c1) (c2 := c2) p.h.c p.h.j hn z hz))
  have e0 : ∀ p : Wd (RbI w w.heap.size ao n c1 C bo m c2 J), p.W.cell? ⟨w.heap.size, 0, none⟩ = some (.slice ao n c1) := fun p => p.h.b0
  have e1 : ∀ p : Wd (RbI w w.heap.size ao n c1 C bo m c2 J), p.W.cell? ⟨w.heap.size, 1, none⟩ = some (.slice bo m c2) := fun p => p.h.b1
  have ne : Nonempty (Wd (RbI w w.heap.size ao n c1 C bo m c2 J)) := ⟨⟨_, HI.out.drew⟩⟩
  have HCU : Hid (cutP C J a b = decide (cls C a ≠ cls C b ∧ (cls C a, cls C b) ∉ J)) := hide rfl
  clear hC hJ
  go_enter Tryz.func22, Tryz.ntmps22
  go_wp2
  refine region_class (α := Wd (RbI w w.heap.size ao n c1 C bo m c2 J)) Wd.W (by kernel_rfl) (by kernel_rfl) ⟨_, HI.out.drew⟩ rfl ?_
  repeat (go_big_quiet_step ((go_at_call 52; exact HK.out _ _ (by first | exact ha | exact hb))))
  refine wpQuiet_nil ?_
  intro _ hw'
  obtain ⟨⟨W, hW⟩, rfl⟩ := hw'
  have HW := hide hW
  have b1 := hW.b1
  clear hW HK e0 e1 ne HI
  generalize cls C a = x at *
  generalize cls C b = y at *
  go_wp2
  generalize w.heap.size = q at *
  go_loop [9] (fun i => ∃ (k : Nat), i = .int .i64 k ∧ k ≤ m ∧ Hid (∀ j, j < k → gJ J j ≠ (x, y))) (fun i => m - (intOf i).toNat)
  case atStart => exact ⟨0, rfl, Nat.zero_le _, hide (fun j hj => by omega)⟩
  case round =>
    obtain ⟨k, rfl, hk, HN⟩ := hrel
    by_cases hlt : k < m
    · have hk0 : (0 : Int) ≤ (k : Int) := by omega
      have hk1 : (k : Int) < (m : Int) := by omega
      have hkl : k < J.length := by rw [HJL.out]; exact hlt
      have HMEM := hide (gJ_mem J hkl)
      rcases HW.out.j.2 with h0 | ⟨bb, off, rfl, hbw, hcc⟩
      · omega
      obtain ⟨d0, d1⟩ := hcc k hlt
      have HN2 : Hid (gJ J k ≠ (x, y) → ∀ j, j < k + 1 → gJ J j ≠ (x, y)) := hide (fun h j hj => by by_cases e : j = k; · { rw [e]; exact h }; · { exact HN.out j (by omega) })
      clear hcc hkl
      generalize gJ J k = c at *
      obtain ⟨u, v⟩ := c
      simp only at d0 d1
      by_cases g1 : u = x
      · subst g1
        have g1d : (u == u) = true := by simp
        by_cases g2 : v = y
        · subst g2
          have HF : Hid (cutP C J a b = false) := hide (by rw [HCU.out]; simp [HMEM.out])
          go_wp2
          go_ret
          exact ⟨by rw [HF.out]; rfl, HW.out.B⟩
        · have g2d : (v == y) = false := by simpa using g2
          have HF := hide (HN2.out (fun e => g2 (by injection e)))
          go_wp2
          go_round
          case rel => exact ⟨k + 1, by go_num, by omega, HF⟩
          case measure => simp [intOf]; omega
      · have g1d : (u == x) = false := by simpa using g1
        have HF := hide (HN2.out (fun e => g1 (by injection e)))
        go_wp2
        go_round
        case rel => exact ⟨k + 1, by go_num, by omega, HF⟩
        case measure => simp [intOf]; omega
    · have hk1 : ¬ (k : Int) < (m : Int) := by omega
      have HF : Hid (cutP C J a b = !(x == y)) := hide (by
        rw [HCU.out]
        have hno : (x, y) ∉ J := fun h => by obtain ⟨j, hj, e⟩ := mem_gJ h; exact HN.out j (by rw [HJL.out] at hj; omega) e
        by_cases e : x = y
        · simp [e]
        · simp [e, hno])
      go_wp2
      go_ret
      exact ⟨by rw [HF.out]; first | rfl | simp, HW.out.B⟩
end

end Go.Proofs.YtfjcfkkcdbojlaaGreat.Wf.Bq
