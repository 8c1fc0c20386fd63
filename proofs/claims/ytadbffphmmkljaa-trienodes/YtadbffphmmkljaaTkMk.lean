/- TokenMakes: each token's bytes are its parents', and each two have a token where they are parents. -/
import Derived.Test.YtadbffphmmkljaaTkGr
import Derived.Test.YtadbffphmmkljaaTkK
namespace Go.Proofs.Ytadbffphmmkljaa
open Go.RowKit Go.Maps
set_option linter.unusedVariables false
set_option linter.unusedSimpArgs false
attribute [local go_sem ↓] Go.wp_at_zero Go.wp_at_succ

theorem RT.reads {vb vm : Value} {tx : List ByteArray} {mg : List (Int × Int)} {w : World} (h : RT vb vm tx mg w) {ao : Option Addr} {n cap : Nat} (hv : vm = .slice ao n cap) : ReadsM w ao mg.length mg := by
  refine ⟨rfl, ?_⟩
  by_cases h0 : mg.length = 0
  · exact Or.inl h0
  · right
    obtain ⟨g, c, hv2, hg, _⟩ := h.mer (i := 0) (by omega)
    rw [hv] at hv2
    simp only [Value.slice.injEq] at hv2
    obtain ⟨rfl, rfl, rfl⟩ := hv2
    refine ⟨g, 0, rfl, fun i hi => ?_⟩
    obtain ⟨g2, c2, hv3, hg2, e0, e1⟩ := h.mer hi
    rw [hv] at hv3
    simp only [Value.slice.injEq, Option.some.injEq, Addr.mk.injEq] at hv3
    obtain ⟨⟨rfl, _, _⟩, _, _⟩ := hv3
    rw [Nat.zero_add]
    exact ⟨e0, e1⟩

/-- New of merges that can be added one by one: a table. -/
theorem new_rch (ao : Option Addr) (cap : Nat) {tx : List ByteArray} {mg : List (Int × Int)} (w : World) (hM : ReadsM w ao mg.length mg) (hR : Rch tx mg) :
    Calls Try.prog 8 #[.slice ao mg.length cap] w fun e w' => (∃ p F v0 v1 b2 b3, e = .returned (.tuple #[.pointer (some ⟨p, 0, none⟩), .int .i64 mg.length, .int .i64 0]) ∧ TAt F p v0 v1 b2 b3 tx mg (lgs tx) w' ∧ (∀ k ∈ F, w.heap.size ≤ k)) ∧ Below w.heap.size w w' := by
  have hk := hR.tok
  refine (new_any ao mg.length cap mg w hM (by have := hk.len; have := hk.cap; omega)).mono ?_
  rintro e w' ⟨h, hb⟩
  refine ⟨?_, hb⟩
  rcases h with ⟨k, hk, _, hne, _⟩ | ⟨_, p, F, v0, v1, b2, b3, rfl, hT, hF⟩
  · exact absurd (hR.ok k hk) hne
  · rw [hR.st] at hT
    exact ⟨p, F, v0, v1, b2, b3, rfl, hT, hF⟩

theorem fld_one (a1 a2 : Option Addr) (n1 c1 n2 c2 : Nat) (w : World) : Sem.run Try.prog (Instr.field 27 (.agg #[.slice a1 n1 c1, .slice a2 n2 c2]) 1) w = .ok (.slice a2 n2 c2) w := by
  simp [Instr.field, run_underlying Try.underlying27, go_sem, part, asAgg]

end Go.Proofs.Ytadbffphmmkljaa
