/- Contracts of package token: Parents, Merges; the law's own example. -/
import Derived.Test.YtblbbenfaafcoaaTkJ
import Derived.Lib.AppendZeros
namespace Go.Proofs.Ytblbbenfaafcoaa
open Go.RowKit Go.Maps
set_option linter.unusedVariables false
set_option linter.unusedSimpArgs false

def merR (m : Int × Int) (ok : Bool) : Value := .tuple #[.agg #[.int .i64 m.1, .int .i64 m.2], .bool ok]

set_option maxHeartbeats 1000000 in
theorem parents_none (id : Int) (pv : Value) (n : Nat) (w : World) (HL : Hid (Calls Try.prog 24 #[pv] (w.alloc (.cells #[.int .i64 0, .int .i64 0] 39)) fun e w' => e = .returned (.int .i64 n) ∧ w' = (w.alloc (.cells #[.int .i64 0, .int .i64 0] 39)))) (hid : id < 256 ∨ (n : Int) ≤ id) :
    Calls Try.prog 19 #[pv, .int .i64 id] w fun e w' => e = .returned (merR (0, 0) false) ∧ Below w.heap.size w w' := by
  rcases (show id < 256 ∨ (¬ id < 256 ∧ (n : Int) ≤ id) by omega) with h0 | ⟨h0, h1⟩
  · have hb : decide (id < 256) = true := by simpa using h0
    go_enter Try.func19, Try.ntmps19
    go_wp2
    (try simp only [Exit.inBlock, Exit.then])
    exact bodyPost_ret (v := merR (0, 0) false) (by simp [merR, results, Try.results19, go_sem]) rfl ⟨rfl, low1 _ _⟩
  · have hb : decide (id < 256) = false := by simpa using h0
    go_enter Try.func19, Try.ntmps19
    go_wp2_with fail
    refine (unhide HL).mono ?_
    rintro e w' ⟨rfl, hw⟩
    subst hw
    go_wp2
    (try simp only [Exit.inBlock, Exit.then])
    exact bodyPost_ret (v := merR (0, 0) false) (by simp [merR, results, Try.results19, go_sem]) rfl ⟨rfl, low1 _ _⟩

theorem merges_nil (w : World) : Calls Try.prog 26 #[.pointer none] w fun e w' => e = .returned (.slice none 0 0) ∧ w' = w := by
  go_enter Try.func26, Try.ntmps26
  go_wp2
  go_ret
  exact ⟨rfl, rfl⟩

section
variable {F : List Nat} {p : Nat} {v0 v1 : Value} {b2 b3 : Nat} {tx : List ByteArray} {mg : List (Int × Int)} {lg : Int} {w : World}

set_option maxRecDepth 20000 in
set_option maxHeartbeats 1000000 in
theorem parents_any (h : TAt F p v0 v1 b2 b3 tx mg lg w) (i : Nat) (hi : i < mg.length) (hl : tx.length = 256 + mg.length) (hz : mg.length ≤ 1000) :
    Calls Try.prog 19 #[.pointer (some ⟨p, 0, none⟩), .int .i64 (256 + i)] w fun e w' => e = .returned (merR (gm mg i) true) ∧ Below w.heap.size w w' := by
  have hT := h.keptB (low1 w (.cells #[.int .i64 0, .int .i64 0] 39))
  have HL := hide (tlen_any hT)
  obtain ⟨g, cap, rfl, c0, c1⟩ := h.merge hi
  have hgl : g < w.heap.size := World.block_lt_of_cell? w _ c0
  have hp1 := h.cells.2.1
  have hpl := h.lt
  have hb : decide ((256 + i : Int) < 256) = false := by simp; omega
  have hi0 : (0 : Int) ≤ (i : Int) := by omega
  have hi1 : (i : Int) < (mg.length : Int) := by omega
  have hge : ¬ ((tx.length : Int) ≤ 256 + (i : Int)) := by omega
  have hgb : decide ((tx.length : Int) ≤ 256 + (i : Int)) = false := by simpa using hge
  have hne : g ≠ w.heap.size := by omega
  have hnp : p ≠ w.heap.size := by omega
  generalize gm mg i = m at *
  clear h hT hl
  go_enter Try.func19, Try.ntmps19
  go_wp2_with fail
  refine (unhide HL).mono ?_
  rintro e w' ⟨rfl, hw⟩
  subst hw
  go_wp2
  (try simp only [Exit.inBlock, Exit.then])
  exact bodyPost_ret (v := merR m true) (by simp [merR, results, Try.results19, go_sem]) rfl ⟨rfl, low1 _ _⟩
end

def exM : List (Int × Int) := [(97, 98), (256, 99)]
theorem ex0 : addC (stT exM 0).1 (gm exM 0) = 0 := by decide +kernel
theorem ex1 : addC (stT exM 1).1 (gm exM 1) = 0 := by decide +kernel
theorem ex2 : addC (stT exM 2).1 (98, 99) = 0 := by decide +kernel
theorem ex3 : addC (nextT (stT exM 2).1 (98, 99)) (97, 258) = 10 := by decide +kernel
theorem ex4 : gs (stT exM 2).1 257 = ⟨#[97, 98, 99]⟩ := by decide +kernel
theorem ex5 : 257 < (stT exM 2).1.length := by decide +kernel

set_option maxRecDepth 20000 in
set_option maxHeartbeats 4000000 in
theorem awake_any (w : World) : Calls Try.prog 9 #[] w fun e w' => e = .returned (.bool true) ∧ Below w.heap.size w w' := by
  have hlow := low1 w (.cells #[.int .i64 97, .int .i64 98, .int .i64 256, .int .i64 99] 39)
  have hM : ReadsM (w.alloc (.cells #[.int .i64 97, .int .i64 98, .int .i64 256, .int .i64 99] 39)) (some ⟨w.heap.size, 0, none⟩) 2 exM := by
    refine ⟨rfl, Or.inr ⟨_, _, rfl, fun i hi => ?_⟩⟩
    rcases (show i = 0 ∨ i = 1 by omega) with rfl | rfl
    · simp [gm, exM]
    · simp [gm, exM]
  have HN := hide (new_any _ 2 2 exM _ hM (by omega))
  have HLO := hide hlow
  clear hM hlow
  go_enter Try.func9, Try.ntmps9
  go_wp2_with fail
  refine (unhide HN).mono ?_
  rintro e w1 ⟨hE, hb1⟩
  have HB1 := hide (HLO.out.trans (hb1.mono HLO.out.size))
  rcases hE with ⟨k, hk, _, hne, _⟩ | ⟨_, p, F, v0, v1, b2, b3, rfl, hT, hF⟩
  · exfalso
    rcases (show k = 0 ∨ k = 1 by omega) with rfl | rfl
    · exact hne ex0
    · exact hne ex1
  have htok := stT_tok exM 2
  have h3 := ex2
  have h4 := ex3
  have h5 := ex4
  have h6 := ex5
  have HBY := hide (tbytes_any hT 257 h6)
  rw [h5] at HBY
  have HA1 := hide (add_any hT htok (98, 99))
  rw [h3] at HA1
  have htok2 := htok.next (98, 99)
  generalize nextT (stT exM 2).1 (98, 99) = tx2 at HA1 h4 htok2
  generalize nextM (stT exM 2).1 (stT exM 2).2 (98, 99) = mg2 at HA1 htok2
  generalize (stT exM 2).1.length = n2 at HA1
  clear h3 h5 h6 htok hT hb1
  go_wp2_with fail
  refine (unhide HBY).mono ?_
  rintro e w2 ⟨rfl, hw⟩
  have hw2 := hw.symm
  clear hw
  subst hw2
  go_wp2_with fail
  refine (unhide HA1).mono ?_
  rintro e w2 ⟨rfl, F2, v2, v3, hT2, hFr2, hN2⟩
  have HA2 := hide (add_any hT2 htok2 (97, 258))
  rw [h4] at HA2
  have hB2 := HB1.out.trans (hFr2.below HB1.out.size (fun k hk => by have := hF k hk; simp at this; omega))
  have hF2 : ∀ k ∈ F2, w.heap.size ≤ k := by
    intro k hk
    rcases hN2 k hk with h1 | h1
    · have := hF k h1; simp at this; omega
    · have := HB1.out.size; omega
  unfold two at HA2 ⊢
  clear hT2 htok2 h4
  go_wp2_with fail
  refine (unhide HA2).mono ?_
  rintro e w3 ⟨rfl, F3, v4, v5, hT3, hFr3, hN3⟩
  have HB3 := hide (hB2.trans (hFr3.below hB2.size hF2))
  clear hT3 hFr3 hN3
  go_wp2
  go_ret
  exact ⟨rfl, HB3.out⟩

end Go.Proofs.Ytblbbenfaafcoaa
