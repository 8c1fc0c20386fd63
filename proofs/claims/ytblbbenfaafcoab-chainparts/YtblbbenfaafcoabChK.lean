/- Contracts of the law's own helpers: Ints, All, table. -/
import Derived.Test.YtblbbenfaafcoabChJ
import Derived.Test.YtblbbenfaafcoabTkMk
import Derived.BigRegion
namespace Go.Proofs.Ytblbbenfaafcoab
open Go.RowKit Go.Maps
set_option linter.unusedVariables false
set_option linter.unusedSimpArgs false
attribute [local go_sem ↓] Go.wp_at_zero Go.wp_at_succ

set_option maxRecDepth 20000 in
set_option maxHeartbeats 4000000 in
/-- The same numbers twice. -/
theorem ints_same (w : World) (A B : Nat) (va vb : Value) (l : List Int) (ha : w.ownsRow A 3 1 va l.length (iv l)) (hb : w.ownsRow B 3 1 vb l.length (iv l)) (hn : l.length ≤ 1000000) :
    Calls Try.prog 8 #[va, vb] w fun e w' => e = .returned (.bool true) ∧ Below w.heap.size w w' := by
  obtain ⟨a1, c1, rfl⟩ := row_form ha
  obtain ⟨a2, c2, rfl⟩ := row_form hb
  have HA := hide ha
  have HB := hide hb
  clear ha hb
  go_enter Try.func8, Try.ntmps8
  go_wp2
  go_loopw [5] (fun i wr => ∃ (k : Nat), i = .int .i64 k ∧ k ≤ l.length ∧ Hid (Below w.heap.size w wr)) (fun i _ => l.length - (intOf i).toNat)
  case atStart => exact ⟨0, rfl, Nat.zero_le _, hide (Below.refl _ _)⟩
  case round =>
    obtain ⟨k, rfl, hk, HBl⟩ := hrel
    by_cases hlt : k < l.length
    · have hk0 : (0 : Int) ≤ (k : Int) := by omega
      have hk1 : (k : Int) < (l.length : Int) := by omega
      obtain ⟨g, cg, hvg, hgl, c0⟩ := row_at (row_keptB HA.out HBl.out) hlt
      obtain ⟨g2, cg2, hvg2, hgl2, c02⟩ := row_at (row_keptB HB.out HBl.out) hlt
      simp only [Value.slice.injEq] at hvg hvg2
      obtain ⟨rfl, _, rfl⟩ := hvg
      obtain ⟨rfl, _, rfl⟩ := hvg2
      generalize gI l k = x at *
      go_wp2
      go_quiet (fail)
      have HD : Hid (Below w.heap.size w (wr.drewN nq)) := hide (HBl.out.trans ⟨rfl, rfl, rfl, Nat.le_refl _, fun _ _ => rfl⟩)
      clear c0 c02
      generalize wr.drewN nq = wd at *
      go_wp2
      exact ⟨⟨k + 1, by go_num, by omega, HD⟩, by simp [intOf]; omega⟩
    · obtain rfl : k = l.length := by omega
      go_wp2
      go_ret
      exact ⟨rfl, HBl.out⟩

section
variable {vb vm : Value} {tx : List ByteArray} {mg : List (Int × Int)}

theorem RT.ne_box {w : World} {b : Nat} {x y : Value} (hR : RT vb vm tx mg w) (hX : Box2 b x y w) : (∀ k, vb.ownBlock = some k → k ∉ [b]) ∧ (∀ k, vm.ownBlock = some k → k ∉ [b]) := by
  have hx : w.heap[b]? = some (.cells #[x, y] 28 (0, 0)) := hX
  refine ⟨fun k e e2 => ?_, fun k e e2 => ?_⟩
  · simp at e2
    subst e2
    rcases hR.rb.2 with ⟨rfl, _⟩ | ⟨g, cap, cur, rfl, _, hg, _⟩
    · simp [Value.ownBlock] at e
    · simp [Value.ownBlock] at e
      subst e
      rw [hx] at hg
      simp at hg
  · simp at e2
    subst e2
    rcases hR.rm.2 with ⟨rfl, _⟩ | ⟨g, cap, cur, rfl, _, hg, _⟩
    · simp [Value.ownBlock] at e
    · simp [Value.ownBlock] at e
      subst e
      rw [hx] at hg
      simp at hg
end

set_option maxRecDepth 20000 in
set_option maxHeartbeats 4000000 in
theorem table_any (ao : Option Addr) (n cap : Nat) (U : List Int) (w : World) (hM : ReadsH w ao n U) (hn : n ≤ 1000000) :
    Calls Try.prog 6 #[.slice ao n cap] w fun e w' => (∃ tx mg vb vm p F v0 v1 b2 b3, e = .returned (.tuple #[.pointer (some ⟨p, 0, none⟩), .agg #[vb, vm]]) ∧ Rch tx mg ∧ RT vb vm tx mg w' ∧ TAt F p v0 v1 b2 b3 tx mg (lgs tx) w') ∧ Below w.heap.size w w' := by
  have hl0 := low1 w (.cells #[.slice none 0 0, .slice none 0 0] 28)
  have hx0 : Box2 w.heap.size (.slice none 0 0) (.slice none 0 0) (w.alloc (.cells #[.slice none 0 0, .slice none 0 0] 28)) := heap_alloc_new w _
  have HG := hide (rgrow_any ao n cap U _ (hM.kept hl0) hn)
  have HX0 := hide hx0
  have HL0 := hide hl0
  clear hM hx0 hl0
  go_enter Try.func6, Try.ntmps6
  go_wp2_with fail
  generalize w.alloc (.cells #[.slice none 0 0, .slice none 0 0] 28) = w0 at *
  refine (unhide HG).mono ?_
  rintro e w2 ⟨⟨tx, mg, vb, vm, rfl, hR, hT⟩, hb2⟩
  obtain ⟨a1, c1, hv1⟩ := row_form hT.rb
  obtain ⟨a2, c2, hv2⟩ := row_form hT.rm
  subst hv1 hv2
  have hX2 := HX0.out.kept hb2
  have hl2 := low1 w2 (.cells #[.slice a1 tx.length c1, .slice a2 mg.length c2] 28)
  have hY3 : Box2 w2.heap.size (.slice a1 tx.length c1) (.slice a2 mg.length c2) (w2.alloc (.cells #[.slice a1 tx.length c1, .slice a2 mg.length c2] 28)) := heap_alloc_new w2 _
  have hX3 := hX2.kept hl2
  have hT3 := hT.kept hl2
  have HN := hide (new_rch a2 c2 _ (hT3.reads rfl) hR)
  have HB3 := hide (HL0.out.trans ((hb2.trans (hl2.mono hb2.size)).mono HL0.out.size))
  have HR := hide hR
  have hlt : w.heap.size < w2.heap.size := hX2.lt
  clear hX2 hl2 hT hb2 HG hR
  have H3 := hide (And.intro hX3 (And.intro hY3 hT3))
  clear hX3 hY3 hT3
  go_wp2_with fail
  generalize hW3 : w2.alloc (.cells #[.slice a1 tx.length c1, .slice a2 mg.length c2] 28) = w3 at *
  clear hW3
  generalize w2.heap.size = q at *
  refine (unhide HN).mono ?_
  rintro e w4 ⟨⟨p, F, v0, v1, b2, b3, rfl, hT4, hF⟩, hb4⟩
  have hX4 := H3.out.1.kept hb4
  have hY4 := H3.out.2.1.kept hb4
  have hR4 := H3.out.2.2.kept hb4
  have HB4 := hide (HB3.out.trans (hb4.mono HB3.out.size))
  obtain ⟨x0, x1, xf⟩ := hX4.cells
  obtain ⟨y0, y1, yf⟩ := hY4.cells
  have hne : q ≠ w.heap.size := by omega
  have hne2 : w.heap.size ≠ q := by omega
  have HT4 := hide hT4
  have HF := hide (show ∀ k ∈ F, w.heap.size < k from fun k hk => by have h1 := hF k hk; have h2 := H3.out.1.lt; omega)
  have HX4 := hide hX4
  have HR4 := hide hR4
  clear hX4 hY4 hR4 hT4 hF hb4 HN
  go_wp2
  go_region
  go_wp2
  (try simp only [Exit.inBlock, Exit.then])
  refine bodyPost_ret (v := .tuple #[.pointer (some ⟨p, 0, none⟩), .agg #[.slice a1 tx.length c1, .slice a2 mg.length c2]]) (by simp [results, Try.results6, go_sem, x0, x1, xf]) rfl ?_
  have hQ : FrL [w.heap.size] w4 ((w4.setCell ⟨w.heap.size, 0, none⟩ (.slice a1 tx.length c1)).setCell ⟨w.heap.size, 1, none⟩ (.slice a2 mg.length c2)) := ((FrL.refl _ _).set (by simp) _).set (by simp) _
  have hn1 := HR4.out.ne_box HX4.out
  refine ⟨⟨tx, mg, _, _, p, F, v0, v1, b2, b3, rfl, HR.out, (HR4.out.keptF hQ hn1.1 hn1.2).drew, (HT4.out.kept hQ (fun k hk e => by have := HF.out k hk; simp at e; omega)).drew⟩, ?_⟩
  exact (HB4.out.trans (hQ.below HB4.out.size (fun k hk => by simp at hk; omega))).drew

def eM1 : List (Int × Int) := [(97, 98), (256, 99)]
def eM2 : List (Int × Int) := [(98, 99), (97, 98), (257, 99)]
theorem eM1_0 : addC (stT eM1 0).1 (gm eM1 0) = 0 := by decide +kernel
theorem eM1_1 : addC (stT eM1 1).1 (gm eM1 1) = 0 := by decide +kernel
theorem eM2_0 : addC (stT eM2 0).1 (gm eM2 0) = 0 := by decide +kernel
theorem eM2_1 : addC (stT eM2 1).1 (gm eM2 1) = 0 := by decide +kernel
theorem eM2_2 : addC (stT eM2 2).1 (gm eM2 2) = 0 := by decide +kernel
theorem eM1_m : made (stT eM1 2).2 (stT eM1 2).1.length ⟨#[97, 98, 99, 97, 98]⟩ = [257, 256] := by decide +kernel
theorem eM2_m : made (stT eM2 3).2 (stT eM2 3).1.length ⟨#[97, 98, 99]⟩ = [97, 256] := by decide +kernel

set_option maxRecDepth 20000 in
set_option maxHeartbeats 4000000 in
theorem awake5_any (w : World) : Calls Try.prog 5 #[] w fun e w' => e = .returned (.bool true) ∧ Below w.heap.size w w' := by
  have hlow := low1 w (.cells #[.int .i64 97, .int .i64 98, .int .i64 256, .int .i64 99] 42)
  have hM : ReadsM (w.alloc (.cells #[.int .i64 97, .int .i64 98, .int .i64 256, .int .i64 99] 42)) (some ⟨w.heap.size, 0, none⟩) 2 eM1 := by
    refine ⟨rfl, Or.inr ⟨_, _, rfl, fun i hi => ?_⟩⟩
    rcases (show i = 0 ∨ i = 1 by omega) with rfl | rfl
    · simp [gm, eM1]
    · simp [gm, eM1]
  have HN := hide (new_any _ 2 2 eM1 _ hM (by omega))
  have HLO := hide hlow
  clear hM hlow
  go_enter Try.func5, Try.ntmps5
  go_wp2_with fail
  refine (unhide HN).mono ?_
  rintro e w1 ⟨hE, hb1⟩
  have HB1 := hide (HLO.out.trans (hb1.mono HLO.out.size))
  rcases hE with ⟨k, hk, _, hne, _⟩ | ⟨_, p, F, v0, v1, b2, b3, rfl, hT, hF⟩
  · exfalso
    rcases (show k = 0 ∨ k = 1 by omega) with rfl | rfl
    · exact hne eM1_0
    · exact hne eM1_1
  have hl2 := low1 w1 (.cells #[.int .i64 98, .int .i64 99, .int .i64 97, .int .i64 98, .int .i64 257, .int .i64 99] 42)
  have hM2 : ReadsM (w1.alloc (.cells #[.int .i64 98, .int .i64 99, .int .i64 97, .int .i64 98, .int .i64 257, .int .i64 99] 42)) (some ⟨w1.heap.size, 0, none⟩) 3 eM2 := by
    refine ⟨rfl, Or.inr ⟨_, _, rfl, fun i hi => ?_⟩⟩
    rcases (show i = 0 ∨ i = 1 ∨ i = 2 by omega) with rfl | rfl | rfl
    · simp [gm, eM2]
    · simp [gm, eM2]
    · simp [gm, eM2]
  have HN2 := hide (new_any _ 3 3 eM2 _ hM2 (by omega))
  have HT1 := hide hT
  have HL2 := hide hl2
  clear hM2 hl2 hT hb1 hF HN
  go_wp2_with fail
  refine (unhide HN2).mono ?_
  rintro e w2 ⟨hE, hb2⟩
  rcases hE with ⟨k, hk, _, hne, _⟩ | ⟨_, p2, F2, u0, u1, d2, d3, rfl, hT2, hF2⟩
  · exfalso
    rcases (show k = 0 ∨ k = 1 ∨ k = 2 by omega) with rfl | rfl | rfl
    · exact hne eM2_0
    · exact hne eM2_1
    · exact hne eM2_2
  have hb12 := HL2.out.trans (hb2.mono HL2.out.size)
  have HB2 := hide (HB1.out.trans (hb12.mono HB1.out.size))
  have HE := hide (encode_any w2 (HT1.out.keptB hb12) (stT_tok eM1 2) ⟨#[97, 98, 99, 97, 98]⟩ (by decide))
  rw [eM1_m] at HE
  have HT2 := hide hT2
  clear hT2 hF2 hb2 hb12 HN2
  go_wp2_with fail
  refine (unhide HE).mono ?_
  rintro e w3 ⟨⟨v, rfl, hv3⟩, hb3⟩
  obtain ⟨ao, cap, hvv⟩ := row_form hv3
  subst hvv
  have hl4 := low1 w3 (.cells #[.int .i64 257, .int .i64 256] 3)
  have HI := hide (ints_same _ _ w3.heap.size _ (.slice (some ⟨w3.heap.size, 0, none⟩) 2 2) [257, 256] (row_keptB hv3 hl4) (World.ownsRow_lit w3 #[.int .i64 257, .int .i64 256] 2 (Nat.le_refl _) (by unfold maxLen; omega) rfl) (by simp))
  have hb34 := hb3.trans (hl4.mono hb3.size)
  have HB4 := hide (HB2.out.trans (hb34.mono HB2.out.size))
  have HT4 := hide (HT2.out.keptB hb34)
  clear hv3 hb3 hl4 hb34 HE
  go_wp2_with fail
  refine (unhide HI).mono ?_
  rintro e w5 ⟨rfl, hb5⟩
  have HE2 := hide (encode_any w5 (HT4.out.keptB hb5) (stT_tok eM2 3) ⟨#[97, 98, 99]⟩ (by decide))
  rw [eM2_m] at HE2
  have HB5 := hide (HB4.out.trans (hb5.mono HB4.out.size))
  clear hb5 HI
  go_wp2_with fail
  refine (unhide HE2).mono ?_
  rintro e w6 ⟨⟨v, rfl, hv3⟩, hb3⟩
  obtain ⟨ao, cap, hvv⟩ := row_form hv3
  subst hvv
  have hl4 := low1 w6 (.cells #[.int .i64 97, .int .i64 256] 3)
  have HI := hide (ints_same _ _ w6.heap.size _ (.slice (some ⟨w6.heap.size, 0, none⟩) 2 2) [97, 256] (row_keptB hv3 hl4) (World.ownsRow_lit w6 #[.int .i64 97, .int .i64 256] 2 (Nat.le_refl _) (by unfold maxLen; omega) rfl) (by simp))
  have hb34 := hb3.trans (hl4.mono hb3.size)
  have HB7 := hide (HB5.out.trans (hb34.mono HB5.out.size))
  clear hv3 hb3 hl4 hb34 HE2
  go_wp2_with fail
  refine (unhide HI).mono ?_
  rintro e w8 ⟨rfl, hb8⟩
  go_wp2
  go_ret
  exact ⟨rfl, HB7.out.trans (hb8.mono HB7.out.size)⟩

end Go.Proofs.Ytblbbenfaafcoab
