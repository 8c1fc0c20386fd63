/- The law's example; GrowNone. -/
import Derived.Test.YtlfffalfnnmliaaGrC
namespace Go.Proofs.Ytlfffalfnnmliaa
open Go.RowKit Go.Maps
set_option linter.unusedVariables false
set_option linter.unusedSimpArgs false
attribute [local go_sem ↓] Go.wp_at_zero Go.wp_at_succ

def gL1 : List ByteArray := [⟨#[97, 98]⟩, ⟨#[97, 98, 99]⟩]
def gL2 : List ByteArray := [⟨#[97, 98, 99]⟩]
theorem gL1_0 : imC gL1 0 = 0 := by decide +kernel
theorem gL1_1 : imC gL1 1 = 0 := by decide +kernel
theorem gL1_m : (imS gL1 2).2 = [(97, 98), (256, 99)] := by decide +kernel
theorem gL2_0 : imC gL2 0 = 2 := by decide +kernel

set_option maxRecDepth 20000 in
set_option maxHeartbeats 4000000 in
theorem awake7_any (w : World) : Calls Try.prog 10 #[] w fun e w' => e = .returned (.bool true) ∧ Below w.heap.size w w' := by
  have hl0 := low1 w (.cells #[.string ⟨#[97, 98]⟩, .string ⟨#[97, 98, 99]⟩] 9)
  have hR : RdT (w.alloc (.cells #[.string ⟨#[97, 98]⟩, .string ⟨#[97, 98, 99]⟩] 9)) (some ⟨w.heap.size, 0, none⟩) 2 gL1 := by
    refine ⟨rfl, Or.inr ⟨_, _, rfl, by simp, fun i hi => ?_⟩⟩
    rcases (show i = 0 ∨ i = 1 by omega) with rfl | rfl
    · simp [gT, gL1]
    · simp [gT, gL1]
  have HI := hide (import_any _ 2 2 gL1 _ hR (by omega) (fun x hx => by simp [gL1] at hx; rcases hx with rfl | rfl <;> decide))
  have HL0 := hide hl0
  clear hl0 hR
  go_enter Try.func10, Try.ntmps10
  go_wp2_with fail
  refine (unhide HI).mono ?_
  rintro e w1 ⟨hP, hb1⟩
  have HB1 := hide (HL0.out.trans (hb1.mono HL0.out.size))
  clear HI hb1 HL0
  rcases hP with ⟨k, hk, _, hne, _⟩ | ⟨_, p, F, v0, v1, b2, b3, rfl, hT, _⟩
  · exfalso
    rcases (show k = 0 ∨ k = 1 by omega) with rfl | rfl
    · exact hne gL1_0
    · exact hne gL1_1
  have hR1 := imS_rch gL1 2
  have hpl : (imS gL1 2).2.length = 2 := by rw [gL1_m]; rfl
  have hg1 : gm (imS gL1 2).2 1 = (256, 99) := by rw [gL1_m]; rfl
  have HPA0 := parents_any hT 1 (by omega) hR1.tok.len (by omega)
  rw [hg1] at HPA0
  have HPA : Hid (Calls Try.prog 36 #[.pointer (some ⟨p, 0, none⟩), .int .i64 257] w1 fun e w' => e = .returned (merR (256, 99) true) ∧ Below w1.heap.size w1 w') := hide HPA0
  clear HPA0 hR1 hpl hg1 hT
  go_wp2_with fail
  refine (unhide HPA).mono ?_
  rintro e w2 ⟨rfl, hb2⟩
  have HB2 := hide (HB1.out.trans (hb2.mono HB1.out.size))
  unfold merR
  clear hb2 HPA HB1
  have hl2 := low1 w2 (.cells #[.int .i64 256, .int .i64 99] 69)
  have hl3 := low1 (w2.alloc (.cells #[.int .i64 256, .int .i64 99] 69)) (.cells #[.string ⟨#[97, 98, 99]⟩] 9)
  have hR2 : RdT ((w2.alloc (.cells #[.int .i64 256, .int .i64 99] 69)).alloc (.cells #[.string ⟨#[97, 98, 99]⟩] 9)) (some ⟨w2.heap.size + 1, 0, none⟩) 1 gL2 := by
    refine ⟨rfl, Or.inr ⟨_, _, rfl, by simp, fun i hi => ?_⟩⟩
    obtain rfl : i = 0 := by omega
    simp [gT, gL2]
  have HI2 := hide (import_any _ 1 1 gL2 _ hR2 (by omega) (fun x hx => by simp [gL2] at hx; subst hx; decide))
  have hbox : (w2.alloc (.cells #[.int .i64 256, .int .i64 99] 69)).cell? ⟨w2.heap.size, 0, none⟩ = some (.int .i64 256) ∧ (w2.alloc (.cells #[.int .i64 256, .int .i64 99] 69)).cell? ⟨w2.heap.size, 1, none⟩ = some (.int .i64 99) := by simp
  have hlt2 : w2.heap.size < (w2.alloc (.cells #[.int .i64 256, .int .i64 99] 69)).heap.size := by simp
  have HBX := hide (And.intro hbox hlt2)
  have HL2 := hide hl2
  have HL3 := hide hl3
  clear hl2 hl3 hR2 hbox hlt2
  go_wp2_with fail
  generalize w2.alloc (.cells #[.int .i64 256, .int .i64 99] 69) = w3 at *
  refine (unhide HI2).mono ?_
  rintro e w4 ⟨hP, hb4⟩
  have hb34 := HL3.out.trans (hb4.mono HL3.out.size)
  have q0 := (hb34.cell HBX.out.2).trans HBX.out.1.1
  have q1 := (hb34.cell HBX.out.2).trans HBX.out.1.2
  have HB4 := hide ((HL2.out.trans (hb34.mono HL2.out.size)))
  rcases hP with ⟨k, hk, _, hne, rfl⟩ | ⟨hok, _⟩
  rotate_left
  · exact absurd (hok 0 (by omega)) (by rw [gL2_0]; decide)
  obtain rfl : k = 0 := by omega
  rw [gL2_0]
  clear HI2 hb4 hb34 hne hk HL2 HL3 HBX
  go_wp2
  go_ret
  exact ⟨by first | rfl | simp, HB2.out.trans (HB4.out.mono HB2.out.size)⟩

theorem im_zero (w : World) : ∀ j, j < 0 → imC [] j = 0 := fun j hj => by omega
set_option maxRecDepth 20000 in
set_option maxHeartbeats 4000000 in
theorem gnone_walk (n : Int) (w : World) (hn : 0 ≤ n ∧ n ≤ 255) : Calls Try.prog 6 #[.int .u8 n] w fun e w' => e = .returned (.bool true) ∧ Below w.heap.size w w' := by
  have HI := hide (import_any none 0 0 [] w ⟨rfl, Or.inl rfl⟩ (by omega) (fun x hx => by cases hx))
  go_enter Try.func6, Try.ntmps6
  go_wp2_with fail
  refine (unhide HI).mono ?_
  rintro e w1 ⟨hP, hb1⟩
  have HB1 := hide hb1
  rcases hP with ⟨k, hk, _⟩ | ⟨_, p, F, v0, v1, b2, b3, rfl, hT, _⟩
  · omega
  have hT0 : TAt F p v0 v1 b2 b3 (tb 256) [] (lgs (tb 256)) w1 := hT
  have hl256 : (tb 256).length = 256 := tb_len 256
  have HL := hide (tlen_any hT0)
  rw [hl256] at HL
  have hd0 : (tb 256).drop 256 = [] := List.drop_eq_nil_of_le (by rw [hl256]; exact Nat.le_refl _)
  have HP := hide (plain_any hT0 tok_begin)
  rw [hd0] at HP
  clear hT hT0 hb1 HI hl256 hd0
  go_wp2_with fail
  refine (unhide HL).mono ?_
  rintro e w2 ⟨rfl, hw⟩
  obtain rfl := hw.symm
  clear hw HL
  go_wp2_with fail
  refine (unhide HP).mono ?_
  rintro e w2 ⟨hE, hb2⟩
  rcases hE with ⟨rfl, -⟩ | ⟨rfl, hno⟩
  rotate_left
  · exact absurd ⟨fun j hj => by simp at hj, rfl⟩ hno
  have HB2 := hide (HB1.out.trans (hb2.mono HB1.out.size))
  clear hb2 HP HB1
  go_wp2_with fail
  refine (plain_nil w2).mono ?_
  rintro e w3 ⟨rfl, hw⟩
  obtain rfl := hw.symm
  clear hw
  go_wp2_with fail
  refine (export_nil w2).mono ?_
  rintro e w3 ⟨rfl, hw⟩
  obtain rfl := hw.symm
  clear hw
  go_wp2_with fail
  refine (awake7_any w2).mono ?_
  rintro e w3 ⟨rfl, hb3⟩
  go_wp2
  go_ret
  exact ⟨rfl, HB2.out.trans (hb3.mono HB2.out.size)⟩

end Go.Proofs.Ytlfffalfnnmliaa
