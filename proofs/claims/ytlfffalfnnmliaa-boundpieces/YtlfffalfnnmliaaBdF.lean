/- The law's own example; BoundNone. -/
import Derived.Test.YtlfffalfnnmliaaBdC
import Derived.Test.YtlfffalfnnmliaaBdE
namespace Go.Proofs.Ytlfffalfnnmliaa
open Go.RowKit
set_option linter.unusedVariables false
set_option linter.unusedSimpArgs false

theorem low8 (w : World) (o : Obj) : Below w.heap.size w (w.alloc o) := (Below.refl _ _).alloc (Nat.le_refl _) _
def eC : List (Int × Int × Int) := [(97, 122, 1)]
def eJ : List (Int × Int) := [(1, 0)]
theorem eP1 : pcs (cutP eC []) [97, 98, 99, 49, 50] = [[97, 98, 99], [49, 50]] := by decide +kernel
theorem eP2 : decide ((pcs (cutP eC eJ) [97, 98, 99, 49, 50]).length < 2) = true := by decide +kernel
theorem eP3 : decide ((pcs (cutP eC []) [97, 49]).length < 2) = false := by decide +kernel
theorem eC_ok : ∀ c ∈ eC, kC c := by intro c hc; simp [eC] at hc; subst hc; unfold kC; simp
theorem eJ_ok : ∀ c ∈ eJ, kJ c := by intro c hc; simp [eJ] at hc; subst hc; unfold kJ; simp
theorem eN_ok : ∀ c ∈ ([] : List (Int × Int)), kJ c := by intro c hc; simp at hc

set_option maxRecDepth 20000 in
set_option maxHeartbeats 4000000 in
theorem awake8_any (w : World) : Calls Try.prog 25 #[] w fun e w' => e = .returned (.bool true) ∧ Below w.heap.size w w' := by
  have hC1 : RdC (w.alloc (.cells #[.int .i64 97, .int .i64 122, .int .i64 1] 93)) (some ⟨w.heap.size, 0, none⟩) 1 eC := by
    refine ⟨rfl, Or.inr ⟨_, _, rfl, by simp, fun i hi => ?_⟩⟩
    obtain rfl : i = 0 := by omega
    simp [gC, eC]
  have hJ1 : RdJ (w.alloc (.cells #[.int .i64 97, .int .i64 122, .int .i64 1] 93)) none 0 [] := ⟨rfl, Or.inl rfl⟩
  have HN1 := hide (bnew_any _ 1 1 eC none 0 0 [] _ hC1 hJ1 (by omega) (by omega))
  have HL1 := hide (low8 w (.cells #[.int .i64 97, .int .i64 122, .int .i64 1] 93))
  clear hC1 hJ1
  go_enter Try.func25, Try.ntmps25
  go_wp2_with fail
  refine (unhide HN1).mono ?_
  rintro e w1 ⟨hP, hb1⟩
  rcases hP with ⟨hno, _⟩ | ⟨_, p, rfl, hB⟩
  · exact absurd ⟨eC_ok, eN_ok⟩ hno
  have HB1 := hide (HL1.out.trans (hb1.mono HL1.out.size))
  have HT1 := hide (hB.tb eC_ok)
  clear hB hb1 HN1 HL1
  have hl1 := low8 w1 (.cells #[.int .i64 97, .int .i64 122, .int .i64 1] 93)
  have hl2 := low8 (w1.alloc (.cells #[.int .i64 97, .int .i64 122, .int .i64 1] 93)) (.cells #[.int .i64 1, .int .i64 0] 94)
  have hl12 := hl1.trans (hl2.mono hl1.size)
  have hC2 : RdC ((w1.alloc (.cells #[.int .i64 97, .int .i64 122, .int .i64 1] 93)).alloc (.cells #[.int .i64 1, .int .i64 0] 94)) (some ⟨w1.heap.size, 0, none⟩) 1 eC := by
    refine RdC.kept (w := w1.alloc (.cells #[.int .i64 97, .int .i64 122, .int .i64 1] 93)) ⟨rfl, Or.inr ⟨_, _, rfl, by simp, fun i hi => ?_⟩⟩ hl2
    obtain rfl : i = 0 := by omega
    simp [gC, eC]
  have hJ2 : RdJ ((w1.alloc (.cells #[.int .i64 97, .int .i64 122, .int .i64 1] 93)).alloc (.cells #[.int .i64 1, .int .i64 0] 94)) (some ⟨w1.heap.size + 1, 0, none⟩) 1 eJ := by
    refine ⟨rfl, Or.inr ⟨_, _, rfl, by simp, fun i hi => ?_⟩⟩
    obtain rfl : i = 0 := by omega
    simp [gJ, eJ]
  have HN2 := hide (bnew_any _ 1 1 eC _ 1 1 eJ _ hC2 hJ2 (by omega) (by omega))
  have HL2 := hide hl12
  clear hl1 hl2 hl12 hC2 hJ2
  go_wp2_with fail
  refine (unhide HN2).mono ?_
  rintro e w2 ⟨hP, hb2⟩
  rcases hP with ⟨hno, _⟩ | ⟨_, p2, rfl, hB2⟩
  · exact absurd ⟨eC_ok, eJ_ok⟩ hno
  have hb12 := HL2.out.trans (hb2.mono HL2.out.size)
  have HB2 := hide (HB1.out.trans (hb12.mono HB1.out.size))
  replace HT1 := hide (HT1.out.kept hb12)
  have HT2 := hide (hB2.tb eC_ok)
  have HP := hide (pieces_any HT1.out ⟨#[97, 98, 99, 49, 50]⟩ (by decide))
  clear hB2 hb2 hb12 HN2 HL2 HB1
  rw [show (⟨#[97, 98, 99, 49, 50]⟩ : ByteArray).data.toList = [97, 98, 99, 49, 50] from rfl, eP1] at HP
  go_wp2_with fail
  refine (unhide HP).mono ?_
  rintro e w3 ⟨⟨ao, n, cap, rfl, hn, hrow⟩, hb3⟩
  obtain rfl : n = 2 := hn
  have HR := hide (RdT.row hrow rfl)
  have HB3 := hide (HB2.out.trans (hb3.mono HB2.out.size))
  replace HT1 := hide (HT1.out.kept hb3)
  replace HT2 := hide (HT2.out.kept hb3)
  clear hrow hb3 HP HB2
  have hl3 := low8 w3 (.cells #[.string ⟨#[97, 98, 99]⟩, .string ⟨#[49, 50]⟩] 9)
  have hR2 : RdT (w3.alloc (.cells #[.string ⟨#[97, 98, 99]⟩, .string ⟨#[49, 50]⟩] 9)) (some ⟨w3.heap.size, 0, none⟩) 2 (bts [[97, 98, 99], [49, 50]]) := by
    refine ⟨rfl, Or.inr ⟨_, _, rfl, by simp, fun i hi => ?_⟩⟩
    rcases (show i = 0 ∨ i = 1 by omega) with rfl | rfl
    · simp [gT, bts]
    · simp [gT, bts]
  have HX := hide (texts_same _ _ _ 2 cap 2 _ (HR.out.kept hl3) hR2 (by omega))
  replace HB3 := hide (HB3.out.trans (hl3.mono HB3.out.size))
  replace HT1 := hide (HT1.out.kept hl3)
  replace HT2 := hide (HT2.out.kept hl3)
  clear hl3 hR2 HR
  go_wp2_with fail
  refine (unhide HX).mono ?_
  rintro e w4 ⟨rfl, hb4⟩
  have HB4 := hide (HB3.out.trans (hb4.mono HB3.out.size))
  replace HT1 := hide (HT1.out.kept hb4)
  replace HT2 := hide (HT2.out.kept hb4)
  have HW := hide (whole_any HT2.out ⟨#[97, 98, 99, 49, 50]⟩ (by decide))
  rw [show (⟨#[97, 98, 99, 49, 50]⟩ : ByteArray).data.toList = [97, 98, 99, 49, 50] from rfl, eP2] at HW
  clear hb4 HX HB3
  go_wp2_with fail
  refine (unhide HW).mono ?_
  rintro e w5 ⟨rfl, hb5⟩
  have HB5 := hide (HB4.out.trans (hb5.mono HB4.out.size))
  replace HT1 := hide (HT1.out.kept hb5)
  have HW2 := hide (whole_any HT1.out ⟨#[97, 49]⟩ (by decide))
  rw [show (⟨#[97, 49]⟩ : ByteArray).data.toList = [97, 49] from rfl, eP3] at HW2
  clear hb5 HW HB4
  go_wp2_with fail
  refine (unhide HW2).mono ?_
  rintro e w6 ⟨rfl, hb6⟩
  go_wp2
  go_ret
  exact ⟨rfl, HB5.out.trans (hb6.mono HB5.out.size)⟩

def noq : Int → Int → Bool := fun _ _ => false
theorem tb_nil (w : World) : Tb (.pointer none) noq w := Or.inl ⟨rfl, fun _ _ => rfl⟩
theorem noq_len (s : List UInt8) : (pcs noq s).length = if s.length = 0 then 0 else 1 := by
  rw [pcs_len]
  split
  · rename_i h; rw [h]; rfl
  · rename_i h
    have h1 := cnt_pos (q := noq) s s.length (by omega)
    have h2 := (cnt_one (q := noq) s s.length (by omega)).2 (fun j _ _ => rfl)
    omega

end Go.Proofs.Ytlfffalfnnmliaa
