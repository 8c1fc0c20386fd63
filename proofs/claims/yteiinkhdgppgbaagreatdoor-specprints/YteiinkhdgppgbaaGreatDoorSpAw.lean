/- The law's awake. -/
import Derived.Test.YteiinkhdgppgbaaGreatDoorSpRf
import Derived.Test.YteiinkhdgppgbaaGreatDoorSpP
namespace Go.Proofs.YteiinkhdgppgbaaGreatDoor
open Go.RowKit
set_option linter.unusedVariables false
set_option linter.unusedSimpArgs false

def s0 : Sp := ⟨false, [(97, 98)], [], [(300, ⟨#[60, 124, 62]⟩)], [], []⟩
def t0 : List UInt8 := [118, 111, 99, 97, 98, 32, 109, 101, 114, 103, 101, 115, 10, 109, 101, 114, 103, 101, 32, 57, 55, 32, 57, 56, 10, 115, 112, 101, 99, 105, 97, 108, 32, 51, 48, 48, 32, 51, 99, 55, 99, 51, 101, 10]
theorem s0_rightB : rightB s0 = true := by decide
theorem i97 : Lib.itoa 97 = [57, 55] := by simp [Lib.itoa, Lib.decDigits]
theorem i98 : Lib.itoa 98 = [57, 56] := by simp [Lib.itoa, Lib.decDigits]
theorem i300 : Lib.itoa 300 = [51, 48, 48] := by simp [Lib.itoa, Lib.decDigits]
theorem hex_s0 : hexb ⟨#[60, 124, 62]⟩ = [51, 99, 55, 99, 51, 101] := by decide +kernel
theorem s0_text : s0.text = t0 := by
  simp only [Sp.text, Sp.lines, Sp.body, s0, List.map_cons, List.map_nil, lM, lS, i97, i98, i300, hex_s0]
  decide
theorem s0_parse : parseP t0 = (s0, 0, 0) := by
  rw [← s0_text]
  exact parseP_text ((rightB_iff s0).1 s0_rightB) (by rw [s0_text]; decide)
theorem s0_print : printP s0 = (⟨t0.toArray⟩, 0) := by
  unfold printP
  rw [s0_rightB, if_pos rfl, s0_text, if_neg (by decide)]

set_option maxHeartbeats 8000000 in
set_option maxRecDepth 20000 in
theorem awake6_any (w : World) (hE : Env w) :
    Calls Tryz.prog 7 #[] w fun e w' => e = .returned (.bool true) ∧ Below w.heap.size w w' := by
  have K := parseT_any ⟨t0.toArray⟩ w hE (by decide)
  unfold ParsePost at K
  rw [show (⟨t0.toArray⟩ : ByteArray).data.toList = t0 from rfl, s0_parse] at K
  have HE := hide hE
  clear hE
  have heq : ∀ w : World, (binOp .eql 43 (.agg #[.int .i64 300, .string ⟨#[60, 124, 62]⟩]) (.agg #[.int .i64 300, .string ⟨#[60, 124, 62]⟩])).run Tryz.prog w = .ok (.bool true) w := fun w => by kernel_rfl
  go_enter Tryz.func7, Tryz.ntmps7
  go_wp2_with fail
  refine K.mono ?_
  clear K
  rintro e w1 ⟨x, rfl, hS, hb1⟩
  have hlo := low_alloc w1 (.cells x.cs 28)
  have hI := SpI.new hS 28
  have HI := hide hI
  have HB1 := hide hb1
  have K2 := print_any x s0 _ ((HE.out.kept hb1).kept hlo) hI.sp
  rw [s0_print] at K2
  clear hlo hb1 hI
  obtain ⟨y0, y1, y2, y3, y4, y5⟩ := HI.out.box
  go_wp2_with fail
  refine K2.mono ?_
  clear K2 y0 y1 y2 y3 y4 y5
  rintro e w2 ⟨rfl, hb2⟩
  have HI2 := hide (HI.out.next hb2)
  clear hb2 HI hS
  obtain ⟨y0, y1, y2, y3, y4, y5⟩ := HI2.out.box
  have hn1 : x.n1 = 1 := HI2.out.sp.ms.1.symm
  have hn3 : x.n3 = 1 := HI2.out.sp.ss.1.symm
  rcases HI2.out.sp.ss.2 with h0 | ⟨b, off, ha3, hbl, hc⟩
  · omega
  have hcc := hc 0 (by omega)
  have c0 : w2.cell? ⟨b, off, none⟩ = some (.int .i64 300) := hcc.1
  have c1 : w2.cell? ⟨b, off + 1, none⟩ = some (.string ⟨#[60, 124, 62]⟩) := hcc.2
  rw [hn1] at y1
  rw [ha3, hn3] at y3
  have HBB := hide (HB1.out.trans (HI2.out.bel.mono HB1.out.size))
  clear hc hcc hn1 hn3 ha3 HI2 HB1
  have htl : (⟨t0.toArray⟩ : ByteArray).size = 44 := by decide
  generalize (⟨t0.toArray⟩ : ByteArray) = tt at htl ⊢
  have htl2 : (tt.size : Int) = 44 := by omega
  go_wp2
  go_ret
  exact ⟨rfl, HBB.out⟩
end Go.Proofs.YteiinkhdgppgbaaGreatDoor
