/- Contracts: the reference's Hex, digit, Unhex. -/
import Derived.Test.YthneahkiegobaaaDoorWordB
namespace Go.Proofs.YthneahkiegobaaaDoor
open Go.RowKit
set_option linter.unusedVariables false
set_option linter.unusedSimpArgs false

theorem conv2 (wr : World) (x y : Int) : (convert 40 9 (.slice (some ⟨wr.heap.size, 0, none⟩) 2 2)).run Tryd.prog (wr.alloc (.cells #[.int .u8 x, .int .u8 y] 5)).drew = .ok (.string (strOfNums [x, y])) (wr.alloc (.cells #[.int .u8 x, .int .u8 y] 5)).drew :=
  run_convert_bytes_arg (P := Tryd.prog) (wr.alloc (.cells #[.int .u8 x, .int .u8 y] 5)).drew 40 5 Tryd.underlying40 Tryd.underlying5 wr.heap.size 0 2 2 [x, y] rfl (by
    intro i hi
    rcases i with _ | _ | i
    · simp
    · simp
    · omega) 9 Tryd.underlying9
theorem str_two (a b : UInt8) : strOfNums [(a.toNat : Int), (b.toNat : Int)] = ⟨#[a, b]⟩ := by
  simp [strOfNums]
theorem str_append (a b : List UInt8) : (⟨a.toArray⟩ : ByteArray) ++ ⟨b.toArray⟩ = ⟨(a ++ b).toArray⟩ := by
  apply ByteArray.ext
  rw [ByteArray.data_append]
  simp

end Go.Proofs.YthneahkiegobaaaDoor
