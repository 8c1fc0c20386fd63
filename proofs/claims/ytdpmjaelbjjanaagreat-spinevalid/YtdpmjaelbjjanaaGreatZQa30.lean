/- Contracts of package mark: Bytes, Parse. The Builder's methods, by a walk; contracts of package mark: Render. Contracts of package mark: Render. Contracts of the document's answer for marks: Render. Contracts of the document's answer for marks: begins, At, Parse, Great. -/
import Derived.Test.YtdpmjaelbjjanaaGreatZQa29
import Derived.Lib.Builder
import Derived.Lib.AppendStr
import Derived.Lib.UnsafeStr
import Derived.Laws.Externs
import Derived.Laws.AppendOwn
import Derived.Laws.BytesArg
namespace Go.Proofs.YtdpmjaelbjjanaaGreat.Mk
open Go.RowKit Go.Maps
set_option linter.unusedVariables false
set_option linter.unusedSimpArgs false

def bys (s : ByteArray) : List Int := s.data.toList.map (fun b => (b.toNat : Int))

theorem bys_len (s : ByteArray) : (bys s).length = s.size := by
  unfold bys
  rw [List.length_map, Array.length_toList]
  rfl

theorem bys_take (s : ByteArray) {k : Nat} (h : k < s.size) : (bys s).take (k + 1) = (bys s).take k ++ [(s[k].toNat : Int)] := by
  have h' : k < (bys s).length := by rw [bys_len]; exact h
  rw [List.take_succ_eq_append_getElem h']
  congr 2
  simp [bys]
  rfl

theorem size_toList (s : ByteArray) : s.toList.length = s.size := by rw [ByteArray.toList_eq, Array.length_toList]; rfl

theorem isEmpty_true {s : ByteArray} (h : s.size = 0) : s.toList.isEmpty = true := by rw [List.isEmpty_iff_length_eq_zero, size_toList, h]

theorem isEmpty_false {s : ByteArray} (h : ¬ s.size = 0) : s.toList.isEmpty = false := by
  rw [Bool.eq_false_iff]
  intro h'
  rw [List.isEmpty_iff_length_eq_zero, size_toList] at h'
  exact h h'

def szOf : Value → Nat
  | .string s => s.size
  | _ => 0
@[simp] theorem szOf_string (s : ByteArray) : szOf (.string s) = s.size := rfl

section
variable {T : List (List UInt8)} {t : ByteArray}
end

section
variable {v : Value} {ao : Option Addr} {cap : Nat} {L : List (Int × ByteArray)} {w : World}
end
end Go.Proofs.YtdpmjaelbjjanaaGreat.Mk

namespace Go.Proofs.YtdpmjaelbjjanaaGreat.Mk
open Go.RowKit Go.Maps
set_option linter.unusedVariables false
set_option linter.unusedSimpArgs false

theorem info_byte : (Tryz.prog.info? 5).map (fun i => (i.zero, i.size, i.bytes)) = some (some (.int .u8 0), 1, 1) := by kernel_rfl

end Go.Proofs.YtdpmjaelbjjanaaGreat.Mk

namespace Go.Proofs.YtdpmjaelbjjanaaGreat.Mk
open Go.RowKit Go.Maps
set_option linter.unusedVariables false
set_option linter.unusedSimpArgs false

theorem byte_cells {x : Int} (h0 : 0 ≤ x) (h1 : x < 256) : Lib.byteCells [UInt8.ofNat x.toNat] = [Value.int .u8 x] := by
  simp only [Lib.byteCells, List.map_cons, List.map_nil, UInt8.toNat_ofNat']
  congr 2
  omega

section
variable {v : Value} {ao : Option Addr} {cap : Nat} {L : List (Int × ByteArray)} {w : World}
end
end Go.Proofs.YtdpmjaelbjjanaaGreat.Mk

namespace Go.Proofs.YtdpmjaelbjjanaaGreat.Mk
open Go.RowKit Go.Maps
set_option linter.unusedVariables false
set_option linter.unusedSimpArgs false

theorem str_nums (l : List UInt8) : strOfNums (l.map (fun c => (c.toNat : Int))) = ⟨l.toArray⟩ := by
  rw [strOfNums]
  congr 2
  rw [List.map_map]
  conv => rhs; rw [← List.map_id l]
  refine List.map_congr_left (fun x _ => ?_)
  simp
theorem conv_row (w : World) (base : Nat) (ao : Option Addr) (n cap : Nat) (xs : List UInt8) (h : w.ownsRow base 5 1 (.slice ao n cap) n (Lib.byteCells xs)) : (convert 140 9 (.slice ao n cap)).run Tryz.prog w = .ok (.string ⟨xs.toArray⟩) w := by
  have hl : xs.length = n := by have := h.1; simp [Lib.byteCells] at this; omega
  rcases h.2 with ⟨hv, h0⟩ | ⟨g, c, cur, hv, _⟩
  · simp only [Value.slice.injEq] at hv
    obtain ⟨rfl, rfl, rfl⟩ := hv
    have : xs = [] := List.eq_nil_of_length_eq_zero hl
    subst this
    exact run_convert_bytes_nil (P := Tryz.prog) w 140 5 Tryz.underlying140 Tryz.underlying5 0 0 9 Tryz.underlying9
  · simp only [Value.slice.injEq] at hv
    obtain ⟨rfl, _, rfl⟩ := hv
    have hc := run_convert_bytes_arg (P := Tryz.prog) w 140 5 Tryz.underlying140 Tryz.underlying5 g 0 n cap (xs.map (fun c => (c.toNat : Int))) (by simpa using hl) (fun i hi => by
      rw [Nat.zero_add, h.cellAt i (by omega)]
      simp [Lib.byteCells, List.getD_eq_getElem?_getD, List.getElem?_eq_getElem (show i < xs.length by omega)]) 9 Tryz.underlying9
    rw [str_nums] at hc
    exact hc

section
variable {ao : Option Addr} {cap : Nat} {L : List (Int × ByteArray)} {w : World}
end
end Go.Proofs.YtdpmjaelbjjanaaGreat.Mk

namespace Go.Proofs.YtdpmjaelbjjanaaGreat.Mk
open Go.RowKit Go.Maps
set_option linter.unusedVariables false
set_option linter.unusedSimpArgs false

section
variable {ao : Option Addr} {n cap : Nat} {L : List (Int × ByteArray)} {w : World}
/-- What is asked of. -/
def fewS (L : List (Int × ByteArray)) : Prop := L.length ≤ 40 ∧ ∀ i, i < L.length → (gS L i).2.size ≤ 100

set_option maxRecDepth 20000 in
set_option maxHeartbeats 4000000 in
theorem great_any (h : RdS w ao n L) (hn : n ≤ 9223372036854775807) : Calls Tryz.prog 62 #[.slice ao n cap] w fun e w' => (∃ z, e = .returned (.bool z) ∧ (z = false → fewS L)) ∧ Below w.heap.size w w' := by
  have HR := hide h
  have HLn := hide h.1
  clear h
  go_enter Tryz.func62, Tryz.ntmps62
  go_wp2
  go_loopw [3] (fun i wr => ∃ (k : Nat), i = .int .i64 k ∧ k ≤ n ∧ Hid (∀ i, i < k → (gS L i).2.size ≤ 100) ∧ Hid (Below w.heap.size w wr)) (fun i _ => n - (intOf i).toNat)
  case atStart => exact ⟨0, rfl, Nat.zero_le _, hide (fun i hi => by omega), hide (Below.refl _ _)⟩
  case round =>
    obtain ⟨k, rfl, hkn, HA, HB⟩ := hrel
    by_cases hlt : k < n
    · have hk0 : (0 : Int) ≤ (k : Int) := by omega
      have hk1 : (k : Int) < (n : Int) := by omega
      rcases HR.out.2 with h0 | ⟨b, off, rfl, hbl0, hc⟩
      · omega
      have c1 := (HB.out.cell (p := ⟨b, _, none⟩) hbl0).trans (hc k hlt).2
      clear hc
      have HX := hide (rfl : (gS L k).2 = (gS L k).2)
      generalize hgx : (gS L k).2 = x at *
      have HX2 := hide hgx
      clear hgx HX
      by_cases hz : 100 < x.size
      · go_wp2
        go_ret
        exact ⟨⟨true, rfl, fun e => by cases e⟩, HB.out⟩
      · go_wp2
        refine ⟨⟨k + 1, by go_num, by omega, hide (fun i hi => ?_), HB⟩, by simp [intOf]; omega⟩
        by_cases e : i = k
        · subst e; rw [HX2.out]; omega
        · exact HA.out i (by omega)
    · obtain rfl : k = n := by omega
      go_wp2
      go_ret
      refine ⟨⟨_, rfl, fun e => ⟨?_, ?_⟩⟩, HB.out⟩
      · simp at e
        rw [HLn.out]
        omega
      · rw [HLn.out]
        exact HA.out
end
end Go.Proofs.YtdpmjaelbjjanaaGreat.Mk
