/- Within and Longer. -/
import Derived.Test.YtadbffphmmkljaaTrG
namespace Go.Proofs.Ytadbffphmmkljaa
open Go.RowKit Go.Maps Go.Shelf Go.Sort
set_option linter.unusedVariables false
set_option linter.unusedSimpArgs false

set_option maxRecDepth 20000 in
set_option maxHeartbeats 400000 in
theorem tlonger_any {ρ : Ren} (Ly : Lays.n189 Try.prog ρ) (hf : ρ.f 189 = 28) {w : World} {B r Cn : Nat} {S : List (List UInt8)} {bk mp : List UInt8 → Option Nat} (h0 : TrR B r S Cn bk mp w) (hN : S.Nodup) (h64 : ∀ s ∈ S, s.length ≤ 64) (hS : S.length ≤ 1000) (x : ByteArray) (hx : x.size ≤ 9223372036854775806) :
    Calls Try.prog 17 #[.pointer (some ⟨r, 0, none⟩), .string x] w fun e w' => (∃ ao n cap, e = .returned (.slice ao n cap) ∧ n = (loT S x.data.toList).length ∧ w'.ownsRow w.heap.size 3 1 (.slice ao n cap) n (nv (loT S x.data.toList))) ∧ Below w.heap.size w w' := by
  have HK := hide (tat_any h0 x hx)
  have HT := hide h0
  clear h0
  go_enter Try.func17, Try.ntmps17
  go_wp2_with fail
  refine (unhide HK).mono ?_
  rintro e w1 ⟨rfl, hb⟩
  have HB := hide hb
  have HN := hide (HT.out.kept hb)
  clear hb HK
  cases hbk : bk x.data.toList with
  | none =>
    have HR : Hid (loT S x.data.toList = []) := hide (ndT_wi (fun hn => (HN.out.nd _).2 hn hbk)).2.1
    simp only [pN, Option.map_none]
    go_wp2
    go_ret
    exact ⟨⟨none, 0, 0, rfl, by rw [HR.out]; rfl, by rw [HR.out]; exact World.ownsRow_nil _ _ _ _⟩, HB.out⟩
  | some b =>
    have HBL := hide (tbelow_any HN.out hN h64 hS _ b hbk)
    simp only [pN, Option.map_some]
    go_wp2_with fail
    refine (unhide HBL).mono ?_
    rintro e w2 ⟨P, ao, n, cap, rfl, hn, hP, hrow, hb2⟩
    have HN2 := hide (HN.out.kept hb2)
    have HB2 := hide (HB.out.trans (hb2.mono HB.out.size))
    have HRW := hide (row_down hrow HB.out.size)
    have HP := hide hP
    have hle : n ≤ 1000 := by have := bel_le hP; omega
    have HNN := hide hn
    clear hb2 hrow hP HBL HB hn
    have HSO := hide (tsort_own Ly hf HRW.out (by omega))
    have HEQ : Hid ((P.map (fun (k : Nat) => (k : Int))).mergeSort (fun x y => decide (x ≤ y)) = (loT S x.data.toList).map (fun (k : Nat) => (k : Int))) := hide (sort_uniq HP.out.1 (loT_up S _) (fun k => by rw [HP.out.2 k, mem_loT]))
    have HLE : Hid (n = (loT S x.data.toList).length) := hide (by
      have h := congrArg List.length HEQ.out
      simp at h
      have h2 := HNN.out
      omega)
    go_wp2_with fail
    refine (unhide HSO).mono ?_
    rintro e w4 ⟨rfl, hrow4, hb4⟩
    have HR4 : Hid (w4.ownsRow w.heap.size 3 1 (.slice ao n cap) n (nv (loT S x.data.toList))) := hide (by unfold nv; rw [← HEQ.out]; exact hrow4)
    have HB4 := hide (HB2.out.trans hb4)
    clear hrow4 hb4 HSO
    go_wp2
    go_ret
    exact ⟨⟨ao, n, cap, rfl, HLE.out, HR4.out⟩, HB4.out⟩
end Go.Proofs.Ytadbffphmmkljaa
