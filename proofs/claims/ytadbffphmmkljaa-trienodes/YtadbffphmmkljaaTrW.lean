/- Within and Longer. -/
import Derived.Test.YtadbffphmmkljaaTrG
namespace Go.Proofs.Ytadbffphmmkljaa
open Go.RowKit Go.Maps Go.Shelf Go.Sort
set_option linter.unusedVariables false
set_option linter.unusedSimpArgs false

set_option maxRecDepth 20000 in
set_option maxHeartbeats 400000 in
theorem twithin_any {ρ : Ren} (Ly : Lays.n189 Try.prog ρ) (hf : ρ.f 189 = 28) {w : World} {B r Cn : Nat} {S : List (List UInt8)} {bk mp : List UInt8 → Option Nat} (h0 : TrR B r S Cn bk mp w) (hN : S.Nodup) (h64 : ∀ s ∈ S, s.length ≤ 64) (hS : S.length ≤ 1000) (x : ByteArray) (hx : x.size ≤ 9223372036854775806) :
    Calls Try.prog 16 #[.pointer (some ⟨r, 0, none⟩), .string x] w fun e w' => (∃ ao n cap, e = .returned (.slice ao n cap) ∧ n = (wiT S x.data.toList).length ∧ w'.ownsRow w.heap.size 3 1 (.slice ao n cap) n (nv (wiT S x.data.toList))) ∧ Below w.heap.size w w' := by
  have HK := hide (tat_any h0 x hx)
  have HT := hide h0
  clear h0
  go_enter Try.func16, Try.ntmps16
  go_wp2_with fail
  refine (unhide HK).mono ?_
  rintro e w1 ⟨rfl, hb⟩
  have HB := hide hb
  have HN := hide (HT.out.kept hb)
  clear hb HK
  cases hbk : bk x.data.toList with
  | none =>
    have HR : Hid (wiT S x.data.toList = []) := hide (ndT_wi (fun hn => (HN.out.nd _).2 hn hbk)).1
    simp only [pN, Option.map_none]
    go_wp2
    go_ret
    exact ⟨⟨none, 0, 0, rfl, by rw [HR.out]; rfl, by rw [HR.out]; exact World.ownsRow_nil _ _ _ _⟩, HB.out⟩
  | some b =>
    have HBL := hide (tbelow_any HN.out hN h64 hS _ b hbk)
    simp only [pN, Option.map_some]
    go_wp2_with fail
    refine (unhide HBL).mono ?_
    rintro e w2 ⟨P, ao, n, cap, rfl, hn, hP, hrow, hb2⟩
    have HN2 := hide (HN.out.kept hb2)
    have HB2 := hide (HB.out.trans (hb2.mono HB.out.size))
    have HRW := hide (row_down hrow HB.out.size)
    have HP := hide hP
    have hle : n ≤ 1000 := by have := bel_le hP; omega
    have HNN := hide hn
    clear hb2 hrow hP HBL HB hn
    have hnd := HN2.out.node hbk
    have c1 := hnd.c1
    have c2 := hnd.c2
    clear hnd
    have HU := hide (bel_wi hN HP.out)
    cases hid : idT S x.data.toList with
    | none =>
      rw [hid] at c1 c2 HU
      simp only [Option.isSome_none] at c2
      have HSO := hide (tsort_own Ly hf HRW.out (by omega))
      have HEQ : Hid ((P.map (fun (k : Nat) => (k : Int))).mergeSort (fun x y => decide (x ≤ y)) = (wiT S x.data.toList).map (fun (k : Nat) => (k : Int))) := hide (sort_uniq (by simpa using HU.out.1) (wiT_up S _) (by simpa using HU.out.2))
      have HLE : Hid (n = (wiT S x.data.toList).length) := hide (by
        have h := congrArg List.length HEQ.out
        simp at h
        have h2 := HNN.out
        omega)
      go_wp2_with fail
      refine (unhide HSO).mono ?_
      rintro e w4 ⟨rfl, hrow4, hb4⟩
      have HR4 : Hid (w4.ownsRow w.heap.size 3 1 (.slice ao n cap) n (nv (wiT S x.data.toList))) := hide (by unfold nv; rw [← HEQ.out]; exact hrow4)
      have HB4 := hide (HB2.out.trans hb4)
      clear hrow4 hb4 HSO c1 c2
      go_wp2
      go_ret
      exact ⟨⟨ao, n, cap, rfl, HLE.out, HR4.out⟩, HB4.out⟩
    | some id =>
      rw [hid] at c1 c2 HU
      simp only [Option.isSome_some] at c2
      simp only [Option.getD_some] at c1
      obtain ⟨g, cap1, w3, hrun, hown, hb3⟩ := Mk.app_int w2 w.heap.size ao n cap _ (id : Int) HRW.out (by omega) HB2.out.size
      have HRUN := hide hrun
      have HSO := hide (tsort_own Ly hf hown (by omega))
      have HB3 := hide (HB2.out.trans hb3)
      have HEQ : Hid ((P.map (fun (k : Nat) => (k : Int)) ++ [(id : Int)]).mergeSort (fun x y => decide (x ≤ y)) = (wiT S x.data.toList).map (fun (k : Nat) => (k : Int))) := hide (by
        have h := sort_uniq HU.out.1 (wiT_up S _) HU.out.2
        simpa using h)
      have HLE : Hid (n + 1 = (wiT S x.data.toList).length) := hide (by
        have h := congrArg List.length HEQ.out
        simp at h
        have h2 := HNN.out
        omega)
      clear hrun hown hb3 hle
      go_wp2_with (at_builtin; refine Lib.wpList_append_run _ rfl _ _ _ _ rfl _ _ rfl rfl _ _ HRUN.out ?_)
      go_wp2_with fail
      refine (unhide HSO).mono ?_
      rintro e w4 ⟨rfl, hrow4, hb4⟩
      have HR4 : Hid (w4.ownsRow w.heap.size 3 1 (.slice (some ⟨g, 0, none⟩) (n + 1) cap1) (n + 1) (nv (wiT S x.data.toList))) := hide (by unfold nv; rw [← HEQ.out]; exact hrow4)
      have HB4 := hide (HB3.out.trans hb4)
      clear hrow4 hb4 HSO c1 c2
      go_wp2
      go_ret
      exact ⟨⟨_, n + 1, cap1, rfl, HLE.out, HR4.out⟩, HB4.out⟩
end Go.Proofs.Ytadbffphmmkljaa
