/- Contracts of package grow: Import, Export. -/
import Derived.Test.YtlfffalfnnmliaaGrA
namespace Go.Proofs.Ytlfffalfnnmliaa
open Go.RowKit Go.Maps
set_option linter.unusedVariables false
set_option linter.unusedSimpArgs false
attribute [local go_sem ↓] Go.wp_at_zero Go.wp_at_succ

/-- What comes of Import. -/
def ImP (l : List ByteArray) (n : Nat) (w : World) (e : Ending) (w' : World) : Prop :=
  (∃ k : Nat, k < n ∧ (∀ j, j < k → imC l j = 0) ∧ imC l k ≠ 0 ∧ e = .returned (.tuple #[.pointer none, .int .i64 k, .int .i64 (imC l k)])) ∨
  ((∀ j, j < n → imC l j = 0) ∧ ∃ p F v0 v1 b2 b3, e = .returned (.tuple #[.pointer (some ⟨p, 0, none⟩), .int .i64 n, .int .i64 0]) ∧ TAt F p v0 v1 b2 b3 (imS l n).1 (imS l n).2 (lgs (imS l n).1) w' ∧ (∀ k ∈ F, w.heap.size ≤ k))

set_option maxRecDepth 20000 in
set_option maxHeartbeats 4000000 in
theorem import_any (ao : Option Addr) (n cap : Nat) (l : List ByteArray) (w : World) (hR : RdT w ao n l) (hn : n ≤ 1000000) (hs : ∀ x ∈ l, x.size ≤ 100000) :
    Calls Try.prog 11 #[.slice ao n cap] w fun e w' => ImP l n w e w' ∧ Below w.heap.size w w' := by
  have hM0 : ReadsM w none 0 [] := ⟨rfl, Or.inl rfl⟩
  have HN := hide (new_any none 0 0 [] w hM0 (by omega))
  have HR := hide hR
  have HSZ := hide hs
  clear hM0 hR hs
  go_enter Try.func11, Try.ntmps11
  go_wp2_with fail
  refine (unhide HN).mono ?_
  rintro e w1 ⟨hE, hb1⟩
  rcases hE with ⟨k, hk, _⟩ | ⟨_, p, F, v0, v1, b2, b3, rfl, hT, hF⟩
  · omega
  have HT0 : Hid (TAt F p v0 v1 b2 b3 (imS l 0).1 (imS l 0).2 (lgs (imS l 0).1) w1) := hide hT
  have HF0 := hide hF
  have HB0 := hide hb1
  clear hT hF hb1 HN
  go_wp2
  go_loopw [18] (fun i wr => ∃ (k : Nat) (F : List Nat) (v0 v1 : Value), i = .int .i64 k ∧ k ≤ n ∧ Hid (∀ j, j < k → imC l j = 0) ∧ Hid (TAt F p v0 v1 b2 b3 (imS l k).1 (imS l k).2 (lgs (imS l k).1) wr) ∧ Hid (∀ k ∈ F, w.heap.size ≤ k) ∧ Hid (Below w.heap.size w wr)) (fun i _ => n - (intOf i).toNat)
  case atStart => exact ⟨0, F, v0, v1, rfl, by omega, hide (fun j hj => by omega), HT0, HF0, HB0⟩
  case round =>
    clear HT0 HF0 HB0
    obtain ⟨k, F, v0, v1, rfl, hk, HOK, HT, HF, HB⟩ := hrel
    by_cases hlt : k < n
    · have hk0 : (0 : Int) ≤ (k : Int) := by omega
      have hk1 : (k : Int) < (n : Int) := by omega
      rcases (HR.out.kept HB.out).2 with h0 | ⟨b, off, rfl, hbl, hcc⟩
      · omega
      have c0 := hcc k hlt
      have HM : Hid (gT l k ∈ l) := hide (by unfold gT; rw [List.getD_eq_getElem?_getD, List.getElem?_eq_getElem (by rw [HR.out.1]; exact hlt)]; exact List.getElem_mem _)
      have HTK := hide (take_any HT.out (imS_rch l k).tok w.heap.size HF.out HB.out.size (gT l k) (HSZ.out _ HM.out))
      have HC : Hid (imC l k = tkC (imS l k).1 (imS l k).2 (gT l k)) := hide rfl
      have HS : Hid (imS l (k + 1) = (tkT (imS l k).1 (imS l k).2 (gT l k), tkM (imS l k).1 (imS l k).2 (gT l k))) := hide rfl
      rw [← HC.out] at HTK
      clear hcc
      generalize gT l k = x at *
      go_wp2_with fail
      refine (unhide HTK).mono ?_
      rintro e w2 ⟨rfl, ⟨F2, v2, v3, hT2, hF2⟩, hB2⟩
      have HB2 := hide (HB.out.trans hB2)
      have HT2 := hide hT2
      have HF2 := hide hF2
      have HCK : Hid (∀ c, imC l k = c → c ≠ 0 → imC l k ≠ 0) := hide (fun c h1 h2 => by rw [h1]; exact h2)
      clear hB2 hT2 hF2 HTK
      generalize hcc : imC l k = cc at *
      have HCC := hide hcc
      clear hcc
      by_cases hc : cc = 0
      · subst hc
        go_wp2
        go_roundw
        case rel =>
          refine ⟨k + 1, F2, v2, v3, by go_num, by omega, hide (fun j hj => ?_), hide ?_, HF2, HB2⟩
          · by_cases e : j = k
            · rw [e]; exact HCC.out
            · exact HOK.out j (by omega)
          · rw [HS.out]; exact HT2.out
        case measure => simp [intOf]; omega
      · have hcb : (cc != 0) = true := by simpa using hc
        have HNE := hide hc
        clear hc
        go_wp2
        (try simp only [Exit.inBlock, Exit.then])
        refine bodyPost_ret (v := .tuple #[.pointer none, .int .i64 k, .int .i64 cc]) (by simp [results, Try.results11, go_sem]) rfl ?_
        exact ⟨Or.inl ⟨k, hlt, HOK.out, by rw [HCC.out]; exact HNE.out, by rw [HCC.out]⟩, HB2.out⟩
    · obtain rfl : n = k := by omega
      go_wp2
      (try simp only [Exit.inBlock, Exit.then])
      refine bodyPost_ret (v := .tuple #[.pointer (some ⟨p, 0, none⟩), .int .i64 n, .int .i64 0]) (by simp [results, Try.results11, go_sem]) rfl ?_
      exact ⟨Or.inr ⟨HOK.out, p, F, v0, v1, b2, b3, rfl, HT.out, HF.out⟩, HB.out⟩

theorem export_nil (w : World) : Calls Try.prog 16 #[.pointer none] w fun e w' => e = .returned (.slice none 0 0) ∧ w' = w := by
  go_enter Try.func16, Try.ntmps16
  go_wp2_with fail
  go_loopw [3, 4] (fun v i wr => v = .slice none 0 0 ∧ i = .int .i64 256 ∧ wr = w) (fun _ _ _ => 0)
  case atStart => exact ⟨rfl, rfl, rfl⟩
  case round =>
    obtain ⟨rfl, rfl, rfl⟩ := hrel
    go_wp2_with fail
    refine (tlen_nil _).mono ?_
    rintro e w1 ⟨rfl, hw⟩
    obtain rfl := hw.symm
    clear hw
    go_wp2
    go_ret
    exact ⟨rfl, rfl⟩

section
variable {F : List Nat} {p : Nat} {v0 v1 : Value} {b2 b3 : Nat} {tx : List ByteArray} {mg : List (Int × Int)} {w : World}
theorem drop_snoc (tx : List ByteArray) {k : Nat} (h : k < tx.length) (h2 : 256 ≤ k) : (tx.take (k + 1)).drop 256 = (tx.take k).drop 256 ++ [gs tx k] := by
  rw [List.take_succ_eq_append_getElem h, List.drop_append_of_le_length (by simp; omega)]
  congr 2
  rw [gs_lt tx h]
set_option maxRecDepth 20000 in
set_option maxHeartbeats 4000000 in
theorem export_any (h : TAt F p v0 v1 b2 b3 tx mg (lgs tx) w) (hk : Tok tx mg) :
    Calls Try.prog 16 #[.pointer (some ⟨p, 0, none⟩)] w fun e w' => (∃ ao n cap, e = .returned (.slice ao n cap) ∧ n = (tx.drop 256).length ∧ w'.ownsRow w.heap.size 9 1 (.slice ao n cap) n ((tx.drop 256).map Value.string)) ∧ Below w.heap.size w w' := by
  have HT := hide h
  have hl := hk.len
  have hc := hk.cap
  clear h hk
  have HL := hide hl
  clear hl
  go_enter Try.func16, Try.ntmps16
  go_wp2_with fail
  go_loopw [3, 4] (fun v i wr => ∃ (k n : Nat) (ao : Option Addr) (cap : Nat), v = .slice ao n cap ∧ i = .int .i64 k ∧ 256 ≤ k ∧ k ≤ tx.length ∧ Hid (n = ((tx.take k).drop 256).length) ∧ Hid (wr.ownsRow w.heap.size 9 1 (.slice ao n cap) n (((tx.take k).drop 256).map Value.string)) ∧ Hid (Below w.heap.size w wr)) (fun _ i _ => tx.length - (intOf i).toNat)
  case atStart =>
    have e : (tx.take 256).drop 256 = [] := List.drop_eq_nil_of_le (by simp; omega)
    exact ⟨256, 0, none, 0, rfl, by go_num, Nat.le_refl _, by have := HL.out; omega, hide (by rw [e]; rfl), hide (by rw [e]; exact World.ownsRow_nil _ _ _ _), hide (Below.refl _ _)⟩
  case round =>
    obtain ⟨k, n, ao, cap, rfl, rfl, hk1, hk2, HN, HR, HB⟩ := hrel
    have HTr := hide (HT.out.keptB HB.out)
    go_wp2_with fail
    refine (tlen_any HTr.out).mono ?_
    rintro e w1 ⟨rfl, hw⟩
    obtain rfl := hw.symm
    clear hw
    by_cases hlt : k < tx.length
    · have hkk : (k : Int) < (tx.length : Int) := by omega
      have hnk : n + 256 = k := by have := HN.out; simp at this; omega
      have HBY := hide (tbytes_any HTr.out k hlt)
      have HDS := hide (drop_snoc tx hlt hk1)
      generalize gs tx k = x at *
      go_wp2_with fail
      refine (unhide HBY).mono ?_
      rintro e w2 ⟨rfl, hw⟩
      obtain rfl := hw.symm
      clear hw HBY
      obtain ⟨g, cap1, w3, hrun, hown, hb3⟩ := appS wr w.heap.size ao n cap ((tx.take k).drop 256) x HR.out (by omega) HB.out.size
      have HRUN := hide hrun
      have HOWN := hide hown
      have HB3 := hide (HB.out.trans hb3)
      clear hrun hown hb3
      go_wp2_with (at_builtin; refine Lib.wpList_append_run _ rfl _ _ _ _ rfl _ _ rfl rfl _ _ HRUN.out ?_)
      go_roundw
      case rel => exact ⟨k + 1, n + 1, _, cap1, rfl, by go_num, by omega, by omega, hide (by rw [HDS.out, List.length_append, ← HN.out]; rfl), hide (by rw [HDS.out]; exact HOWN.out), HB3⟩
      case measure => simp [intOf]; omega
    · have hkk : ¬ (k : Int) < (tx.length : Int) := by omega
      have htk : tx.take k = tx := List.take_of_length_le (by omega)
      rw [htk] at HN HR
      clear htk
      go_wp2
      go_ret
      exact ⟨⟨ao, n, cap, rfl, HN.out, HR.out⟩, HB.out⟩
end

end Go.Proofs.Ytlfffalfnnmliaa
