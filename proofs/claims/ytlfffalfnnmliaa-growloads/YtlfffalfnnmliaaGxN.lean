/- Contracts of package grow: Import, Export. Lists of merges that are held against others. Contracts of package grow: Plain; the law's example. The law's example; GrowNone. -/
import Derived.Test.YtlfffalfnnmliaaGxA
import Derived.Test.YtlfffalfnnmliaaTkGr
import Derived.BigQuiet
import Derived.Test.YtlfffalfnnmliaaTkY
import Derived.Test.YtlfffalfnnmliaaTkK
namespace Go.Proofs.Ytlfffalfnnmliaa
open Go.RowKit Go.Maps
set_option linter.unusedVariables false
set_option linter.unusedSimpArgs false
attribute [local go_sem ↓] Go.wp_at_zero Go.wp_at_succ

/-- What comes of Import. -/
def ImP (l : List ByteArray) (n : Nat) (w : World) (e : Ending) (w' : World) : Prop :=
  (∃ k : Nat, k < n ∧ (∀ j, j < k → imC l j = 0) ∧ imC l k ≠ 0 ∧ e = .returned (.tuple #[.pointer none, .int .i64 k, .int .i64 (imC l k)])) ∨
  ((∀ j, j < n → imC l j = 0) ∧ ∃ p F v0 v1 b2 b3, e = .returned (.tuple #[.pointer (some ⟨p, 0, none⟩), .int .i64 n, .int .i64 0]) ∧ TAt F p v0 v1 b2 b3 (imS l n).1 (imS l n).2 (lgs (imS l n).1) w' ∧ (∀ k ∈ F, w.heap.size ≤ k))

set_option maxRecDepth 20000 in
set_option maxHeartbeats 4000000 in
theorem import_any (ao : Option Addr) (n cap : Nat) (l : List ByteArray) (w : World) (hR : RdT w ao n l) (hn : n ≤ 1000000) (hs : ∀ x ∈ l, x.size ≤ 100000) :
    Calls Try.prog 11 #[.slice ao n cap] w fun e w' => ImP l n w e w' ∧ Below w.heap.size w w' := by
  have hM0 : ReadsM w none 0 [] := ⟨rfl, Or.inl rfl⟩
  have HN := hide (new_any none 0 0 [] w hM0 (by omega))
  have HR := hide hR
  have HSZ := hide hs
  clear hM0 hR hs
  go_enter Try.func11, Try.ntmps11
  go_wp2_with fail
  refine (unhide HN).mono ?_
  rintro e w1 ⟨hE, hb1⟩
  rcases hE with ⟨k, hk, _⟩ | ⟨_, p, F, v0, v1, b2, b3, rfl, hT, hF⟩
  · omega
  have HT0 : Hid (TAt F p v0 v1 b2 b3 (imS l 0).1 (imS l 0).2 (lgs (imS l 0).1) w1) := hide hT
  have HF0 := hide hF
  have HB0 := hide hb1
  clear hT hF hb1 HN
  go_wp2
  go_loopw [18] (fun i wr => ∃ (k : Nat) (F : List Nat) (v0 v1 : Value), i = .int .i64 k ∧ k ≤ n ∧ Hid (∀ j, j < k → imC l j = 0) ∧ Hid (TAt F p v0 v1 b2 b3 (imS l k).1 (imS l k).2 (lgs (imS l k).1) wr) ∧ Hid (∀ k ∈ F, w.heap.size ≤ k) ∧ Hid (Below w.heap.size w wr)) (fun i _ => n - (intOf i).toNat)
  case atStart => exact ⟨0, F, v0, v1, rfl, by omega, hide (fun j hj => by omega), HT0, HF0, HB0⟩
  case round =>
    clear HT0 HF0 HB0
    obtain ⟨k, F, v0, v1, rfl, hk, HOK, HT, HF, HB⟩ := hrel
    by_cases hlt : k < n
    · have hk0 : (0 : Int) ≤ (k : Int) := by omega
      have hk1 : (k : Int) < (n : Int) := by omega
      rcases (HR.out.kept HB.out).2 with h0 | ⟨b, off, rfl, hbl, hcc⟩
      · omega
      have c0 := hcc k hlt
      have HM : Hid (gT l k ∈ l) := hide (by unfold gT; rw [List.getD_eq_getElem?_getD, List.getElem?_eq_getElem (by rw [HR.out.1]; exact hlt)]; exact List.getElem_mem _)
      have HTK := hide (take_any HT.out (imS_rch l k).tok w.heap.size HF.out HB.out.size (gT l k) (HSZ.out _ HM.out))
      have HC : Hid (imC l k = tkC (imS l k).1 (imS l k).2 (gT l k)) := hide rfl
      have HS : Hid (imS l (k + 1) = (tkT (imS l k).1 (imS l k).2 (gT l k), tkM (imS l k).1 (imS l k).2 (gT l k))) := hide rfl
      rw [← HC.out] at HTK
      clear hcc
      generalize gT l k = x at *
      go_wp2_with fail
      refine (unhide HTK).mono ?_
      rintro e w2 ⟨rfl, ⟨F2, v2, v3, hT2, hF2⟩, hB2⟩
      have HB2 := hide (HB.out.trans hB2)
      have HT2 := hide hT2
      have HF2 := hide hF2
      have HCK : Hid (∀ c, imC l k = c → c ≠ 0 → imC l k ≠ 0) := hide (fun c h1 h2 => by rw [h1]; exact h2)
      clear hB2 hT2 hF2 HTK
      generalize hcc : imC l k = cc at *
      have HCC := hide hcc
      clear hcc
      by_cases hc : cc = 0
      · subst hc
        go_wp2
        go_roundw
        case rel =>
          refine ⟨k + 1, F2, v2, v3, by go_num, by omega, hide (fun j hj => ?_), hide ?_, HF2, HB2⟩
          · by_cases e : j = k
            · rw [e]; exact HCC.out
            · exact HOK.out j (by omega)
          · rw [HS.out]; exact HT2.out
        case measure => simp [intOf]; omega
      · have hcb : (cc != 0) = true := by simpa using hc
        have HNE := hide hc
        clear hc
        go_wp2
        (try simp only [Exit.inBlock, Exit.then])
        refine bodyPost_ret (v := .tuple #[.pointer none, .int .i64 k, .int .i64 cc]) (by simp [results, Try.results11, go_sem]) rfl ?_
        exact ⟨Or.inl ⟨k, hlt, HOK.out, by rw [HCC.out]; exact HNE.out, by rw [HCC.out]⟩, HB2.out⟩
    · obtain rfl : n = k := by omega
      go_wp2
      (try simp only [Exit.inBlock, Exit.then])
      refine bodyPost_ret (v := .tuple #[.pointer (some ⟨p, 0, none⟩), .int .i64 n, .int .i64 0]) (by simp [results, Try.results11, go_sem]) rfl ?_
      exact ⟨Or.inr ⟨HOK.out, p, F, v0, v1, b2, b3, rfl, HT.out, HF.out⟩, HB.out⟩

theorem export_nil (w : World) : Calls Try.prog 16 #[.pointer none] w fun e w' => e = .returned (.slice none 0 0) ∧ w' = w := by
  go_enter Try.func16, Try.ntmps16
  go_wp2_with fail
  go_loopw [3, 4] (fun v i wr => v = .slice none 0 0 ∧ i = .int .i64 256 ∧ wr = w) (fun _ _ _ => 0)
  case atStart => exact ⟨rfl, rfl, rfl⟩
  case round =>
    obtain ⟨rfl, rfl, rfl⟩ := hrel
    go_wp2_with fail
    refine (tlen_nil _).mono ?_
    rintro e w1 ⟨rfl, hw⟩
    obtain rfl := hw.symm
    clear hw
    go_wp2
    go_ret
    exact ⟨rfl, rfl⟩

section
variable {F : List Nat} {p : Nat} {v0 v1 : Value} {b2 b3 : Nat} {tx : List ByteArray} {mg : List (Int × Int)} {w : World}
theorem drop_snoc (tx : List ByteArray) {k : Nat} (h : k < tx.length) (h2 : 256 ≤ k) : (tx.take (k + 1)).drop 256 = (tx.take k).drop 256 ++ [gs tx k] := by
  rw [List.take_succ_eq_append_getElem h, List.drop_append_of_le_length (by simp; omega)]
  congr 2
  rw [gs_lt tx h]
set_option maxRecDepth 20000 in
set_option maxHeartbeats 4000000 in
theorem export_any (h : TAt F p v0 v1 b2 b3 tx mg (lgs tx) w) (hk : Tok tx mg) :
    Calls Try.prog 16 #[.pointer (some ⟨p, 0, none⟩)] w fun e w' => (∃ ao n cap, e = .returned (.slice ao n cap) ∧ n = (tx.drop 256).length ∧ w'.ownsRow w.heap.size 9 1 (.slice ao n cap) n ((tx.drop 256).map Value.string)) ∧ Below w.heap.size w w' := by
  have HT := hide h
  have hl := hk.len
  have hc := hk.cap
  clear h hk
  have HL := hide hl
  clear hl
  go_enter Try.func16, Try.ntmps16
  go_wp2_with fail
  go_loopw [3, 4] (fun v i wr => ∃ (k n : Nat) (ao : Option Addr) (cap : Nat), v = .slice ao n cap ∧ i = .int .i64 k ∧ 256 ≤ k ∧ k ≤ tx.length ∧ Hid (n = ((tx.take k).drop 256).length) ∧ Hid (wr.ownsRow w.heap.size 9 1 (.slice ao n cap) n (((tx.take k).drop 256).map Value.string)) ∧ Hid (Below w.heap.size w wr)) (fun _ i _ => tx.length - (intOf i).toNat)
  case atStart =>
    have e : (tx.take 256).drop 256 = [] := List.drop_eq_nil_of_le (by simp; omega)
    exact ⟨256, 0, none, 0, rfl, by go_num, Nat.le_refl _, by have := HL.out; omega, hide (by rw [e]; rfl), hide (by rw [e]; exact World.ownsRow_nil _ _ _ _), hide (Below.refl _ _)⟩
  case round =>
    obtain ⟨k, n, ao, cap, rfl, rfl, hk1, hk2, HN, HR, HB⟩ := hrel
    have HTr := hide (HT.out.keptB HB.out)
    go_wp2_with fail
    refine (tlen_any HTr.out).mono ?_
    rintro e w1 ⟨rfl, hw⟩
    obtain rfl := hw.symm
    clear hw
    by_cases hlt : k < tx.length
    · have hkk : (k : Int) < (tx.length : Int) := by omega
      have hnk : n + 256 = k := by have := HN.out; simp at this; omega
      have HBY := hide (tbytes_any HTr.out k hlt)
      have HDS := hide (drop_snoc tx hlt hk1)
      generalize gs tx k = x at *
      go_wp2_with fail
      refine (unhide HBY).mono ?_
      rintro e w2 ⟨rfl, hw⟩
      obtain rfl := hw.symm
      clear hw HBY
      obtain ⟨g, cap1, w3, hrun, hown, hb3⟩ := appS wr w.heap.size ao n cap ((tx.take k).drop 256) x HR.out (by omega) HB.out.size
      have HRUN := hide hrun
      have HOWN := hide hown
      have HB3 := hide (HB.out.trans hb3)
      clear hrun hown hb3
      go_wp2_with (at_builtin; refine Lib.wpList_append_run _ rfl _ _ _ _ rfl _ _ rfl rfl _ _ HRUN.out ?_)
      go_roundw
      case rel => exact ⟨k + 1, n + 1, _, cap1, rfl, by go_num, by omega, by omega, hide (by rw [HDS.out, List.length_append, ← HN.out]; rfl), hide (by rw [HDS.out]; exact HOWN.out), HB3⟩
      case measure => simp [intOf]; omega
    · have hkk : ¬ (k : Int) < (tx.length : Int) := by omega
      have htk : tx.take k = tx := List.take_of_length_le (by omega)
      rw [htk] at HN HR
      clear htk
      go_wp2
      go_ret
      exact ⟨⟨ao, n, cap, rfl, HN.out, HR.out⟩, HB.out⟩
end

end Go.Proofs.Ytlfffalfnnmliaa

namespace Go.Proofs.Ytlfffalfnnmliaa
open Go.RowKit Go.Maps
set_option linter.unusedVariables false
set_option linter.unusedSimpArgs false

set_option maxRecDepth 20000 in
set_option maxHeartbeats 4000000 in
theorem lmerges_any (w : World) (a1 a2 : Option Addr) (n1 n2 c1 c2 : Nat) (A B : List (Int × Int)) (ha : ReadsM w a1 n1 A) (hb : ReadsM w a2 n2 B) (hn : n1 ≤ 1000000) :
    Calls Try.prog 13 #[.slice a1 n1 c1, .slice a2 n2 c2] w fun e w' => e = .returned (.bool (decide (A = B))) ∧ Below w.heap.size w w' := by
  have HA := hide ha
  have HB := hide hb
  clear ha hb
  by_cases hne : ¬ n1 = n2
  · have HD : Hid (decide (A = B) = false) := hide (decide_eq_false (fun e => hne (by rw [← HA.out.1, ← HB.out.1, e])))
    have hnd : ((n1 : Int) != (n2 : Int)) = true := by simp; omega
    go_enter Try.func13, Try.ntmps13
    go_wp2
    go_ret
    exact ⟨by rw [HD.out]; rfl, Below.refl _ _⟩
  replace hne : n1 = n2 := by omega
  subst hne
  go_enter Try.func13, Try.ntmps13
  go_wp2
  go_loopw [5] (fun i wr => ∃ (k : Nat), i = .int .i64 k ∧ k ≤ n1 ∧ Hid (∀ j, j < k → gm A j = gm B j) ∧ Hid (Below w.heap.size w wr)) (fun i _ => n1 - (intOf i).toNat)
  case atStart => exact ⟨0, rfl, Nat.zero_le _, hide (fun j hj => by omega), hide (Below.refl _ _)⟩
  case round =>
    obtain ⟨k, rfl, hk, HK, HBl⟩ := hrel
    by_cases hlt : k < n1
    · have hk0 : (0 : Int) ≤ (k : Int) := by omega
      have hk1 : (k : Int) < (n1 : Int) := by omega
      obtain ⟨b, off, rfl, hbw, c0, c1⟩ := (HA.out.kept HBl.out).at hlt
      obtain ⟨b', off', rfl, hbw', d0, d1⟩ := (HB.out.kept HBl.out).at hlt
      have HK2 : Hid (gm A k = gm B k → ∀ j, j < k + 1 → gm A j = gm B j) := hide (fun h j hj => by by_cases e : j = k; · { rw [e]; exact h }; · { exact HK.out j (by omega) })
      have HNE : Hid (gm A k ≠ gm B k → A ≠ B) := hide (fun h e => h (by rw [e]))
      generalize gm A k = x at *
      generalize gm B k = y at *
      obtain ⟨x1, x2⟩ := x
      obtain ⟨y1, y2⟩ := y
      simp only at c0 c1 d0 d1
      by_cases e1 : x1 = y1
      · by_cases e2 : x2 = y2
        · subst e1 e2
          have HF := hide (HK2.out rfl)
          go_wp2
          go_quiet (fail)
          have HD : Hid (Below w.heap.size w (wr.drewN nq)) := hide (HBl.out.trans ⟨rfl, rfl, rfl, Nat.le_refl _, fun _ _ => rfl⟩)
          clear c0 c1 d0 d1
          generalize wr.drewN nq = wd at *
          go_wp2
          exact ⟨⟨k + 1, by go_num, by omega, HF, HD⟩, by simp [intOf]; omega⟩
        · have HF := hide (HNE.out (fun e => e2 (by injection e)))
          have hd1 : (x1 == y1) = true := by simpa using e1
          have hd2 : (x2 == y2) = false := by simpa using e2
          clear e1 e2
          go_wp2
          go_quiet (fail)
          have HD : Hid (Below w.heap.size w (wr.drewN nq)) := hide (HBl.out.trans ⟨rfl, rfl, rfl, Nat.le_refl _, fun _ _ => rfl⟩)
          clear c0 c1 d0 d1
          generalize wr.drewN nq = wd at *
          go_wp2
          go_ret
          exact ⟨by rw [decide_eq_false HF.out]; rfl, HD.out⟩
      · have HF := hide (HNE.out (fun e => e1 (by injection e)))
        have hd1 : (x1 == y1) = false := by simpa using e1
        clear e1
        go_wp2
        go_quiet (fail)
        have HD : Hid (Below w.heap.size w (wr.drewN nq)) := hide (HBl.out.trans ⟨rfl, rfl, rfl, Nat.le_refl _, fun _ _ => rfl⟩)
        clear c0 c1 d0 d1
        generalize wr.drewN nq = wd at *
        go_wp2
        go_ret
        exact ⟨by rw [decide_eq_false HF.out]; rfl, HD.out⟩
    · obtain rfl : k = n1 := by omega
      have HEQ : Hid (A = B) := hide (by
        refine List.ext_getElem (by rw [HA.out.1, HB.out.1]) (fun i h1 h2 => ?_)
        have := HK.out i (by rw [← HA.out.1]; exact h1)
        unfold gm at this
        rw [List.getD_eq_getElem?_getD, List.getD_eq_getElem?_getD, List.getElem?_eq_getElem h1, List.getElem?_eq_getElem h2] at this
        exact this)
      go_wp2
      go_ret
      exact ⟨by rw [decide_eq_true HEQ.out]; rfl, HBl.out⟩

set_option maxRecDepth 20000 in
set_option maxHeartbeats 4000000 in
theorem sequal_any (w : World) (a1 a2 : Option Addr) (n1 n2 c1 c2 : Nat) (A B : List (Int × Int)) (ha : ReadsM w a1 n1 A) (hb : ReadsM w a2 n2 B) (hn : n1 ≤ 1000000) :
    Calls Try.prog 46 #[.slice a1 n1 c1, .slice a2 n2 c2] w fun e w' => e = .returned (.bool (decide (A = B))) ∧ Below w.heap.size w w' := by
  have HA := hide ha
  have HB := hide hb
  clear ha hb
  by_cases hne : ¬ n1 = n2
  · have HD : Hid (decide (A = B) = false) := hide (decide_eq_false (fun e => hne (by rw [← HA.out.1, ← HB.out.1, e])))
    have hnd : ((n1 : Int) != (n2 : Int)) = true := by simp; omega
    go_enter Try.func46, Try.ntmps46
    go_wp2
    go_ret
    exact ⟨by rw [HD.out]; rfl, Below.refl _ _⟩
  replace hne : n1 = n2 := by omega
  subst hne
  go_enter Try.func46, Try.ntmps46
  go_wp2
  go_loopw [13] (fun i wr => ∃ (k : Nat), i = .int .i64 k ∧ k ≤ n1 ∧ Hid (∀ j, j < k → gm A j = gm B j) ∧ Hid (Below w.heap.size w wr)) (fun i _ => n1 - (intOf i).toNat)
  case atStart => exact ⟨0, rfl, Nat.zero_le _, hide (fun j hj => by omega), hide (Below.refl _ _)⟩
  case round =>
    obtain ⟨k, rfl, hk, HK, HBl⟩ := hrel
    by_cases hlt : k < n1
    · have hk0 : (0 : Int) ≤ (k : Int) := by omega
      have hk1 : (k : Int) < (n1 : Int) := by omega
      obtain ⟨b, off, rfl, hbw, c0, c1⟩ := (HA.out.kept HBl.out).at hlt
      obtain ⟨b', off', rfl, hbw', d0, d1⟩ := (HB.out.kept HBl.out).at hlt
      have HK2 : Hid (gm A k = gm B k → ∀ j, j < k + 1 → gm A j = gm B j) := hide (fun h j hj => by by_cases e : j = k; · { rw [e]; exact h }; · { exact HK.out j (by omega) })
      have HNE : Hid (gm A k ≠ gm B k → A ≠ B) := hide (fun h e => h (by rw [e]))
      generalize gm A k = x at *
      generalize gm B k = y at *
      obtain ⟨x1, x2⟩ := x
      obtain ⟨y1, y2⟩ := y
      simp only at c0 c1 d0 d1
      by_cases e1 : x1 = y1
      · by_cases e2 : x2 = y2
        · subst e1 e2
          have HF := hide (HK2.out rfl)
          go_wp2
          go_quiet (fail)
          have HD : Hid (Below w.heap.size w (wr.drewN nq)) := hide (HBl.out.trans ⟨rfl, rfl, rfl, Nat.le_refl _, fun _ _ => rfl⟩)
          clear c0 c1 d0 d1
          generalize wr.drewN nq = wd at *
          go_wp2
          exact ⟨⟨k + 1, by go_num, by omega, HF, HD⟩, by simp [intOf]; omega⟩
        · have HF := hide (HNE.out (fun e => e2 (by injection e)))
          have hd1 : (x1 == y1) = true := by simpa using e1
          have hd2 : (x2 == y2) = false := by simpa using e2
          clear e1 e2
          go_wp2
          go_quiet (fail)
          have HD : Hid (Below w.heap.size w (wr.drewN nq)) := hide (HBl.out.trans ⟨rfl, rfl, rfl, Nat.le_refl _, fun _ _ => rfl⟩)
          clear c0 c1 d0 d1
          generalize wr.drewN nq = wd at *
          go_wp2
          go_ret
          exact ⟨by rw [decide_eq_false HF.out]; rfl, HD.out⟩
      · have HF := hide (HNE.out (fun e => e1 (by injection e)))
        have hd1 : (x1 == y1) = false := by simpa using e1
        clear e1
        go_wp2
        go_quiet (fail)
        have HD : Hid (Below w.heap.size w (wr.drewN nq)) := hide (HBl.out.trans ⟨rfl, rfl, rfl, Nat.le_refl _, fun _ _ => rfl⟩)
        clear c0 c1 d0 d1
        generalize wr.drewN nq = wd at *
        go_wp2
        go_ret
        exact ⟨by rw [decide_eq_false HF.out]; rfl, HD.out⟩
    · obtain rfl : k = n1 := by omega
      have HEQ : Hid (A = B) := hide (by
        refine List.ext_getElem (by rw [HA.out.1, HB.out.1]) (fun i h1 h2 => ?_)
        have := HK.out i (by rw [← HA.out.1]; exact h1)
        unfold gm at this
        rw [List.getD_eq_getElem?_getD, List.getD_eq_getElem?_getD, List.getElem?_eq_getElem h1, List.getElem?_eq_getElem h2] at this
        exact this)
      go_wp2
      go_ret
      exact ⟨by rw [decide_eq_true HEQ.out]; rfl, HBl.out⟩

end Go.Proofs.Ytlfffalfnnmliaa

namespace Go.Proofs.Ytlfffalfnnmliaa
open Go.RowKit Go.Maps
set_option linter.unusedVariables false
set_option linter.unusedSimpArgs false
attribute [local go_sem ↓] Go.wp_at_zero Go.wp_at_succ

theorem ReadsM.row {w : World} {B : Nat} {ao : Option Addr} {n cap : Nat} {mg : List (Int × Int)} (h : w.ownsRow B 69 2 (.slice ao n cap) n (fl2 mg)) (hn : mg.length = n) : ReadsM w ao n mg := by
  refine ⟨hn, ?_⟩
  rcases Nat.eq_zero_or_pos n with h0 | h0
  · exact Or.inl h0
  obtain ⟨g, cap', e, hb, hg⟩ := h.form h0
  simp only [Value.slice.injEq] at e
  obtain ⟨rfl, -, rfl⟩ := e
  refine Or.inr ⟨g, 0, rfl, fun i hi => ?_⟩
  rw [Nat.zero_add, h.cellAt (i * 2) (by omega), h.cellAt (i * 2 + 1) (by omega)]
  exact fl2_get mg i (by omega)

/-- Its tokens can be imported, with the same parents. -/
def PlP (l : List ByteArray) (mg : List (Int × Int)) : Prop := (∀ j, j < l.length → imC l j = 0) ∧ (imS l l.length).2 = mg

section
variable {F : List Nat} {p : Nat} {v0 v1 : Value} {b2 b3 : Nat} {tx : List ByteArray} {mg : List (Int × Int)} {w : World}
theorem drop_len (hk : Tok tx mg) : (tx.drop 256).length = mg.length := by have := hk.len; simp; omega
theorem drop_sz (hk : Tok tx mg) : ∀ x ∈ tx.drop 256, x.size ≤ 64 := fun x hx => by
  obtain ⟨i, hi, e⟩ := gs_mem.1 (List.mem_of_mem_drop hx)
  rw [← e]
  exact hk.sz i hi
set_option maxRecDepth 20000 in
set_option maxHeartbeats 4000000 in
theorem plain_any (h : TAt F p v0 v1 b2 b3 tx mg (lgs tx) w) (hk : Tok tx mg) :
    Calls Try.prog 22 #[.pointer (some ⟨p, 0, none⟩)] w fun e w' => ((e = .returned (.bool true) ∧ PlP (tx.drop 256) mg) ∨ (e = .returned (.bool false) ∧ ¬ PlP (tx.drop 256) mg)) ∧ Below w.heap.size w w' := by
  have HX := hide (export_any h hk)
  have HT := hide h
  have HDL := hide (drop_len hk)
  have HDS := hide (drop_sz hk)
  have HK := hide hk
  have hml : mg.length ≤ 1000 := by have h1 := hk.len; have h2 := hk.cap; omega
  clear h hk
  generalize tx.drop 256 = l at *
  go_enter Try.func22, Try.ntmps22
  go_wp2_with fail
  refine (unhide HX).mono ?_
  rintro e w1 ⟨⟨ao, n, cap, rfl, hn, hrow⟩, hb1⟩
  have hnl : n ≤ 1000 := by rw [hn, HDL.out]; exact hml
  have HI := hide (import_any ao n cap l w1 (RdT.row hrow hn.symm) (by omega) (fun x hx => by have := HDS.out x hx; omega))
  have HB1 := hide hb1
  have HN := hide hn
  have HT1 := hide (HT.out.keptB hb1)
  clear hrow hb1 hn HX HT
  go_wp2_with fail
  refine (unhide HI).mono ?_
  rintro e w2 ⟨hP, hb2⟩
  have HB2 := hide (HB1.out.trans (hb2.mono HB1.out.size))
  have HT2 := hide (HT1.out.keptB hb2)
  clear hb2 HI HT1 HB1
  rcases hP with ⟨k, hkn, _, hne, rfl⟩ | ⟨hok, p', F', u0, u1, d2, d3, rfl, hT', _⟩
  · have HNP : Hid (¬ PlP l mg) := hide (fun h => hne (h.1 k (by rw [← HN.out]; exact hkn)))
    generalize imC l k = cc at *
    have hcb : (cc == 0) = false := by simpa using hne
    clear hne
    go_wp2
    go_ret
    exact ⟨Or.inr ⟨rfl, HNP.out⟩, HB2.out⟩
  · have hn2 : n = l.length := HN.out
    subst hn2
    have HOK := hide hok
    have hR' := imS_rch l l.length
    have hml' : (imS l l.length).2.length ≤ 1000 := by have h1 := hR'.tok.len; have h2 := hR'.tok.cap; omega
    have HPD : Hid (PlP l mg ↔ (imS l l.length).2 = mg) := hide ⟨fun h => h.2, fun h => ⟨HOK.out, h⟩⟩
    have HM1 := hide (tmerges_any hT' hml')
    clear hok hT' hR'
    generalize (imS l l.length).2 = mg' at *
    generalize l.length = n at *
    go_wp2_with fail
    refine (unhide HM1).mono ?_
    rintro e w3 ⟨⟨rv, rfl, hr3⟩, hb3⟩
    obtain ⟨a3, c3, hv3⟩ := row_form hr3
    subst hv3
    have HM2 := hide (tmerges_any (HT2.out.keptB hb3) hml)
    have HB3 := hide (HB2.out.trans (hb3.mono HB2.out.size))
    have HR3 := hide hr3
    clear hr3 hb3 HM1 HB2
    go_wp2_with fail
    refine (unhide HM2).mono ?_
    rintro e w4 ⟨⟨rv, rfl, hr4⟩, hb4⟩
    obtain ⟨a4, c4, hv4⟩ := row_form hr4
    subst hv4
    have HEQ := hide (sequal_any w4 a3 a4 mg'.length mg.length c3 c4 mg' mg (ReadsM.row (row_keptB HR3.out hb4) rfl) (ReadsM.row hr4 rfl) (by omega))
    have HB4 := hide (HB3.out.trans (hb4.mono HB3.out.size))
    clear hr4 hb4 HM2 HB3 HR3
    go_wp2_with fail
    refine (unhide HEQ).mono ?_
    rintro e w5 ⟨rfl, hb5⟩
    have HB5 := hide (HB4.out.trans (hb5.mono HB4.out.size))
    clear hb5 HEQ HB4
    by_cases he : mg' = mg
    · have HF := hide (HPD.out.2 he)
      rw [decide_eq_true he]
      clear he
      go_wp2
      go_ret
      exact ⟨Or.inl ⟨rfl, HF.out⟩, HB5.out⟩
    · have HF : Hid (¬ PlP l mg) := hide (fun h => he (HPD.out.1 h))
      rw [decide_eq_false he]
      clear he
      go_wp2
      go_ret
      exact ⟨Or.inr ⟨rfl, HF.out⟩, HB5.out⟩
end
theorem plain_nil (w : World) : Calls Try.prog 22 #[.pointer none] w fun e w' => e = .returned (.bool false) ∧ w' = w := by
  go_enter Try.func22, Try.ntmps22
  go_wp2
  go_ret
  exact ⟨rfl, rfl⟩

end Go.Proofs.Ytlfffalfnnmliaa

namespace Go.Proofs.Ytlfffalfnnmliaa
open Go.RowKit Go.Maps
set_option linter.unusedVariables false
set_option linter.unusedSimpArgs false
attribute [local go_sem ↓] Go.wp_at_zero Go.wp_at_succ

def gL1 : List ByteArray := [⟨#[97, 98]⟩, ⟨#[97, 98, 99]⟩]
def gL2 : List ByteArray := [⟨#[97, 98, 99]⟩]
theorem gL1_0 : imC gL1 0 = 0 := by decide +kernel
theorem gL1_1 : imC gL1 1 = 0 := by decide +kernel
theorem gL1_m : (imS gL1 2).2 = [(97, 98), (256, 99)] := by decide +kernel
theorem gL2_0 : imC gL2 0 = 2 := by decide +kernel

set_option maxRecDepth 20000 in
set_option maxHeartbeats 4000000 in
theorem awake7_any (w : World) : Calls Try.prog 10 #[] w fun e w' => e = .returned (.bool true) ∧ Below w.heap.size w w' := by
  have hl0 := low1 w (.cells #[.string ⟨#[97, 98]⟩, .string ⟨#[97, 98, 99]⟩] 9)
  have hR : RdT (w.alloc (.cells #[.string ⟨#[97, 98]⟩, .string ⟨#[97, 98, 99]⟩] 9)) (some ⟨w.heap.size, 0, none⟩) 2 gL1 := by
    refine ⟨rfl, Or.inr ⟨_, _, rfl, by simp, fun i hi => ?_⟩⟩
    rcases (show i = 0 ∨ i = 1 by omega) with rfl | rfl
    · simp [gT, gL1]
    · simp [gT, gL1]
  have HI := hide (import_any _ 2 2 gL1 _ hR (by omega) (fun x hx => by simp [gL1] at hx; rcases hx with rfl | rfl <;> decide))
  have HL0 := hide hl0
  clear hl0 hR
  go_enter Try.func10, Try.ntmps10
  go_wp2_with fail
  refine (unhide HI).mono ?_
  rintro e w1 ⟨hP, hb1⟩
  have HB1 := hide (HL0.out.trans (hb1.mono HL0.out.size))
  clear HI hb1 HL0
  rcases hP with ⟨k, hk, _, hne, _⟩ | ⟨_, p, F, v0, v1, b2, b3, rfl, hT, _⟩
  · exfalso
    rcases (show k = 0 ∨ k = 1 by omega) with rfl | rfl
    · exact hne gL1_0
    · exact hne gL1_1
  have hR1 := imS_rch gL1 2
  have hpl : (imS gL1 2).2.length = 2 := by rw [gL1_m]; rfl
  have hg1 : gm (imS gL1 2).2 1 = (256, 99) := by rw [gL1_m]; rfl
  have HPA0 := parents_any hT 1 (by omega) hR1.tok.len (by omega)
  rw [hg1] at HPA0
  have HPA : Hid (Calls Try.prog 36 #[.pointer (some ⟨p, 0, none⟩), .int .i64 257] w1 fun e w' => e = .returned (merR (256, 99) true) ∧ Below w1.heap.size w1 w') := hide HPA0
  clear HPA0 hR1 hpl hg1 hT
  go_wp2_with fail
  refine (unhide HPA).mono ?_
  rintro e w2 ⟨rfl, hb2⟩
  have HB2 := hide (HB1.out.trans (hb2.mono HB1.out.size))
  unfold merR
  clear hb2 HPA HB1
  have hl2 := low1 w2 (.cells #[.int .i64 256, .int .i64 99] 69)
  have hl3 := low1 (w2.alloc (.cells #[.int .i64 256, .int .i64 99] 69)) (.cells #[.string ⟨#[97, 98, 99]⟩] 9)
  have hR2 : RdT ((w2.alloc (.cells #[.int .i64 256, .int .i64 99] 69)).alloc (.cells #[.string ⟨#[97, 98, 99]⟩] 9)) (some ⟨w2.heap.size + 1, 0, none⟩) 1 gL2 := by
    refine ⟨rfl, Or.inr ⟨_, _, rfl, by simp, fun i hi => ?_⟩⟩
    obtain rfl : i = 0 := by omega
    simp [gT, gL2]
  have HI2 := hide (import_any _ 1 1 gL2 _ hR2 (by omega) (fun x hx => by simp [gL2] at hx; subst hx; decide))
  have hbox : (w2.alloc (.cells #[.int .i64 256, .int .i64 99] 69)).cell? ⟨w2.heap.size, 0, none⟩ = some (.int .i64 256) ∧ (w2.alloc (.cells #[.int .i64 256, .int .i64 99] 69)).cell? ⟨w2.heap.size, 1, none⟩ = some (.int .i64 99) := by simp
  have hlt2 : w2.heap.size < (w2.alloc (.cells #[.int .i64 256, .int .i64 99] 69)).heap.size := by simp
  have HBX := hide (And.intro hbox hlt2)
  have HL2 := hide hl2
  have HL3 := hide hl3
  clear hl2 hl3 hR2 hbox hlt2
  go_wp2_with fail
  generalize w2.alloc (.cells #[.int .i64 256, .int .i64 99] 69) = w3 at *
  refine (unhide HI2).mono ?_
  rintro e w4 ⟨hP, hb4⟩
  have hb34 := HL3.out.trans (hb4.mono HL3.out.size)
  have q0 := (hb34.cell HBX.out.2).trans HBX.out.1.1
  have q1 := (hb34.cell HBX.out.2).trans HBX.out.1.2
  have HB4 := hide ((HL2.out.trans (hb34.mono HL2.out.size)))
  rcases hP with ⟨k, hk, _, hne, rfl⟩ | ⟨hok, _⟩
  rotate_left
  · exact absurd (hok 0 (by omega)) (by rw [gL2_0]; decide)
  obtain rfl : k = 0 := by omega
  rw [gL2_0]
  clear HI2 hb4 hb34 hne hk HL2 HL3 HBX
  go_wp2
  go_ret
  exact ⟨by first | rfl | simp, HB2.out.trans (HB4.out.mono HB2.out.size)⟩

theorem im_zero (w : World) : ∀ j, j < 0 → imC [] j = 0 := fun j hj => by omega
set_option maxRecDepth 20000 in
set_option maxHeartbeats 4000000 in
theorem gnone_walk (n : Int) (w : World) (hn : 0 ≤ n ∧ n ≤ 255) : Calls Try.prog 6 #[.int .u8 n] w fun e w' => e = .returned (.bool true) ∧ Below w.heap.size w w' := by
  have HI := hide (import_any none 0 0 [] w ⟨rfl, Or.inl rfl⟩ (by omega) (fun x hx => by cases hx))
  go_enter Try.func6, Try.ntmps6
  go_wp2_with fail
  refine (unhide HI).mono ?_
  rintro e w1 ⟨hP, hb1⟩
  have HB1 := hide hb1
  rcases hP with ⟨k, hk, _⟩ | ⟨_, p, F, v0, v1, b2, b3, rfl, hT, _⟩
  · omega
  have hT0 : TAt F p v0 v1 b2 b3 (tb 256) [] (lgs (tb 256)) w1 := hT
  have hl256 : (tb 256).length = 256 := tb_len 256
  have HL := hide (tlen_any hT0)
  rw [hl256] at HL
  have hd0 : (tb 256).drop 256 = [] := List.drop_eq_nil_of_le (by rw [hl256]; exact Nat.le_refl _)
  have HP := hide (plain_any hT0 tok_begin)
  rw [hd0] at HP
  clear hT hT0 hb1 HI hl256 hd0
  go_wp2_with fail
  refine (unhide HL).mono ?_
  rintro e w2 ⟨rfl, hw⟩
  obtain rfl := hw.symm
  clear hw HL
  go_wp2_with fail
  refine (unhide HP).mono ?_
  rintro e w2 ⟨hE, hb2⟩
  rcases hE with ⟨rfl, -⟩ | ⟨rfl, hno⟩
  rotate_left
  · exact absurd ⟨fun j hj => by simp at hj, rfl⟩ hno
  have HB2 := hide (HB1.out.trans (hb2.mono HB1.out.size))
  clear hb2 HP HB1
  go_wp2_with fail
  refine (plain_nil w2).mono ?_
  rintro e w3 ⟨rfl, hw⟩
  obtain rfl := hw.symm
  clear hw
  go_wp2_with fail
  refine (export_nil w2).mono ?_
  rintro e w3 ⟨rfl, hw⟩
  obtain rfl := hw.symm
  clear hw
  go_wp2_with fail
  refine (awake7_any w2).mono ?_
  rintro e w3 ⟨rfl, hb3⟩
  go_wp2
  go_ret
  exact ⟨rfl, HB2.out.trans (hb3.mono HB2.out.size)⟩

end Go.Proofs.Ytlfffalfnnmliaa
