/- ChainParts: where nothing goes across, the pieces' tokens are what is made of both together. -/
import Derived.Test.YtblbbenfaafcoabChL
import Derived.Test.YtblbbenfaafcoabChQ
namespace Go.Proofs.Ytblbbenfaafcoab
open Go.RowKit Go.Maps
set_option linter.unusedVariables false
set_option linter.unusedSimpArgs false
attribute [local go_sem ↓] Go.wp_at_zero Go.wp_at_succ

theorem take_gI' (A : List Int) {k : Nat} (h : k < A.length) : A = A.take k ++ gI A k :: A.drop (k + 1) := by
  rw [← gI_drop A h, List.take_append_drop]
/-- Numbers are put behind others. -/
theorem app_ints (w : World) (B1 B2 : Nat) (a1 a2 : Option Addr) (n1 n2 c1 c2 : Nat) (l1 l2 : List Int) (h1 : w.ownsRow B1 3 1 (.slice a1 n1 c1) n1 (iv l1)) (h2 : w.ownsRow B2 3 1 (.slice a2 n2 c2) n2 (iv l2)) (hn1 : n1 ≤ 1000000) (hn2 : n2 ≤ 1000000) (h0 : 0 < n2) (hb : B1 ≤ w.heap.size) :
    ∃ g cap w1, (Builtin.append_ #[31, 31] 31 #[.slice a1 n1 c1, .slice a2 n2 c2]).run Try.prog w = .ok (.slice (some ⟨g, 0, none⟩) (n1 + n2) cap) w1 ∧ w1.ownsRow B1 3 1 (.slice (some ⟨g, 0, none⟩) (n1 + n2) cap) (n1 + n2) (iv (l1 ++ l2)) ∧ Below B1 w w1 := by
  obtain ⟨i0, hi, hz0, hz1, hz2⟩ := info_parts info_int
  obtain ⟨g2, c2', hv, _, _⟩ := h2.form (by omega)
  simp only [Value.slice.injEq] at hv
  obtain ⟨rfl, _, rfl⟩ := hv
  obtain ⟨g, cap1, w1, hrun, hown, hgrow, _, _⟩ := run_append_lies (P := Try.prog) w 31 31 B1 3 i0 _ 1 8 Try.underlying31 hi hz0 hz1 hz2 rfl (by omega) (.slice a1 n1 c1) n1 (iv l1) h1 ⟨g2, 0, none⟩ n2 c2 (iv l2) h2.1 (fun j u hu => h2.cells (g := g2) rfl j u hu) (fun u hu => by simp [iv] at hu; obtain ⟨x, _, rfl⟩ := hu; rfl) h0 (by unfold maxLen; omega) (by omega) hb w.heap.size rfl
  refine ⟨g, cap1, w1, hrun, by rw [iv_append]; exact hown, ?_⟩
  exact ⟨hgrow.os, hgrow.tape, hgrow.output, hgrow.size, fun k hk => hgrow.block k (by omega) (fun e => by have := (h1.lt k e.symm).1; omega)⟩

set_option maxRecDepth 20000 in
set_option maxHeartbeats 16000000 in
theorem parts_walk (ao : Option Addr) (n cap : Nat) (U : List Int) (s1 s2 : ByteArray) (w : World) (hM : ReadsH w ao n U) (hn : n ≤ 9223372036854775807) (hsz1 : s1.size ≤ 9223372036854775807) (hsz2 : s2.size ≤ 9223372036854775807) :
    Calls Try.prog 3 #[.slice ao n cap, .string s1, .string s2] w fun e w' => e = .returned (.bool true) ∧ Below w.heap.size w w' := by
  go_enter Try.func3, Try.ntmps3
  by_cases hbig : 60 < n
  · have hb : (60 : Int) < (n : Int) := by omega
    go_wp2_with fail
    refine (awake5_any _).mono ?_
    rintro e w1 ⟨rfl, hb1⟩
    go_wp2
    go_ret
    exact ⟨rfl, hb1⟩
  have hb : ¬ (60 : Int) < (n : Int) := by omega
  by_cases hbig2 : 300 < s1.size
  · have hc : (300 : Int) < (s1.size : Int) := by omega
    go_wp2_with fail
    refine (awake5_any _).mono ?_
    rintro e w1 ⟨rfl, hb1⟩
    go_wp2
    go_ret
    exact ⟨rfl, hb1⟩
  have hc : ¬ (300 : Int) < (s1.size : Int) := by omega
  by_cases hbig3 : 300 < s2.size
  · have hd : (300 : Int) < (s2.size : Int) := by omega
    go_wp2_with fail
    refine (awake5_any _).mono ?_
    rintro e w1 ⟨rfl, hb1⟩
    go_wp2
    go_ret
    exact ⟨rfl, hb1⟩
  have hd : ¬ (300 : Int) < (s2.size : Int) := by omega
  go_wp2_with fail
  refine (awake5_any _).mono ?_
  rintro e w1 ⟨rfl, hb1⟩
  have HTB := hide (table_any ao n cap U w1 (hM.kept hb1) (by omega))
  have HB1 := hide hb1
  clear hb1
  go_wp2_with fail
  refine (unhide HTB).mono ?_
  rintro e w2 ⟨⟨tx, mg, vb, vm, p, F, v0, v1, b2, b3, rfl, hR, hT, hA⟩, hb2⟩
  obtain ⟨a1, c1, hv1⟩ := row_form hT.rb
  obtain ⟨a2, c2, hv2⟩ := row_form hT.rm
  subst hv1 hv2
  have hl2 := low1 w2 (.cells #[.slice a1 tx.length c1, .slice a2 mg.length c2] 28)
  have HS : Hid (TbS w w2.heap.size a1 c1 a2 c2 tx mg p F v0 v1 b2 b3 (w2.alloc (.cells #[.slice a1 tx.length c1, .slice a2 mg.length c2] 28))) := hide ⟨hR, hT.kept hl2, hA.keptB hl2, heap_alloc_new w2 _, (HB1.out.trans (hb2.mono HB1.out.size)).trans (hl2.mono (HB1.out.trans (hb2.mono HB1.out.size)).size)⟩
  have HE := hide (encode_any _ HS.out.T hR.tok (s1 ++ s2) (by simp; omega))
  clear hl2 hT hA hb2 hR HTB
  go_wp2_with fail
  generalize w2.alloc (.cells #[.slice a1 tx.length c1, .slice a2 mg.length c2] 28) = w3 at *
  generalize w2.heap.size = q at *
  refine (unhide HE).mono ?_
  rintro e w4 ⟨⟨v, rfl, hva⟩, hb4⟩
  obtain ⟨aa, ca, hvv⟩ := row_form hva
  subst hvv
  replace HS := hide (HS.out.next hb4)
  have HRa := hide hva
  clear hva hb4 HE
  have hk := HS.out.k.tok
  have HMI := hide (made_in hk tx.length (s1 ++ s2))
  have HMP := hide (show pos tx (made mg tx.length (s1 ++ s2)) = s1.size + s2.size by rw [made_pos hk]; simp)
  have hml := made_len mg tx.length (s1 ++ s2)
  rw [ByteArray.size_append] at hml
  have HPT := hide (fun (u v : List Int) (h : made mg tx.length (s1 ++ s2) = u ++ v) (hp : pos tx u = s1.size) => made_parts hk tx.length s1 s2 h hp)
  generalize made mg tx.length (s1 ++ s2) = A at *
  have hm1 := made_len mg tx.length s1
  have hm2 := made_len mg tx.length s2
  have CE := hide (fun (W : World) (h : TbS w q a1 c1 a2 c2 tx mg p F v0 v1 b2 b3 W) (s : ByteArray) (hs : s.size ≤ 100000) => encode_any W h.T hk s hs)
  go_wp2
  go_loopw [10, 11] (fun t i wr => ∃ (k m : Nat), t = .int .i64 m ∧ i = .int .i64 k ∧ k ≤ A.length ∧ m ≤ 600 ∧ Hid (m = pos tx (A.take k)) ∧ Hid (Below w4.heap.size w4 wr)) (fun _ i _ => A.length - (intOf i).toNat)
  case atStart => exact ⟨0, 0, rfl, rfl, Nat.zero_le _, by omega, hide (by simp [pos]), hide (Below.refl _ _)⟩
  case round =>
    obtain ⟨k, m, rfl, rfl, hkn, hm, HM, HB⟩ := hrel
    by_cases hlt : k < A.length
    · have hsplit := take_gI' A hlt
      have hk0 : (0 : Int) ≤ (k : Int) := by omega
      have hk1 : (k : Int) < (A.length : Int) := by omega
      by_cases hms : m = s1.size
      · have hmd : ((m : Int) == (s1.size : Int)) = true := by simp; omega
        have hP := HPT.out (A.take k) (A.drop k) (List.take_append_drop k A).symm (by rw [← HM.out]; exact hms)
        have HSr := hide (HS.out.next HB.out)
        have HRr := hide (row_keptB HRa.out HB.out)
        have HE1 := hide (CE.out wr HSr.out s1 (by omega))
        rw [← hP.1] at HE1
        have hl1 : (A.take k).length ≤ 1000000 := by rw [List.length_take]; omega
        have HL2 := hide (show 0 < (A.drop k).length ∧ (A.drop k).length ≤ 1000000 by rw [List.length_drop]; omega)
        have HP2 := hide hP.2
        have HCC := hide (List.take_append_drop k A)
        clear hsplit hP hms
        generalize A.take k = A1 at *
        generalize A.drop k = A2 at *
        go_wp2_with fail
        refine (unhide HE1).mono ?_
        rintro e w5 ⟨⟨v, rfl, hv1⟩, hb5⟩
        obtain ⟨x1, y1, hvv⟩ := row_form hv1
        subst hvv
        have HE2 := hide (CE.out w5 (HSr.out.next hb5) s2 (by omega))
        rw [← HP2.out] at HE2
        have HR1 := hide hv1
        have HB5 := hide hb5
        clear hv1 hb5 HE1
        go_wp2_with fail
        refine (unhide HE2).mono ?_
        rintro e w6 ⟨⟨v, rfl, hv2⟩, hb6⟩
        obtain ⟨x2, y2, hvv⟩ := row_form hv2
        subst hvv
        have hb56 := HB5.out.trans (hb6.mono HB5.out.size)
        obtain ⟨g, cap2, w7, hrun, hown, hb7⟩ := app_ints w6 wr.heap.size w5.heap.size x1 x2 A1.length A2.length y1 y2 A1 A2 (row_keptB HR1.out hb6) hv2 hl1 HL2.out.2 HL2.out.1 hb56.size
        have HRUN := hide hrun
        have hb67 := hb56.trans hb7
        have HI := hide (ints_same w7 _ _ _ (.slice (some ⟨g, 0, none⟩) (A1.length + A2.length) cap2) A (row_keptB HRr.out hb67) (by rw [← HCC.out, List.length_append]; exact hown) (by omega))
        have HB7 := hide (HSr.out.B.trans (hb67.mono HSr.out.B.size))
        clear hrun hown hb7 hb67 hb56 hb6 hv2 HE2
        go_wp2_with (at_builtin; refine Lib.wpList_append_run _ rfl _ _ _ _ rfl _ _ rfl rfl _ _ HRUN.out ?_)
        refine (unhide HI).mono ?_
        rintro e w8 ⟨rfl, hb8⟩
        go_wp2
        go_ret
        exact ⟨rfl, HB7.out.trans (hb8.mono HB7.out.size)⟩
      · have hmd : ((m : Int) == (s1.size : Int)) = false := by simp; omega
        have hx := HMI.out _ (gI_mem A hlt)
        obtain ⟨i0, hi0⟩ := Int.eq_ofNat_of_zero_le hx.1
        have hil : i0 < tx.length := by have := hx.2; omega
        have hi1 : (i0 : Int) < (tx.length : Int) := by omega
        have hi2 : (0 : Int) ≤ (i0 : Int) := by omega
        obtain ⟨ga, cga, hvg, hgl, c0⟩ := row_at (row_keptB HRa.out HB.out) hlt
        simp only [Value.slice.injEq] at hvg
        obtain ⟨rfl, _, rfl⟩ := hvg
        obtain ⟨gt, cgt, hvg, hgl3, e0⟩ := (HS.out.next HB.out).R.text hil
        simp only [Value.slice.injEq] at hvg
        obtain ⟨rfl, _, rfl⟩ := hvg
        obtain ⟨x0, x1, xf⟩ := (HS.out.next HB.out).X.cells
        have hsi : (gs tx i0).size = sz tx (gI A k) := by unfold sz; rw [hi0]; rfl
        rw [hi0] at c0
        have HM2 : Hid (m + (gs tx i0).size = pos tx (A.take (k + 1))) := hide (by rw [take_succ_gI A hlt, pos_append, ← HM.out, hsi]; simp [pos])
        have hmm : m + (gs tx i0).size ≤ 600 := by
          have h1 := HMP.out
          rw [hsplit, pos_append] at h1
          simp only [pos] at h1
          have := HM.out
          omega
        clear hsplit hx hi0 hsi hms
        generalize gs tx i0 = si at *
        go_wp2
        go_quiet (fail)
        have HB2 : Hid (Below w4.heap.size w4 (wr.drewN nq)) := hide (HB.out.trans ⟨rfl, rfl, rfl, Nat.le_refl _, fun _ _ => rfl⟩)
        clear x0 x1 xf c0 e0 HB
        generalize wr.drewN nq = wd at *
        go_wp2
        go_roundw
        case rel => exact ⟨k + 1, m + si.size, by go_num, by go_num, by omega, hmm, HM2, HB2⟩
        case measure => simp [intOf]; omega
    · obtain rfl : k = A.length := by omega
      go_wp2
      go_ret
      exact ⟨rfl, HS.out.B.trans (HB.out.mono HS.out.B.size)⟩

end Go.Proofs.Ytblbbenfaafcoab
