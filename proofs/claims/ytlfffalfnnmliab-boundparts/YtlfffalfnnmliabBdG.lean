/- BoundParts: the walk. -/
import Derived.Test.YtlfffalfnnmliabBdF
import Derived.Laws.Concat
namespace Go.Proofs.Ytlfffalfnnmliab
open Go.RowKit
set_option linter.unusedVariables false
set_option linter.unusedSimpArgs false

section
variable {q : Int → Int → Bool}
theorem btw_qa (a b : List UInt8) (ha : 0 < a.length) (hb : 0 < b.length) : btw q a b = qa q (a ++ b) a.length := by
  have e3 : a ≠ [] := List.length_pos_iff.1 ha
  have e4 : b ≠ [] := List.length_pos_iff.1 hb
  unfold btw qa
  rw [decide_eq_true e3, decide_eq_true e4, getD_left _ _ _ (by omega), getD_right _ _ _ (Nat.le_refl _), Nat.sub_self]
  rw [List.getLastD_eq_getLast?, List.getLast?_eq_getElem?, List.getD_eq_getElem?_getD, List.headD_eq_head?_getD, List.head?_eq_getElem?, List.getD_eq_getElem?_getD]
  rfl
theorem parts_both (a b : List UInt8) (ha : 0 < a.length) (hb : 0 < b.length) : (pcs q (a ++ b)).length + (if btw q a b = true then 0 else 1) = (pcs q a).length + (pcs q b).length := by
  rw [pcs_len, pcs_len, pcs_len, btw_qa a b ha hb, List.length_append]
  exact cnt_both a b ha b.length hb (Nat.le_refl _)
theorem pcs_zero (a : List UInt8) : (pcs q a).length = 0 ↔ a.length = 0 := by
  rw [pcs_len]
  constructor
  · intro h
    rcases Nat.eq_zero_or_pos a.length with h0 | h0
    · exact h0
    · have := cnt_pos (q := q) a a.length h0
      omega
  · intro h
    rw [h]
    rfl
theorem pcs_le (a : List UInt8) : (pcs q a).length ≤ a.length := by
  rw [pcs_len]
  exact cnt_le a _
theorem piece_at {l : List (List UInt8)} {k : Nat} (h : k < l.length) : (gT (bts l) k).data.toList = l[k] ∧ l[k] ∈ l := by
  refine ⟨?_, List.getElem_mem h⟩
  simp [gT, bts, h]
theorem flat_ge : ∀ {l : List (List UInt8)} {x : List UInt8}, x ∈ l → x.length ≤ l.flatten.length
  | y :: r, x, h => by
    rw [List.flatten_cons, List.length_append]
    rcases List.mem_cons.1 h with h | h
    · rw [h]; omega
    · have := flat_ge h; omega
theorem piece_whole {l : List (List UInt8)} (h : Pcs q l) {x : List UInt8} (hx : x ∈ l) : (pcs q x).length < 2 := by
  rw [pcs_len]
  have h1 := h.ne x hx
  exact (cnt_one x x.length (List.length_pos_iff.2 h1)).2 (h.wh x hx)
theorem piece_btw {l : List (List UInt8)} (h : Pcs q l) {k : Nat} (hk : k + 1 < l.length) : btw q (l[k]'(by omega)) l[k + 1] = true := by
  have h1 := h.ne _ (List.getElem_mem (show k < l.length by omega))
  have h2 := h.ne _ (List.getElem_mem hk)
  unfold btw
  rw [decide_eq_true h1, decide_eq_true h2]
  refine h.bw (l.take k) _ _ (l.drop (k + 2)) ?_
  have e1 := (List.take_append_drop k l).symm
  rw [List.drop_eq_getElem_cons (show k < l.length by omega), List.drop_eq_getElem_cons hk] at e1
  exact e1
end

set_option maxRecDepth 20000 in
set_option maxHeartbeats 16000000 in
theorem bparts_walk (ao : Option Addr) (n c1 : Nat) (C : List (Int × Int × Int)) (bo : Option Addr) (m c2 : Nat) (J : List (Int × Int)) (a b : ByteArray) (w : World) (hC : RdC w ao n C) (hn : n ≤ 9223372036854775807) (hJ : RdJ w bo m J) (hm : m ≤ 9223372036854775807) (ha : a.size ≤ 9223372036854775807) (hb : b.size ≤ 9223372036854775807) :
    Calls Try.prog 3 #[.slice ao n c1, .slice bo m c2, .string a, .string b] w fun e w' => e = .returned (.bool true) ∧ Below w.heap.size w w' := by
  go_enter Try.func3, Try.ntmps3
  by_cases hb1 : 100 < n
  · have hd : (100 : Int) < (n : Int) := by omega
    go_wp2_with fail
    refine (awake8_any _).mono ?_
    rintro e w1 ⟨rfl, hb1⟩
    go_wp2
    go_ret
    exact ⟨rfl, hb1⟩
  have hd1 : ¬ (100 : Int) < (n : Int) := by omega
  by_cases hb2 : 100 < m
  · have hd : (100 : Int) < (m : Int) := by omega
    go_wp2_with fail
    refine (awake8_any _).mono ?_
    rintro e w1 ⟨rfl, hb1⟩
    go_wp2
    go_ret
    exact ⟨rfl, hb1⟩
  have hd2 : ¬ (100 : Int) < (m : Int) := by omega
  by_cases hb3 : 300 < a.size
  · have hd : (300 : Int) < (a.size : Int) := by omega
    go_wp2_with fail
    refine (awake8_any _).mono ?_
    rintro e w1 ⟨rfl, hb1⟩
    go_wp2
    go_ret
    exact ⟨rfl, hb1⟩
  have hd3 : ¬ (300 : Int) < (a.size : Int) := by omega
  by_cases hb4 : 300 < b.size
  · have hd : (300 : Int) < (b.size : Int) := by omega
    go_wp2_with fail
    refine (awake8_any _).mono ?_
    rintro e w1 ⟨rfl, hb1⟩
    go_wp2
    go_ret
    exact ⟨rfl, hb1⟩
  have hd4 : ¬ (300 : Int) < (b.size : Int) := by omega
  go_wp2_with fail
  refine (awake8_any _).mono ?_
  rintro e w1 ⟨rfl, hb5⟩
  have HB1 := hide hb5
  have HN := hide (bnew_any ao n c1 C bo m c2 J w1 (hC.kept hb5) (hJ.kept hb5) (by omega) (by omega))
  clear hC hJ hb5
  go_wp2_with fail
  refine (unhide HN).mono ?_
  rintro e w2 ⟨hP, hb6⟩
  have HB2 := hide (HB1.out.trans (hb6.mono HB1.out.size))
  clear hb6 HN HB1
  rcases hP with ⟨hno, rfl⟩ | ⟨hok, p, rfl, hB⟩
  · clear hno
    go_wp2
    go_ret
    exact ⟨rfl, HB2.out⟩
  have HT := hide (hB.tb hok.1)
  clear hB hok
  generalize cutP C J = q at *
  have hal : a.data.toList.length = a.size := by simp
  have hbl : b.data.toList.length = b.size := by simp
  have hab : (a ++ b).data.toList = a.data.toList ++ b.data.toList := by simp
  have HA := hide (And.intro hal (And.intro hbl hab))
  clear hal hbl hab
  have HP1 := hide (fun (W : World) (h : Tb (.pointer (some ⟨p, 0, none⟩)) q W) => pieces_any h a (by omega))
  have HP2 := hide (fun (W : World) (h : Tb (.pointer (some ⟨p, 0, none⟩)) q W) => pieces_any h b (by omega))
  have HP3 := hide (fun (W : World) (h : Tb (.pointer (some ⟨p, 0, none⟩)) q W) => pieces_any h (a ++ b) (by simp; omega))
  have hadd : ¬ 9223372036854775807 < a.size + b.size := by omega
  go_wp2_with fail
  refine (HP1.out _ HT.out).mono ?_
  rintro e w3 ⟨⟨o1, n1, k1, rfl, hn1, -⟩, hb3'⟩
  have HB3 := hide (HB2.out.trans (hb3'.mono HB2.out.size))
  have HT3 := hide (HT.out.kept hb3')
  have HN1 := hide hn1
  clear hb3' HB2 HT HP1 hn1
  go_wp2_with fail
  refine (HP2.out _ HT3.out).mono ?_
  rintro e w4 ⟨⟨o2, n2, k2, rfl, hn2, -⟩, hb4'⟩
  have HB4 := hide (HB3.out.trans (hb4'.mono HB3.out.size))
  have HT4 := hide (HT3.out.kept hb4')
  have HN2 := hide hn2
  clear hb4' HB3 HT3 HP2 hn2
  go_wp2_with fail
  refine (HP3.out _ HT4.out).mono ?_
  rintro e w5 ⟨⟨o3, n3, k3, rfl, hn3, hrow⟩, hb5'⟩
  have HB5 := hide (HB4.out.trans (hb5'.mono HB4.out.size))
  have HT5 := hide (HT4.out.kept hb5')
  have HR := hide (RdT.row hrow hn3.symm)
  have HN3 := hide hn3
  have HPO := hide (pcs_ok (q := q) (a ++ b).data.toList)
  have HFL := hide (pcs_flat (q := q) (a ++ b).data.toList)
  have hn3l : n3 ≤ 600 := by rw [hn3]; have := pcs_le (q := q) (a ++ b).data.toList; rw [HA.out.2.2, List.length_append, HA.out.1, HA.out.2.1] at this; rw [HA.out.2.2]; omega
  have hn1l : n1 ≤ 300 := by rw [HN1.out]; have := pcs_le (q := q) a.data.toList; rw [HA.out.1] at this; omega
  have hn2l : n2 ≤ 300 := by rw [HN2.out]; have := pcs_le (q := q) b.data.toList; rw [HA.out.2.1] at this; omega
  have HBO : Hid (0 < a.size → 0 < b.size → n3 + (if btw q a.data.toList b.data.toList = true then 0 else 1) = n1 + n2) := hide (fun h1 h2 => by rw [HN3.out, HN1.out, HN2.out, HA.out.2.2]; exact parts_both _ _ (by rw [HA.out.1]; exact h1) (by rw [HA.out.2.1]; exact h2))
  have HZ1 : Hid (n1 = 0 ↔ a.size = 0) := hide (by rw [HN1.out, pcs_zero, HA.out.1])
  have HZ2 : Hid (n2 = 0 ↔ b.size = 0) := hide (by rw [HN2.out, pcs_zero, HA.out.2.1])
  have HO1 : Hid (a.size = 0 → n3 = n2) := hide (fun h => by rw [HN3.out, HN2.out, HA.out.2.2, show a.data.toList = [] from List.length_eq_zero_iff.1 (by rw [HA.out.1]; exact h)]; rfl)
  have HO2 : Hid (b.size = 0 → n3 = n1) := hide (fun h => by rw [HN3.out, HN1.out, HA.out.2.2, show b.data.toList = [] from List.length_eq_zero_iff.1 (by rw [HA.out.2.1]; exact h), List.append_nil])
  clear hb5' HB4 HT4 HP3 hn3 hrow
  generalize pcs q (a ++ b).data.toList = L at *
  go_wp2
  go_loopw [14, 15] (fun sv i wr => ∃ (k : Nat) (S : ByteArray), sv = .string S ∧ i = .int .i64 k ∧ k ≤ n3 ∧ Hid (S.data.toList = (L.take k).flatten) ∧ Hid (Drn w5 wr)) (fun _ i _ => n3 - (intOf i).toNat)
  case atStart => exact ⟨0, ⟨#[]⟩, rfl, rfl, Nat.zero_le _, hide (by simp), hide (Drn.refl _)⟩
  case round =>
    obtain ⟨k, S, rfl, rfl, hk, HS, HD⟩ := hrel
    by_cases hlt : k < n3
    · have hk0 : (0 : Int) ≤ (k : Int) := by omega
      have hk1 : (k : Int) < (n3 : Int) := by omega
      have hkl : k < L.length := by rw [← HN3.out]; exact hlt
      rcases (HR.out.kept HD.out.below).2 with h0 | ⟨g, off, rfl, hgl, hcc⟩
      · omega
      have c0 := hcc k hlt
      obtain ⟨hx1, hx2⟩ := piece_at hkl
      have hxne := HPO.out.ne _ hx2
      have hxw := piece_whole HPO.out hx2
      rw [← hx1] at hxne hxw
      have hxs : (gT (bts L) k).data.toList.length = (gT (bts L) k).size := by simp
      have hxp : 0 < (gT (bts L) k).size := by rw [← hxs]; exact List.length_pos_iff.2 hxne
      have hne := ba_ne hxp
      have HS2 : Hid (S.data.toList ++ (gT (bts L) k).data.toList = (L.take (k + 1)).flatten) := hide (by rw [HS.out, hx1, List.take_succ_eq_append_getElem hkl, List.flatten_append]; simp)
      have hSl : (S.data.toList ++ (gT (bts L) k).data.toList).length ≤ 600 := by
        rw [HS2.out]
        have h1 : (L.take (k + 1)).flatten.length ≤ L.flatten.length := by
          have h2 := congrArg List.length (congrArg List.flatten (List.take_append_drop (k + 1) L))
          rw [List.flatten_append, List.length_append] at h2
          omega
        rw [HFL.out, HA.out.2.2, List.length_append, HA.out.1, HA.out.2.1] at h1
        omega
      have hSs : S.data.toList.length = S.size := by simp
      rw [List.length_append, hxs, hSs] at hSl
      have HWn := hide (fun (N : Nat) => whole_dr ((HT5.out.kept HD.out.below).drewN N) (gT (bts L) k) (by omega))
      rw [decide_eq_true hxw] at HWn
      have hsum : ¬ 9223372036854775807 < S.size + (gT (bts L) k).size := by omega
      rcases Nat.eq_zero_or_pos k with hz | hz
      · have hkd : decide (0 < k) = false := by simp; omega
        clear hz
        clear hcc hx1 hx2 hxne hxw hxs hSs hxp hkl
        generalize gT (bts L) k = x at *
        go_wp2
        go_quiet ((go_at_call 8; exact Calls.quiet_of (HWn.out _)))
        have HD2 := hide (HD.out.more nq)
        have hc0 : (wr.drewN nq).cell? ⟨g, off + k, none⟩ = some (.string x) := c0
        clear HWn c0
        generalize wr.drewN nq = wd at *
        go_wp2
        go_roundw
        case rel => exact ⟨k + 1, S ++ x, rfl, by go_num, by omega, hide (by have := HS2.out; simpa using this), HD2⟩
        case measure => simp [intOf]; omega
      · obtain ⟨j, hjk⟩ : ∃ j, j + 1 = k := ⟨k - 1, by omega⟩
        have hj0 : (0 : Int) ≤ (j : Int) := by omega
        have hj1 : (j : Int) < (n3 : Int) := by omega
        have hkp : (0 : Int) < (k : Int) := by omega
        have c1 := hcc j (by omega)
        have hwr : IntKind.i64.wrap ((k : Int) - 1) = (j : Int) := by rw [IntKind.wrap_i64]; omega
        have hbt : btw q (gT (bts L) j).data.toList (gT (bts L) k).data.toList = true := by
          subst hjk
          rw [hx1, (piece_at (show j < L.length by omega)).1]
          exact piece_btw HPO.out hkl
        have hyl : (gT (bts L) j).size ≤ 600 := by
          have h1 := (piece_at (show j < L.length by omega))
          have h2 := flat_ge h1.2
          rw [HFL.out, HA.out.2.2, List.length_append, HA.out.1, HA.out.2.1, ← h1.1] at h2
          have h3 : (gT (bts L) j).data.toList.length = (gT (bts L) j).size := by simp
          omega
        have HBn := hide (fun (N : Nat) => between_dr ((HT5.out.kept HD.out.below).drewN N) (gT (bts L) j) (gT (bts L) k) (by omega))
        rw [hbt] at HBn
        clear hcc hx1 hx2 hxne hxw hxs hSs hxp hkl hbt
        generalize gT (bts L) k = x at *
        generalize gT (bts L) j = y at *
        have HJK := hide hjk
        clear hjk
        go_wp2
        go_quiet ((first | (go_at_call 8; exact Calls.quiet_of (HWn.out _)) | (go_at_call 9; exact Calls.quiet_of (HBn.out _))))
        have HD2 := hide (HD.out.more nq)
        have hc0 : (wr.drewN nq).cell? ⟨g, off + k, none⟩ = some (.string x) := c0
        clear HWn HBn c0 c1
        generalize wr.drewN nq = wd at *
        go_wp2
        go_roundw
        case rel => exact ⟨k + 1, S ++ x, rfl, by go_num, by omega, hide (by have := HS2.out; simpa using this), HD2⟩
        case measure => simp [intOf]; omega
    · obtain rfl : k = n3 := by omega
      have hSab : S = a ++ b := by
        apply ByteArray.ext
        apply Array.ext'
        rw [HS.out, HN3.out, List.take_length, HFL.out]
      subst hSab
      have HBF := hide (HB5.out.trans (HD.out.below.mono HB5.out.size))
      have HTF := hide (HT5.out.kept HD.out.below)
      clear HR HS HFL HPO HN3 HB5 HD HT5
      by_cases z1 : a.size = 0
      · have e1 : n1 = 0 := HZ1.out.2 z1
        have e2 : k = n2 := HO1.out z1
        subst e1 e2
        clear HZ1 HZ2 HO1 HO2 HBO HA HN1 HN2
        go_wp2
        go_ret
        exact ⟨by simp, HBF.out⟩
      by_cases z2 : b.size = 0
      · have e1 : n2 = 0 := HZ2.out.2 z2
        have e2 : k = n1 := HO2.out z2
        have hn0 : (0 : Int) < (n1 : Int) := by have hx : n1 ≠ 0 := fun e => z1 (HZ1.out.1 e); omega
        subst e1 e2
        clear HZ1 HZ2 HO1 HO2 HBO HA HN1 HN2
        go_wp2
        go_ret
        exact ⟨by simp, HBF.out⟩
      have h1 : (0 : Int) < (n1 : Int) := by have hx : n1 ≠ 0 := fun e => z1 (HZ1.out.1 e); omega
      have h2 : (0 : Int) < (n2 : Int) := by have hx : n2 ≠ 0 := fun e => z2 (HZ2.out.1 e); omega
      have hbo := HBO.out (by omega) (by omega)
      have HBN := hide (between_any HTF.out a b (by omega))
      generalize btw q a.data.toList b.data.toList = bb at *
      clear HZ1 HZ2 HO1 HO2 HBO HA HN1 HN2
      go_wp2_with fail
      refine (unhide HBN).mono ?_
      rintro e w6 ⟨rfl, hb7⟩
      have HBG := hide (HBF.out.trans (hb7.mono HBF.out.size))
      clear hb7 HBN HBF
      cases bb with
      | true =>
        have e3 : (k : Int) = (n1 : Int) + (n2 : Int) := by simp at hbo; omega
        clear hbo
        go_wp2
        go_ret
        exact ⟨by simp; try omega, HBG.out⟩
      | false =>
        have e3 : (k : Int) = (n1 : Int) + (n2 : Int) - 1 := by simp at hbo; omega
        clear hbo
        go_wp2
        go_ret
        exact ⟨by simp; try omega, HBG.out⟩

end Go.Proofs.Ytlfffalfnnmliab
