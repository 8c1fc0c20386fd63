/- BoundPieces: the walk. -/
import Derived.Test.YtlfffalfnnmliaaBdJ
import Derived.Test.YtlfffalfnnmliaaBdK
namespace Go.Proofs.Ytlfffalfnnmliaa
open Go.RowKit
set_option linter.unusedVariables false
set_option linter.unusedSimpArgs false

theorem btw_at (q : Int → Int → Bool) (a b : ByteArray) (k : Nat) (hkm : k + 1 = a.size) (hb0 : 0 < b.size) : btw q a.data.toList b.data.toList = q ((a[k]'(by omega)).toNat : Int) (b[0].toNat : Int) := by
  have hks : k < a.size := by omega
  have e1 : a.data.toList.getLastD 0 = a[k] := by
    rw [← at_getD a k hks, List.getLastD_eq_getLast?, List.getLast?_eq_getElem?, List.getD_eq_getElem?_getD]
    congr 2
    simp
    omega
  have e2 : b.data.toList.headD 0 = b[0] := by
    rw [← at_getD b 0 hb0, List.getD_eq_getElem?_getD, List.headD_eq_head?_getD, List.head?_eq_getElem?]
  have la : a.data.toList.length = a.size := by simp
  have lb : b.data.toList.length = b.size := by simp
  have e3 : a.data.toList ≠ [] := List.length_pos_iff.1 (by omega)
  have e4 : b.data.toList ≠ [] := List.length_pos_iff.1 (by omega)
  unfold btw
  rw [e1, e2, decide_eq_true e3, decide_eq_true e4]
  rfl
theorem btw_nil {q : Int → Int → Bool} {a b : ByteArray} (h : a.size = 0 ∨ b.size = 0) : btw q a.data.toList b.data.toList = false := by
  have la : a.data.toList.length = a.size := by simp
  have lb : b.data.toList.length = b.size := by simp
  rcases h with h | h
  · have e3 : a.data.toList = [] := List.length_eq_zero_iff.1 (by omega)
    simp [btw, e3]
  · have e3 : b.data.toList = [] := List.length_eq_zero_iff.1 (by omega)
    simp [btw, e3]
/-- Both tables, and the document's pieces. -/
structure BpI (w : World) (p : Nat) (q : Nat) (ao : Option Addr) (n c1 : Nat) (C : List (Int × Int × Int)) (bo : Option Addr) (m c2 : Nat) (J : List (Int × Int)) (v : Value) (N : Nat) (l : List (List UInt8)) (W : World) : Prop where
  b : RbI w q ao n c1 C bo m c2 J W
  t : BAt p (fun b => cls C b) (fun a b => decide (((a : Int), (b : Int)) ∈ J)) W
  row : W.ownsRow 0 9 1 v N (tv l)
  len : N = l.length
theorem BpI.next {w : World} {p q : Nat} {ao : Option Addr} {n c1 : Nat} {C : List (Int × Int × Int)} {bo : Option Addr} {m c2 : Nat} {J : List (Int × Int)} {v : Value} {N : Nat} {l : List (List UInt8)} {W W' : World} (h : BpI w p q ao n c1 C bo m c2 J v N l W) (hb : Below W.heap.size W W') : BpI w p q ao n c1 C bo m c2 J v N l W' := ⟨h.b.next hb, h.t.kept hb, rowB h.row hb, h.len⟩
theorem BpI.drew {w : World} {p q : Nat} {ao : Option Addr} {n c1 : Nat} {C : List (Int × Int × Int)} {bo : Option Addr} {m c2 : Nat} {J : List (Int × Int)} {v : Value} {N : Nat} {l : List (List UInt8)} {W : World} (h : BpI w p q ao n c1 C bo m c2 J v N l W) : BpI w p q ao n c1 C bo m c2 J v N l W.drew := h.next ⟨rfl, rfl, rfl, Nat.le_refl _, fun _ _ => rfl⟩

set_option maxRecDepth 20000 in
set_option maxHeartbeats 8000000 in
theorem bpieces_walk (ao : Option Addr) (n c1 : Nat) (C : List (Int × Int × Int)) (bo : Option Addr) (m c2 : Nat) (J : List (Int × Int)) (s u : ByteArray) (w : World) (hC : RdC w ao n C) (hn : n ≤ 9223372036854775807) (hJ : RdJ w bo m J) (hm : m ≤ 9223372036854775807) (hs : s.size ≤ 9223372036854775807) (hu : u.size ≤ 9223372036854775807) :
    Calls Try.prog 8 #[.slice ao n c1, .slice bo m c2, .string s, .string u] w fun e w' => e = .returned (.bool true) ∧ Below w.heap.size w w' := by
  go_enter Try.func8, Try.ntmps8
  by_cases hb1 : 100 < n
  · have hd : (100 : Int) < (n : Int) := by omega
    go_wp2_with fail
    refine (awake8_any _).mono ?_
    rintro e w1 ⟨rfl, hb1⟩
    go_wp2
    go_ret
    exact ⟨rfl, hb1⟩
  have hdhb1 : ¬ (100 : Int) < (n : Int) := by omega
  by_cases hb2 : 100 < m
  · have hd : (100 : Int) < (m : Int) := by omega
    go_wp2_with fail
    refine (awake8_any _).mono ?_
    rintro e w1 ⟨rfl, hb1⟩
    go_wp2
    go_ret
    exact ⟨rfl, hb1⟩
  have hdhb2 : ¬ (100 : Int) < (m : Int) := by omega
  by_cases hb3 : 300 < s.size
  · have hd : (300 : Int) < (s.size : Int) := by omega
    go_wp2_with fail
    refine (awake8_any _).mono ?_
    rintro e w1 ⟨rfl, hb1⟩
    go_wp2
    go_ret
    exact ⟨rfl, hb1⟩
  have hdhb3 : ¬ (300 : Int) < (s.size : Int) := by omega
  by_cases hb4 : 300 < u.size
  · have hd : (300 : Int) < (u.size : Int) := by omega
    go_wp2_with fail
    refine (awake8_any _).mono ?_
    rintro e w1 ⟨rfl, hb1⟩
    go_wp2
    go_ret
    exact ⟨rfl, hb1⟩
  have hdhb4 : ¬ (300 : Int) < (u.size : Int) := by omega
  go_wp2_with fail
  refine (awake8_any _).mono ?_
  rintro e w0 ⟨rfl, hb0⟩
  have HB0 := hide hb0
  have HN := hide (bnew_any ao n c1 C bo m c2 J w0 (hC.kept hb0) (hJ.kept hb0) (by omega) (by omega))
  have HC := hide (hC.kept hb0)
  have HJ := hide (hJ.kept hb0)
  clear hC hJ hb0
  go_wp2_with fail
  refine (unhide HN).mono ?_
  rintro e w1 ⟨hP, hb1'⟩
  have HB1 := hide (HB0.out.trans (hb1'.mono HB0.out.size))
  have HI := hide (RbI.new (HC.out.kept hb1') (HJ.out.kept hb1') c1 c2)
  clear hb1' HN HB0
  rcases hP with ⟨hno, rfl⟩ | ⟨hok, p, rfl, hB⟩
  · have HR := hide (rright8_any (c1 := c1) (c2 := c2) HI.out.c HI.out.j (by omega) (by omega))
    have HNO := hide hno
    clear hno
    go_wp2_with fail
    generalize w1.alloc (.cells #[.slice ao n c1, .slice bo m c2] 59) = w2 at *
    refine (unhide HR).mono ?_
    rintro e w3 ⟨hRG, hb3⟩
    have HB3 := hide (HI.out.next hb3).B
    rcases hRG with ⟨rfl, hok⟩ | ⟨rfl, -⟩
    · exact absurd hok HNO.out
    clear HR hb3 HI
    go_wp2
    go_ret
    exact ⟨rfl, HB1.out.trans (HB3.out.mono HB1.out.size)⟩
  · have HT0 := hide (hB.kept (low8 w1 (.cells #[.slice ao n c1, .slice bo m c2] 59)))
    have HOK := hide hok
    have HR := hide (rpieces_any (c1 := c1) (c2 := c2) HI.out.c HI.out.j (by omega) (by omega) s (by omega))
    clear hB hok
    go_wp2_with fail
    generalize w1.alloc (.cells #[.slice ao n c1, .slice bo m c2] 59) = w2 at *
    refine (unhide HR).mono ?_
    rintro e w3 ⟨⟨o, N, cp, rfl, hN, hrow⟩, hb3⟩
    have hNl : N ≤ 300 := by
      have h1 : (pcs (cutP C J) s.data.toList).length ≤ s.data.toList.length := by rw [pcs_len]; exact cnt_le _ _
      have h2 : s.data.toList.length = s.size := by simp
      omega
    have HP : Hid (BpI w1 p w1.heap.size ao n c1 C bo m c2 J (.slice o N cp) N (pcs (cutP C J) s.data.toList) w3) := hide ⟨HI.out.next hb3, HT0.out.kept hb3, World.ownsRow.mono hrow (Nat.zero_le _), hN⟩
    clear HR hb3 HI HT0 hN hrow
    have HK := hide (fun (P : (Wd (BpI w1 p w1.heap.size ao n c1 C bo m c2 J (.slice o N cp) N (pcs (cutP C J) s.data.toList)))) (y z : UInt8) => Calls.toW (fun _ _ h hb => h.next hb) P (rcuts_any (c1 := c1) (c2 := c2) P.h.b.c P.h.b.j (by omega) (by omega) (y.toNat : Int) (z.toNat : Int) (by have := y.toNat_lt; omega) (by have := z.toNat_lt; omega)))
    have e0 : ∀ P : (Wd (BpI w1 p w1.heap.size ao n c1 C bo m c2 J (.slice o N cp) N (pcs (cutP C J) s.data.toList))), P.W.cell? ⟨w1.heap.size, 0, none⟩ = some (.slice ao n c1) := fun P => P.h.b.b0
    have e1 : ∀ P : (Wd (BpI w1 p w1.heap.size ao n c1 C bo m c2 J (.slice o N cp) N (pcs (cutP C J) s.data.toList))), P.W.cell? ⟨w1.heap.size, 1, none⟩ = some (.slice bo m c2) := fun P => P.h.b.b1
    have ne : Nonempty (Wd (BpI w1 p w1.heap.size ao n c1 C bo m c2 J (.slice o N cp) N (pcs (cutP C J) s.data.toList))) := ⟨⟨_, HP.out⟩⟩
    by_cases z1 : s.size = 0
    · have HBV : Hid (btw (cutP C J) s.data.toList u.data.toList = false) := hide (btw_nil (Or.inl z1))
      have z1d : decide (0 < s.size) = false := decide_eq_false (by omega)
      go_wp2
      refine region_class (α := (Wd (BpI w1 p w1.heap.size ao n c1 C bo m c2 J (.slice o N cp) N (pcs (cutP C J) s.data.toList)))) Wd.W (by kernel_rfl) (by kernel_rfl) ⟨_, HP.out.drew⟩ rfl ?_
      repeat (go_big_quiet_step (fail))
      refine wpQuiet_nil ?_
      intro wq hw'
      obtain ⟨⟨W, hW⟩, rfl⟩ := hw'
      have HQ := hide hW
      clear hW e0 e1 ne HP HK
      clear z1 z1d
      have HPX := hide (pieces_any (HQ.out.t.tb HOK.out.1) s (by omega))
      go_wp2_with fail
      refine (unhide HPX).mono ?_
      rintro e w5 ⟨⟨o2, N2, k2, rfl, hN2, hr2⟩, hb5⟩
      replace HQ := hide (HQ.out.next hb5)
      have h12 : N2 = N := by rw [hN2, ← HQ.out.len]
      subst h12
      have HRA := hide (RdT.row hr2 hN2.symm)
      have HRB := hide (RdT.row HQ.out.row HQ.out.len.symm)
      have HTX := hide (texts_same w5 o2 o N2 k2 cp _ HRA.out HRB.out (by omega))
      clear hr2 hN2 hb5 HPX
      go_wp2_with fail
      refine (unhide HTX).mono ?_
      rintro e w6 ⟨rfl, hb6⟩
      replace HQ := hide (HQ.out.next hb6)
      have HWH := hide (whole_any (HQ.out.t.tb HOK.out.1) s (by omega))
      rw [← HQ.out.len] at HWH
      clear HTX HRA HRB hb6
      go_wp2_with fail
      refine (unhide HWH).mono ?_
      rintro e w7 ⟨rfl, hb7⟩
      replace HQ := hide (HQ.out.next hb7)
      have HBT := hide (between_any (HQ.out.t.tb HOK.out.1) s u (by omega))
      rw [HBV.out] at HBT
      clear HWH hb7
      by_cases h2 : N2 < 2
      · have h2d : decide (N2 < 2) = true := by simpa using h2
        have h2i : decide ((N2 : Int) < 2) = true := by simp; omega
        rw [h2d]
        clear h2 h2d
        go_wp2_with fail
        refine (unhide HBT).mono ?_
        rintro e w8 ⟨rfl, hb8⟩
        have HZ := hide (HQ.out.next hb8).b.B
        go_wp2
        go_ret
        exact ⟨by first | rfl | simp, HB1.out.trans (HZ.out.mono HB1.out.size)⟩
      · have h2d : decide (N2 < 2) = false := by simpa using h2
        have h2i : decide ((N2 : Int) < 2) = false := by simp; omega
        rw [h2d]
        clear h2 h2d
        go_wp2_with fail
        refine (unhide HBT).mono ?_
        rintro e w8 ⟨rfl, hb8⟩
        have HZ := hide (HQ.out.next hb8).b.B
        go_wp2
        go_ret
        exact ⟨by first | rfl | simp, HB1.out.trans (HZ.out.mono HB1.out.size)⟩
    by_cases z2 : u.size = 0
    · have HBV : Hid (btw (cutP C J) s.data.toList u.data.toList = false) := hide (btw_nil (Or.inr z2))
      have z1d : decide (0 < s.size) = true := decide_eq_true (by omega)
      have z2d : decide (0 < u.size) = false := decide_eq_false (by omega)
      go_wp2
      refine region_class (α := (Wd (BpI w1 p w1.heap.size ao n c1 C bo m c2 J (.slice o N cp) N (pcs (cutP C J) s.data.toList)))) Wd.W (by kernel_rfl) (by kernel_rfl) ⟨_, HP.out.drew⟩ rfl ?_
      repeat (go_big_quiet_step (fail))
      refine wpQuiet_nil ?_
      intro wq hw'
      obtain ⟨⟨W, hW⟩, rfl⟩ := hw'
      have HQ := hide hW
      clear hW e0 e1 ne HP HK
      clear z1 z1d z2 z2d
      have HPX := hide (pieces_any (HQ.out.t.tb HOK.out.1) s (by omega))
      go_wp2_with fail
      refine (unhide HPX).mono ?_
      rintro e w5 ⟨⟨o2, N2, k2, rfl, hN2, hr2⟩, hb5⟩
      replace HQ := hide (HQ.out.next hb5)
      have h12 : N2 = N := by rw [hN2, ← HQ.out.len]
      subst h12
      have HRA := hide (RdT.row hr2 hN2.symm)
      have HRB := hide (RdT.row HQ.out.row HQ.out.len.symm)
      have HTX := hide (texts_same w5 o2 o N2 k2 cp _ HRA.out HRB.out (by omega))
      clear hr2 hN2 hb5 HPX
      go_wp2_with fail
      refine (unhide HTX).mono ?_
      rintro e w6 ⟨rfl, hb6⟩
      replace HQ := hide (HQ.out.next hb6)
      have HWH := hide (whole_any (HQ.out.t.tb HOK.out.1) s (by omega))
      rw [← HQ.out.len] at HWH
      clear HTX HRA HRB hb6
      go_wp2_with fail
      refine (unhide HWH).mono ?_
      rintro e w7 ⟨rfl, hb7⟩
      replace HQ := hide (HQ.out.next hb7)
      have HBT := hide (between_any (HQ.out.t.tb HOK.out.1) s u (by omega))
      rw [HBV.out] at HBT
      clear HWH hb7
      by_cases h2 : N2 < 2
      · have h2d : decide (N2 < 2) = true := by simpa using h2
        have h2i : decide ((N2 : Int) < 2) = true := by simp; omega
        rw [h2d]
        clear h2 h2d
        go_wp2_with fail
        refine (unhide HBT).mono ?_
        rintro e w8 ⟨rfl, hb8⟩
        have HZ := hide (HQ.out.next hb8).b.B
        go_wp2
        go_ret
        exact ⟨by first | rfl | simp, HB1.out.trans (HZ.out.mono HB1.out.size)⟩
      · have h2d : decide (N2 < 2) = false := by simpa using h2
        have h2i : decide ((N2 : Int) < 2) = false := by simp; omega
        rw [h2d]
        clear h2 h2d
        go_wp2_with fail
        refine (unhide HBT).mono ?_
        rintro e w8 ⟨rfl, hb8⟩
        have HZ := hide (HQ.out.next hb8).b.B
        go_wp2
        go_ret
        exact ⟨by first | rfl | simp, HB1.out.trans (HZ.out.mono HB1.out.size)⟩
    obtain ⟨k, hkm⟩ : ∃ k, k + 1 = s.size := ⟨s.size - 1, by omega⟩
    have hks : k < s.size := by omega
    have hu0 : 0 < u.size := by omega
    have HBV := hide (btw_at (cutP C J) s u k hkm hu0)
    have z1d : decide (0 < s.size) = true := decide_eq_true (by omega)
    have z2d : decide (0 < u.size) = true := decide_eq_true (by omega)
    have hk2 : (k : Int) < (s.size : Int) := by omega
    have hk0 : (0 : Int) ≤ (k : Int) := by omega
    have hu2 : (0 : Int) < (u.size : Int) := by omega
    have hwr : IntKind.i64.wrap ((s.size : Int) - 1) = (k : Int) := by rw [IntKind.wrap_i64]; omega
    go_wp2
    refine region_class (α := (Wd (BpI w1 p w1.heap.size ao n c1 C bo m c2 J (.slice o N cp) N (pcs (cutP C J) s.data.toList)))) Wd.W (by kernel_rfl) (by kernel_rfl) ⟨_, HP.out.drew⟩ rfl ?_
    repeat (go_big_quiet_step ((go_at_call 31; exact HK.out _ _ _)))
    refine wpQuiet_nil ?_
    intro wq hw'
    obtain ⟨⟨W, hW⟩, rfl⟩ := hw'
    have HQ := hide hW
    clear hW e0 e1 ne HP HK
    generalize cutP C J (s[k].toNat : Int) (u[0].toNat : Int) = bv at *
    clear z1 z1d z2 z2d
    have HPX := hide (pieces_any (HQ.out.t.tb HOK.out.1) s (by omega))
    go_wp2_with fail
    refine (unhide HPX).mono ?_
    rintro e w5 ⟨⟨o2, N2, k2, rfl, hN2, hr2⟩, hb5⟩
    replace HQ := hide (HQ.out.next hb5)
    have h12 : N2 = N := by rw [hN2, ← HQ.out.len]
    subst h12
    have HRA := hide (RdT.row hr2 hN2.symm)
    have HRB := hide (RdT.row HQ.out.row HQ.out.len.symm)
    have HTX := hide (texts_same w5 o2 o N2 k2 cp _ HRA.out HRB.out (by omega))
    clear hr2 hN2 hb5 HPX
    go_wp2_with fail
    refine (unhide HTX).mono ?_
    rintro e w6 ⟨rfl, hb6⟩
    replace HQ := hide (HQ.out.next hb6)
    have HWH := hide (whole_any (HQ.out.t.tb HOK.out.1) s (by omega))
    rw [← HQ.out.len] at HWH
    clear HTX HRA HRB hb6
    go_wp2_with fail
    refine (unhide HWH).mono ?_
    rintro e w7 ⟨rfl, hb7⟩
    replace HQ := hide (HQ.out.next hb7)
    have HBT := hide (between_any (HQ.out.t.tb HOK.out.1) s u (by omega))
    rw [HBV.out] at HBT
    clear HWH hb7
    by_cases h2 : N2 < 2
    · have h2d : decide (N2 < 2) = true := by simpa using h2
      have h2i : decide ((N2 : Int) < 2) = true := by simp; omega
      rw [h2d]
      clear h2 h2d
      go_wp2_with fail
      refine (unhide HBT).mono ?_
      rintro e w8 ⟨rfl, hb8⟩
      have HZ := hide (HQ.out.next hb8).b.B
      go_wp2
      go_ret
      exact ⟨by first | rfl | simp, HB1.out.trans (HZ.out.mono HB1.out.size)⟩
    · have h2d : decide (N2 < 2) = false := by simpa using h2
      have h2i : decide ((N2 : Int) < 2) = false := by simp; omega
      rw [h2d]
      clear h2 h2d
      go_wp2_with fail
      refine (unhide HBT).mono ?_
      rintro e w8 ⟨rfl, hb8⟩
      have HZ := hide (HQ.out.next hb8).b.B
      go_wp2
      go_ret
      exact ⟨by first | rfl | simp, HB1.out.trans (HZ.out.mono HB1.out.size)⟩

end Go.Proofs.Ytlfffalfnnmliaa
