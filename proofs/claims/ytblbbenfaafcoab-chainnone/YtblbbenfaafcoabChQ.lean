/- Contracts of package chain: Spans. -/
import Derived.Test.YtblbbenfaafcoabChP
namespace Go.Proofs.Ytblbbenfaafcoab
open Go.RowKit Go.Maps
set_option linter.unusedVariables false
set_option linter.unusedSimpArgs false
attribute [local go_sem ↓] Go.wp_at_zero Go.wp_at_succ

/-- Numbers that are read. -/
def RdI (w : World) (ao : Option Addr) (n : Nat) (l : List Int) : Prop := l.length = n ∧ (n = 0 ∨ ∃ b off, ao = some ⟨b, off, none⟩ ∧ b < w.heap.size ∧ ∀ i, i < n → w.cell? ⟨b, off + i, none⟩ = some (.int .i64 (gI l i)))
theorem RdI.kept {w w' : World} {ao : Option Addr} {n : Nat} {l : List Int} (h : RdI w ao n l) (hb : Below w.heap.size w w') : RdI w' ao n l := by
  refine ⟨h.1, ?_⟩
  rcases h.2 with h0 | ⟨b, off, rfl, hlt, hc⟩
  · exact Or.inl h0
  · exact Or.inr ⟨b, off, rfl, Nat.lt_of_lt_of_le hlt hb.size, fun i hi => (hb.cell hlt).trans (hc i hi)⟩
theorem RdI.of_row {w : World} {base : Nat} {ao : Option Addr} {n cap : Nat} {l : List Int} (h : w.ownsRow base 3 1 (.slice ao n cap) n (iv l)) : RdI w ao n l := by
  have hl : l.length = n := by have := h.1; rw [iv_len] at this; omega
  subst hl
  refine ⟨rfl, ?_⟩
  by_cases h0 : l.length = 0
  · exact Or.inl h0
  · right
    obtain ⟨g, c, hv, hg, _⟩ := row_at h (i := 0) (by omega)
    simp only [Value.slice.injEq] at hv
    obtain ⟨rfl, _, rfl⟩ := hv
    refine ⟨g, 0, rfl, hg, fun i hi => ?_⟩
    obtain ⟨g2, c2, hv, _, hc⟩ := row_at h hi
    simp only [Value.slice.injEq, Option.some.injEq, Addr.mk.injEq, and_true, true_and] at hv
    obtain ⟨rfl, rfl⟩ := hv
    rw [Nat.zero_add]
    exact hc

theorem take_succ_gI (l : List Int) {k : Nat} (h : k < l.length) : l.take (k + 1) = l.take k ++ [gI l k] := by
  rw [List.take_succ_eq_append_getElem h, gI, List.getD_eq_getElem?_getD, List.getElem?_eq_getElem h]
  rfl
theorem gI_mem (l : List Int) {k : Nat} (h : k < l.length) : gI l k ∈ l := by
  rw [gI, List.getD_eq_getElem?_getD, List.getElem?_eq_getElem h]
  exact List.getElem_mem h
theorem pos_le {tx : List ByteArray} {mg : List (Int × Int)} (hk : Tok tx mg) : ∀ l, (∀ x ∈ l, inT tx x) → pos tx l ≤ 64 * l.length
  | [], _ => by simp [pos]
  | x :: r, h => by
    have h1 := pos_le hk r (fun y hy => h y (List.mem_cons_of_mem _ hy))
    have h2 := h x List.mem_cons_self
    have h3 := hk.sz x.toNat (by have := h2.1; have := h2.2; omega)
    simp only [pos, sz, List.length_cons]
    omega

section
variable {F : List Nat} {p : Nat} {v0 v1 : Value} {b2 b3 : Nat} {tx : List ByteArray} {mg : List (Int × Int)}

set_option maxRecDepth 20000 in
set_option maxHeartbeats 8000000 in
theorem spans_any (w : World) (hT : TAt F p v0 v1 b2 b3 tx mg (lgs tx) w) (hk : Tok tx mg) (ao : Option Addr) (n cap : Nat) (l : List Int) (hR : RdI w ao n l) (hn : n ≤ 100000) :
    Calls Try.prog 10 #[.pointer (some ⟨p, 0, none⟩), .slice ao n cap] w fun e w' => ((∀ x ∈ l, inT tx x) ∧ (∃ v, e = .returned v ∧ w'.ownsRow w.heap.size 3 1 v n (iv (ends tx 0 l))) ∨ (∃ x ∈ l, ¬ inT tx x) ∧ e = .returned (.slice none 0 0)) ∧ Below w.heap.size w w' := by
  have HMK := fun w => run_ints w (n : Int) n rfl (by omega)
  have HT := hide hT
  have HR := hide hR
  have hl := hR.1
  clear hT hR
  go_enter Try.func10, Try.ntmps10
  go_wp2
  have HB0 : Hid (Below w.heap.size w (w.alloc (.cells (madeCells #[.int .i64 0] n) 3))) := hide (low1 w _)
  have HR0 : Hid ((w.alloc (.cells (madeCells #[.int .i64 0] n) 3)).ownsRow w.heap.size 3 1 (.slice (some ⟨w.heap.size, 0, none⟩) 0 n) 0 (iv [])) := hide (made_ints w w.heap.size n (by omega) (Nat.le_refl _))
  generalize w.alloc (.cells (madeCells #[.int .i64 0] n) 3) = W0 at *
  clear HMK
  go_loopw [5, 6, 16] (fun a e i wr => ∃ (k m : Nat) (ao : Option Addr) (cap : Nat), a = .slice ao k cap ∧ e = .int .i64 m ∧ i = .int .i64 k ∧ k ≤ n ∧ m ≤ 6400000 ∧ Hid (m = pos tx (l.take k)) ∧ Hid (∀ x ∈ l.take k, inT tx x) ∧ Hid (wr.ownsRow w.heap.size 3 1 (.slice ao k cap) k (iv (ends tx 0 (l.take k)))) ∧ Hid (Below w.heap.size w wr)) (fun _ _ i _ => n - (intOf i).toNat)
  case atStart => exact ⟨0, 0, _, _, rfl, rfl, rfl, Nat.zero_le _, by omega, hide (by simp [pos]), hide (fun x hx => by simp at hx), hide (by have := HR0.out; simpa [ends] using this), HB0⟩
  case round =>
    obtain ⟨k, m, ao1, cap1, rfl, rfl, rfl, hkn, hm, HM, HIN, HRW, HB⟩ := hrel
    clear HR0 HB0
    by_cases hlt : k < n
    · have hk0 : (0 : Int) ≤ (k : Int) := by omega
      have hk1 : (k : Int) < (n : Int) := by omega
      rcases (HR.out.kept HB.out).2 with h0 | ⟨b, off, rfl, hbl, hc⟩
      · omega
      have c0 := hc k hlt
      clear hc
      have HTW := hide (HT.out.keptB HB.out)
      by_cases hx : inT tx (gI l k)
      · obtain ⟨i0, hi0⟩ := Int.eq_ofNat_of_zero_le hx.1
        have hil : i0 < tx.length := by have := hx.2; omega
        have HBY := hide (tbytes_any HTW.out i0 hil)
        have hss := hk.sz i0 hil
        have HSI := hide (show (gs tx i0).size = sz tx (gI l k) by unfold sz; rw [hi0]; rfl)
        have HMEM := hide hx
        have HGI := hide hi0
        rw [hi0] at c0
        clear hx hi0
        generalize gs tx i0 = si at *
        go_wp2_with fail
        refine (unhide HBY).mono ?_
        rintro e w' ⟨rfl, hw⟩
        have hw2 := hw.symm
        clear hw
        subst hw2
        obtain ⟨g1, cap2, w1, hrun, hown, hB1⟩ := app_int wr w.heap.size ao1 k cap1 _ ((m : Int) + (si.size : Int)) HRW.out (by omega) HB.out.size
        have HRUN := hide hrun
        have HB2 := hide (HB.out.trans hB1)
        have htk := take_succ_gI l (show k < l.length by omega)
        have hps : ((m : Int) + (si.size : Int)) = ((m + si.size : Nat) : Int) := by omega
        have HM2 : Hid (m + si.size = pos tx (l.take (k + 1))) := hide (by rw [htk, pos_append, ← HM.out, HSI.out]; simp [pos])
        have HR2 : Hid (w1.ownsRow w.heap.size 3 1 (.slice (some ⟨g1, 0, none⟩) (k + 1) cap2) (k + 1) (iv (ends tx 0 (l.take (k + 1))))) := hide (by rw [htk, ends_snoc, Nat.zero_add, ← HM.out, ← HSI.out, ← hps]; exact hown)
        have HIN2 : Hid (∀ x ∈ l.take (k + 1), inT tx x) := hide (by
          intro x hx
          rw [htk] at hx
          rcases List.mem_append.1 hx with hx | hx
          · exact HIN.out x hx
          · simp at hx; rw [hx]; exact HMEM.out)
        have HM3 := hide (show m + si.size ≤ 6400000 by have h1 := pos_le hk _ HIN2.out; have h2 := HM2.out; simp at h1; omega)
        clear hrun hown hB1 htk hps HBY c0
        go_wp2_with (at_builtin; refine Lib.wpList_append_run _ rfl _ _ _ _ rfl _ _ rfl rfl _ _ HRUN.out ?_)
        exact ⟨⟨k + 1, m + si.size, _, cap2, rfl, by simp, by go_num, by omega, HM3.out, HM2, HIN2, HR2, HB2⟩, by simp [intOf]; omega⟩
      · have HBY := hide (tbytes_none (gI l k) _ tx.length wr (hide (tlen_any HTW.out)) (by unfold inT at hx; omega))
        have HNO := hide (show ∃ x ∈ l, ¬ inT tx x from ⟨_, gI_mem l (by omega), hx⟩)
        clear hx
        generalize gI l k = x at *
        go_wp2_with fail
        refine (unhide HBY).mono ?_
        rintro e w' ⟨rfl, hw⟩
        have hw2 := hw.symm
        clear hw
        subst hw2
        go_wp2
        go_ret
        exact ⟨Or.inr ⟨HNO.out, rfl⟩, HB.out⟩
    · obtain rfl : k = n := by omega
      have htk : l.take k = l := by rw [← hl]; exact List.take_length
      have HIN2 : Hid (∀ x ∈ l, inT tx x) := hide (by have := HIN.out; rw [htk] at this; exact this)
      have HR2 : Hid (wr.ownsRow w.heap.size 3 1 (.slice ao1 k cap1) k (iv (ends tx 0 l))) := hide (by have := HRW.out; rw [htk] at this; exact this)
      clear htk HIN HRW HM
      go_wp2
      go_ret
      exact ⟨Or.inl ⟨HIN2.out, _, rfl, HR2.out⟩, HB.out⟩
end

end Go.Proofs.Ytblbbenfaafcoab
