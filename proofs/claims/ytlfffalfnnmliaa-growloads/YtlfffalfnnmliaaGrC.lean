/- Contracts of package grow: Plain; the law's example. -/
import Derived.Test.YtlfffalfnnmliaaGrB
import Derived.Test.YtlfffalfnnmliaaGrE
import Derived.Test.YtlfffalfnnmliaaTkY
import Derived.Test.YtlfffalfnnmliaaTkK
namespace Go.Proofs.Ytlfffalfnnmliaa
open Go.RowKit Go.Maps
set_option linter.unusedVariables false
set_option linter.unusedSimpArgs false
attribute [local go_sem ↓] Go.wp_at_zero Go.wp_at_succ

theorem ReadsM.row {w : World} {B : Nat} {ao : Option Addr} {n cap : Nat} {mg : List (Int × Int)} (h : w.ownsRow B 69 2 (.slice ao n cap) n (fl2 mg)) (hn : mg.length = n) : ReadsM w ao n mg := by
  refine ⟨hn, ?_⟩
  rcases Nat.eq_zero_or_pos n with h0 | h0
  · exact Or.inl h0
  obtain ⟨g, cap', e, hb, hg⟩ := h.form h0
  simp only [Value.slice.injEq] at e
  obtain ⟨rfl, -, rfl⟩ := e
  refine Or.inr ⟨g, 0, rfl, fun i hi => ?_⟩
  rw [Nat.zero_add, h.cellAt (i * 2) (by omega), h.cellAt (i * 2 + 1) (by omega)]
  exact fl2_get mg i (by omega)

/-- Its tokens can be imported, with the same parents. -/
def PlP (l : List ByteArray) (mg : List (Int × Int)) : Prop := (∀ j, j < l.length → imC l j = 0) ∧ (imS l l.length).2 = mg

section
variable {F : List Nat} {p : Nat} {v0 v1 : Value} {b2 b3 : Nat} {tx : List ByteArray} {mg : List (Int × Int)} {w : World}
theorem drop_len (hk : Tok tx mg) : (tx.drop 256).length = mg.length := by have := hk.len; simp; omega
theorem drop_sz (hk : Tok tx mg) : ∀ x ∈ tx.drop 256, x.size ≤ 64 := fun x hx => by
  obtain ⟨i, hi, e⟩ := gs_mem.1 (List.mem_of_mem_drop hx)
  rw [← e]
  exact hk.sz i hi
set_option maxRecDepth 20000 in
set_option maxHeartbeats 4000000 in
theorem plain_any (h : TAt F p v0 v1 b2 b3 tx mg (lgs tx) w) (hk : Tok tx mg) :
    Calls Try.prog 22 #[.pointer (some ⟨p, 0, none⟩)] w fun e w' => ((e = .returned (.bool true) ∧ PlP (tx.drop 256) mg) ∨ (e = .returned (.bool false) ∧ ¬ PlP (tx.drop 256) mg)) ∧ Below w.heap.size w w' := by
  have HX := hide (export_any h hk)
  have HT := hide h
  have HDL := hide (drop_len hk)
  have HDS := hide (drop_sz hk)
  have HK := hide hk
  have hml : mg.length ≤ 1000 := by have h1 := hk.len; have h2 := hk.cap; omega
  clear h hk
  generalize tx.drop 256 = l at *
  go_enter Try.func22, Try.ntmps22
  go_wp2_with fail
  refine (unhide HX).mono ?_
  rintro e w1 ⟨⟨ao, n, cap, rfl, hn, hrow⟩, hb1⟩
  have hnl : n ≤ 1000 := by rw [hn, HDL.out]; exact hml
  have HI := hide (import_any ao n cap l w1 (RdT.row hrow hn.symm) (by omega) (fun x hx => by have := HDS.out x hx; omega))
  have HB1 := hide hb1
  have HN := hide hn
  have HT1 := hide (HT.out.keptB hb1)
  clear hrow hb1 hn HX HT
  go_wp2_with fail
  refine (unhide HI).mono ?_
  rintro e w2 ⟨hP, hb2⟩
  have HB2 := hide (HB1.out.trans (hb2.mono HB1.out.size))
  have HT2 := hide (HT1.out.keptB hb2)
  clear hb2 HI HT1 HB1
  rcases hP with ⟨k, hkn, _, hne, rfl⟩ | ⟨hok, p', F', u0, u1, d2, d3, rfl, hT', _⟩
  · have HNP : Hid (¬ PlP l mg) := hide (fun h => hne (h.1 k (by rw [← HN.out]; exact hkn)))
    generalize imC l k = cc at *
    have hcb : (cc == 0) = false := by simpa using hne
    clear hne
    go_wp2
    go_ret
    exact ⟨Or.inr ⟨rfl, HNP.out⟩, HB2.out⟩
  · have hn2 : n = l.length := HN.out
    subst hn2
    have HOK := hide hok
    have hR' := imS_rch l l.length
    have hml' : (imS l l.length).2.length ≤ 1000 := by have h1 := hR'.tok.len; have h2 := hR'.tok.cap; omega
    have HPD : Hid (PlP l mg ↔ (imS l l.length).2 = mg) := hide ⟨fun h => h.2, fun h => ⟨HOK.out, h⟩⟩
    have HM1 := hide (tmerges_any hT' hml')
    clear hok hT' hR'
    generalize (imS l l.length).2 = mg' at *
    generalize l.length = n at *
    go_wp2_with fail
    refine (unhide HM1).mono ?_
    rintro e w3 ⟨⟨rv, rfl, hr3⟩, hb3⟩
    obtain ⟨a3, c3, hv3⟩ := row_form hr3
    subst hv3
    have HM2 := hide (tmerges_any (HT2.out.keptB hb3) hml)
    have HB3 := hide (HB2.out.trans (hb3.mono HB2.out.size))
    have HR3 := hide hr3
    clear hr3 hb3 HM1 HB2
    go_wp2_with fail
    refine (unhide HM2).mono ?_
    rintro e w4 ⟨⟨rv, rfl, hr4⟩, hb4⟩
    obtain ⟨a4, c4, hv4⟩ := row_form hr4
    subst hv4
    have HEQ := hide (sequal_any w4 a3 a4 mg'.length mg.length c3 c4 mg' mg (ReadsM.row (row_keptB HR3.out hb4) rfl) (ReadsM.row hr4 rfl) (by omega))
    have HB4 := hide (HB3.out.trans (hb4.mono HB3.out.size))
    clear hr4 hb4 HM2 HB3 HR3
    go_wp2_with fail
    refine (unhide HEQ).mono ?_
    rintro e w5 ⟨rfl, hb5⟩
    have HB5 := hide (HB4.out.trans (hb5.mono HB4.out.size))
    clear hb5 HEQ HB4
    by_cases he : mg' = mg
    · have HF := hide (HPD.out.2 he)
      rw [decide_eq_true he]
      clear he
      go_wp2
      go_ret
      exact ⟨Or.inl ⟨rfl, HF.out⟩, HB5.out⟩
    · have HF : Hid (¬ PlP l mg) := hide (fun h => he (HPD.out.1 h))
      rw [decide_eq_false he]
      clear he
      go_wp2
      go_ret
      exact ⟨Or.inr ⟨rfl, HF.out⟩, HB5.out⟩
end
theorem plain_nil (w : World) : Calls Try.prog 22 #[.pointer none] w fun e w' => e = .returned (.bool false) ∧ w' = w := by
  go_enter Try.func22, Try.ntmps22
  go_wp2
  go_ret
  exact ⟨rfl, rfl⟩

end Go.Proofs.Ytlfffalfnnmliaa
