/- GrowImports: the walk. -/
import Derived.Test.YtlfffalfnnmliaaGrN
import Derived.Test.YtlfffalfnnmliaaGrD
namespace Go.Proofs.Ytlfffalfnnmliaa
open Go.RowKit Go.Maps
set_option linter.unusedVariables false
set_option linter.unusedSimpArgs false
attribute [local go_sem ↓] Go.wp_at_zero Go.wp_at_succ

/-- A table, the document's in a box, and texts. -/
structure GiS (w : World) (q : Nat) (vb vm : Value) (tx : List ByteArray) (mg : List (Int × Int)) (p : Nat) (F : List Nat) (v0 v1 : Value) (b2 b3 : Nat) (ao : Option Addr) (n : Nat) (l : List ByteArray) (W : World) : Prop where
  T : TAt F p v0 v1 b2 b3 tx mg (lgs tx) W
  R : RT vb vm tx mg W
  X : Box2 q vb vm W
  L : RdT W ao n l
  B : Below w.heap.size w W
theorem GiS.next {w : World} {q : Nat} {vb vm : Value} {tx : List ByteArray} {mg : List (Int × Int)} {p : Nat} {F : List Nat} {v0 v1 : Value} {b2 b3 : Nat} {ao : Option Addr} {n : Nat} {l : List ByteArray} {W W' : World} (h : GiS w q vb vm tx mg p F v0 v1 b2 b3 ao n l W) (hb : Below W.heap.size W W') : GiS w q vb vm tx mg p F v0 v1 b2 b3 ao n l W' :=
  ⟨h.T.keptB hb, h.R.kept hb, h.X.kept hb, h.L.kept hb, h.B.trans (hb.mono h.B.size)⟩
theorem im_same {l : List ByteArray} {k1 k2 : Nat} (h1 : ∀ j, j < k1 → imC l j = 0) (h2 : ∀ j, j < k2 → imC l j = 0) (g1 : imC l k1 ≠ 0) (g2 : imC l k2 ≠ 0) : k1 = k2 := by
  rcases Nat.lt_trichotomy k1 k2 with h | h | h
  · exact absurd (h2 k1 h) g1
  · exact h
  · exact absurd (h1 k2 h) g2

theorem lmerges_same (w : World) (a1 a2 : Option Addr) (n c1 c2 : Nat) (A : List (Int × Int)) (ha : ReadsM w a1 n A) (hb : ReadsM w a2 n A) (hn : n ≤ 1000000) :
    Calls Try.prog 13 #[.slice a1 n c1, .slice a2 n c2] w fun e w' => e = .returned (.bool true) ∧ Below w.heap.size w w' :=
  (lmerges_any w a1 a2 n n c1 c2 A A ha hb hn).mono fun e w' ⟨he, hb⟩ => ⟨by rw [he, decide_eq_true (rfl : A = A)], hb⟩

set_option maxRecDepth 20000 in
set_option maxHeartbeats 8000000 in
theorem gimports_walk (ao : Option Addr) (n cap : Nat) (l : List ByteArray) (w : World) (hR : RdT w ao n l) (hn : n ≤ 9223372036854775807) :
    Calls Try.prog 3 #[.slice ao n cap] w fun e w' => e = .returned (.bool true) ∧ Below w.heap.size w w' := by
  have HF := hide (few_any w ao n cap l hR hn)
  have HR := hide hR
  clear hR
  go_enter Try.func3, Try.ntmps3
  go_wp2_with fail
  refine (unhide HF).mono ?_
  rintro e w0 ⟨hE, hw⟩
  obtain rfl := hw.symm
  clear hw HF
  rcases hE with ⟨rfl, hfew⟩ | ⟨rfl, -⟩
  rotate_left
  · go_wp2_with fail
    refine (awake7_any _).mono ?_
    rintro e w1 ⟨rfl, hb1⟩
    go_wp2
    go_ret
    exact ⟨rfl, hb1⟩
  have hn40 : n ≤ 40 := by rw [← HR.out.1]; exact hfew.1
  have HSZ : Hid (∀ x ∈ l, x.size ≤ 100000) := hide (fun x hx => by have := hfew.2 x hx; omega)
  clear hfew
  have HI := hide (import_any ao n cap l w HR.out (by omega) HSZ.out)
  go_wp2_with fail
  refine (unhide HI).mono ?_
  rintro e w1 ⟨hP, hb1⟩
  have HB1 := hide hb1
  have HJ := hide (rimport_any ao n cap l w1 (HR.out.kept hb1) (by omega) HSZ.out)
  clear HI hb1
  rcases hP with ⟨k, hkn, hok, hne, rfl⟩ | ⟨hok, p, F, v0, v1, b2, b3, rfl, hT, _⟩
  · have HOK := hide hok
    have HNE := hide hne
    clear hok hne
    go_wp2_with fail
    refine (unhide HJ).mono ?_
    rintro e w2 ⟨k2, c2, vb, vm, rfl, hok2, hcase, hRT, hb2⟩
    have hk2 : k2 = k ∧ c2 = imC l k := by
      rcases hcase with ⟨hlt, hc, hc0⟩ | ⟨hk2, _⟩
      · have := im_same HOK.out hok2 HNE.out (by rw [← hc]; exact hc0)
        subst this
        exact ⟨rfl, hc⟩
      · exact absurd (hok2 k (by omega)) HNE.out
    obtain ⟨rfl, rfl⟩ := hk2
    obtain ⟨a1, c1, hv1⟩ := row_form hRT.rb
    obtain ⟨a2, c2, hv2⟩ := row_form hRT.rm
    subst hv1 hv2
    generalize (imS l k2).1.length = N1 at *
    generalize (imS l k2).2.length = N2 at *
    have HB2 := hide (HB1.out.trans ((hb2.trans ((low1 w2 (.cells #[.slice a1 N1 c1, .slice a2 N2 c2] 31)).mono hb2.size)).mono HB1.out.size))
    clear hok2 hcase hRT hb2 HJ
    have hne := HNE.out
    generalize imC l k2 = cc at *
    have hcb : (cc != 0) = true := by simpa using hne
    clear hne HNE
    go_wp2_with fail
    generalize w2.alloc (.cells #[.slice a1 N1 c1, .slice a2 N2 c2] 31) = w3 at *
    refine (awake7_any _).mono ?_
    rintro e w4 ⟨rfl, hb4⟩
    go_wp2
    go_ret
    exact ⟨rfl, HB2.out.trans (hb4.mono HB2.out.size)⟩
  · have HOK := hide hok
    have HT := hide hT
    clear hok hT
    go_wp2_with fail
    refine (unhide HJ).mono ?_
    rintro e w2 ⟨k2, c2, vb, vm, rfl, hok2, hcase, hRT, hb2⟩
    have hk2 : k2 = n ∧ c2 = 0 := by
      rcases hcase with ⟨hlt, hc, hc0⟩ | h
      · exact absurd (HOK.out k2 hlt) (by rw [← hc]; exact hc0)
      · exact h
    obtain ⟨rfl, rfl⟩ := hk2
    have hll : l.length = k2 := HR.out.1
    have htx : (imS l k2).1.drop 256 = l := by
      rw [(imS_text l k2 (by omega) HOK.out).1, List.drop_left' (tb_len 256), ← hll, List.take_length]
    have hrch := imS_rch l k2
    have HKT := hide hrch.tok
    have hml : (imS l k2).2.length ≤ 1000 := by have h1 := hrch.tok.len; have h2 := hrch.tok.cap; omega
    obtain ⟨a1, c1, hv1⟩ := row_form hRT.rb
    obtain ⟨a2, c2, hv2⟩ := row_form hRT.rm
    subst hv1 hv2
    have HDR := hide htx
    have hla := low1 w2 (.cells #[.slice a1 (imS l k2).1.length c1, .slice a2 (imS l k2).2.length c2] 31)
    have hB2 := HB1.out.trans (hb2.mono HB1.out.size)
    have HS : Hid (GiS w w2.heap.size (.slice a1 (imS l k2).1.length c1) (.slice a2 (imS l k2).2.length c2) (imS l k2).1 (imS l k2).2 p F v0 v1 b2 b3 ao k2 l (w2.alloc (.cells #[.slice a1 (imS l k2).1.length c1, .slice a2 (imS l k2).2.length c2] 31))) := hide ⟨(HT.out.keptB hb2).keptB hla, hRT.kept hla, heap_alloc_new w2 _, (HR.out.kept hB2).kept hla, hB2.trans (hla.mono hB2.size)⟩
    clear hok2 hcase hRT hb2 HJ hla hB2 hrch htx HT HB1 hll
    generalize (imS l k2).1 = tx at *
    generalize (imS l k2).2 = mg at *
    go_wp2
    generalize w2.alloc (.cells #[.slice a1 tx.length c1, .slice a2 mg.length c2] 31) = w3 at *
    generalize w2.heap.size = q at *
    obtain ⟨y0, y1, yf⟩ := HS.out.X.cells
    have CM := hide (fun (W : World) (h : GiS w q (.slice a1 tx.length c1) (.slice a2 mg.length c2) tx mg p F v0 v1 b2 b3 ao k2 l W) => tmerges_any (h.next (below_drew' W)).T hml)
    have CX : Hid (∀ (W : World), GiS w q (.slice a1 tx.length c1) (.slice a2 mg.length c2) tx mg p F v0 v1 b2 b3 ao k2 l W → Calls Try.prog 16 #[.pointer (some ⟨p, 0, none⟩)] W fun e w' => (∃ ae ce, e = .returned (.slice ae k2 ce) ∧ RdT w' ae k2 l) ∧ Below W.heap.size W w') := hide (fun W h => (export_any h.T HKT.out).mono (by
      rintro e w' ⟨⟨ae, ne, ce, rfl, hne, hre⟩, hb⟩
      rw [HDR.out] at hne hre
      have h2 : ne = k2 := hne.trans h.L.1
      subst h2
      exact ⟨⟨ae, ce, rfl, RdT.row hre hne.symm⟩, hb⟩))
    have CT : Hid (∀ (W : World) (ae : Option Addr) (ce : Nat), RdT W ae k2 l → GiS w q (.slice a1 tx.length c1) (.slice a2 mg.length c2) tx mg p F v0 v1 b2 b3 ao k2 l W → Calls Try.prog 15 #[.slice ae k2 ce, .slice ao k2 cap] W fun e w' => e = .returned (.bool true) ∧ Below W.heap.size W w') := hide (fun W ae ce h1 h2 => texts_same W ae ao k2 ce cap l h1 h2.L (by omega))
    go_region_held3 (fun W => W.cell? ⟨q, 1, none⟩ = some (.slice a2 mg.length c2)) (first | exact z1 | exact y1 | go_keep) (first
      | (go_at_call 14; refine (CM.out _ HS.out).mono ?_; rintro e W1 ⟨⟨rv, rfl, hr⟩, hb⟩; obtain ⟨am, cm, hvv⟩ := row_form hr; subst hvv; have hb2 := below_via' hb (below_drew' _); replace HS := hide (HS.out.next hb2); have z1 := HS.out.X.cells.2.1; have HRM := hide hr)
      | (go_at_call 13; refine (lmerges_same _ _ _ _ _ _ mg (ReadsM.row HRM.out rfl) (HS.out.R.reads rfl) (by omega)).mono ?_; rintro e W2 ⟨rfl, hb2⟩; replace HS := hide (HS.out.next hb2); have z1 := HS.out.X.cells.2.1)
      | (go_at_call 16; refine (CX.out _ HS.out).mono ?_; rintro e W3 ⟨⟨ae, ce, rfl, hre⟩, hb2⟩; replace HS := hide (HS.out.next hb2); have z1 := HS.out.X.cells.2.1; have HRE := hide hre)
      | (go_at_call 15; refine (CT.out _ _ _ HRE.out HS.out).mono ?_; rintro e W4 ⟨rfl, hb2⟩; replace HS := hide (HS.out.next hb2); have z1 := HS.out.X.cells.2.1)
      | (go_at_call 10; refine (awake7_any _).mono ?_; rintro e W5 ⟨rfl, hb2⟩; replace HS := hide (HS.out.next hb2); have z1 := HS.out.X.cells.2.1))
    all_goals
      go_wp2
      go_ret
      exact ⟨rfl, HS.out.B⟩

end Go.Proofs.Ytlfffalfnnmliaa
