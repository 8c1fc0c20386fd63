/- GrowLoads: the walk. -/
import Derived.Test.YtlfffalfnnmliaaGrL
import Derived.BigQuiet
import Derived.Deep.RegionWith
namespace Go.Proofs.Ytlfffalfnnmliaa
open Go.RowKit Go.Maps
set_option linter.unusedVariables false
set_option linter.unusedSimpArgs false
attribute [local go_sem ↓] Go.wp_at_zero Go.wp_at_succ

/-- A region that draws its order, in whatever class of worlds. -/
theorem region_classG {P : Program} {α : Type} (f : α → World) {id : Nat} {Q : Exit → Act → World → Prop} {a : Act} {w : World} {l : List Oper} (hm : P.follows .mixedOrders = true) (hB : Region.lexB .any l.toArray = true) (p0 : α) (h0 : w.drew = f p0)
    (h : wpQuiet P l.toArray (fun w' => ∃ p : α, w' = f p) (fun a' => ∀ w', (∃ p : α, w' = f p) → Q .normal a' w') l a) : (Code.region id l.toArray true).wp P Q a w :=
  wp_region_quiet (C := fun w' => ∃ p : α, w' = f p) hm hB ⟨p0, h0⟩ (by simpa using h)
structure Wg (w : World) where
  W : World
  h : Below w.heap.size w W
theorem ld_same {s : Sp} {k1 k2 : Nat} (h1 : ∀ j, j < k1 → ldC s j = 0) (h2 : ∀ j, j < k2 → ldC s j = 0) (g1 : ldC s k1 ≠ 0) (g2 : ldC s k2 ≠ 0) : k1 = k2 := by
  rcases Nat.lt_trichotomy k1 k2 with h | h | h
  · exact absurd (h2 k1 h) g1
  · exact h
  · exact absurd (h1 k2 h) g2

set_option maxRecDepth 20000 in
set_option maxHeartbeats 8000000 in
theorem gloads_walk (x : Sv) (s : Sp) (w : World) (hS : SpAt w x s) :
    Calls Try.prog 4 #[.agg x.cs] w fun e w' => e = .returned (.bool true) ∧ Below w.heap.size w w' := by
  have HI := hide (SpI.new hS 42)
  have HZ := hide (And.intro hS.z1 hS.z2)
  clear hS
  have HG := hide (great2_any x s _ HI.out.sp)
  obtain ⟨r, a1, n1, c1, a2, n2, c2, a3, n3, c3, a4, n4, c4, a5, n5, c5⟩ := x
  go_enter Try.func4, Try.ntmps4
  go_wp2_with fail
  refine (unhide HG).mono ?_
  rintro e w1 ⟨hE, hb1⟩
  replace HI := hide (HI.out.next hb1)
  clear hb1 HG
  obtain ⟨y0, y1, y2, y3, y4, y5⟩ := HI.out.box
  simp only at y0 y1 y2 y3 y4 y5
  rcases hE with rfl | ⟨rfl, hg1, hg2⟩
  · go_wp2_with fail
    refine (awake7_any _).mono ?_
    rintro e w2 ⟨rfl, hb2⟩
    go_wp2
    go_ret
    exact ⟨rfl, (HI.out.next hb2).bel⟩
  simp only at hg1 hg2
  have HFW := hide (few_any w1 a2 n2 c2 s.tokens HI.out.sp.ts HZ.out.2)
  go_wp2_with fail
  refine (unhide HFW).mono ?_
  rintro e w2 ⟨hE, hw⟩
  obtain rfl := hw.symm
  clear hw HFW
  rcases hE with ⟨rfl, hfew⟩ | ⟨rfl, -⟩
  rotate_left
  · go_wp2_with fail
    refine (awake7_any _).mono ?_
    rintro e w2 ⟨rfl, hb2⟩
    go_wp2
    go_ret
    exact ⟨rfl, (HI.out.next hb2).bel⟩
  by_cases h60 : 60 < n1
  · have h6i : (60 : Int) < (n1 : Int) := by omega
    go_wp2_with fail
    refine (awake7_any _).mono ?_
    rintro e w2 ⟨rfl, hb2⟩
    go_wp2
    go_ret
    exact ⟨rfl, (HI.out.next hb2).bel⟩
  have h6i : ¬ (60 : Int) < (n1 : Int) := by omega
  have HSZ : Hid (∀ t ∈ s.tokens, t.size ≤ 100000) := hide (fun t ht => by have := hfew.2 t ht; omega)
  have hn1 : n1 ≤ 1000000 := by omega
  have hn2 : n2 ≤ 1000000 := by omega
  clear hfew hg1
  have HLD := hide (load_any _ s w1 HI.out.sp hn1 hn2 HSZ.out)
  have HRL := hide (fun (W : World) (h : SpI w w.heap.size ⟨r, a1, n1, c1, a2, n2, c2, a3, n3, c3, a4, n4, c4, a5, n5, c5⟩ s W) => rload_any _ s W h.sp hn1 hn2 HSZ.out)
  go_wp2_with fail
  refine (unhide HLD).mono ?_
  rintro e w2 ⟨hP, hb2⟩
  replace HI := hide (HI.out.next hb2)
  clear y0 y1 y2 y3 y4 y5 hb2 HLD
  obtain ⟨y0, y1, y2, y3, y4, y5⟩ := HI.out.box
  simp only at y0 y1 y2 y3 y4 y5
  generalize ldN s = n at *
  rcases hP with ⟨k, hkn, hok, hne, rfl⟩ | ⟨hok, p, F, v0, v1, b2, b3, rfl, hT⟩
  · have HOK := hide hok
    have HNE := hide hne
    clear hok hne
    go_wp2_with fail
    refine (HRL.out _ HI.out).mono ?_
    rintro e w3 ⟨⟨k2, cx, vb, vm, rfl, hok2, hcase, hRT⟩, hb3⟩
    have hk2 : k2 = k ∧ cx = ldC s k := by
      rcases hcase with ⟨hlt, hc, hc0⟩ | ⟨hk2, _⟩
      · have := ld_same HOK.out hok2 HNE.out (by rw [← hc]; exact hc0)
        subst this
        exact ⟨rfl, hc⟩
      · exact absurd (hok2 k (by omega)) HNE.out
    obtain ⟨rfl, rfl⟩ := hk2
    obtain ⟨e1, d1, hv1⟩ := row_form hRT.rb
    obtain ⟨e2, d2, hv2⟩ := row_form hRT.rm
    subst hv1 hv2
    generalize (ldS s k2).1.length = N1 at *
    generalize (ldS s k2).2.length = N2 at *
    have hla := low1 w3 (.cells #[.slice e1 N1 d1, .slice e2 N2 d2] 31)
    have HB := hide ((HI.out.next hb3).next hla).bel
    clear hok2 hcase hRT hb3 hla HRL y0 y1 y2 y3 y4 y5 HI
    have hne := HNE.out
    generalize ldC s k2 = cc at *
    have hcb : (cc != 0) = true := by simpa using hne
    have hcd : (cc == 0) = false := by simpa using hne
    clear hne HNE
    go_wp2
    generalize w3.alloc (.cells #[.slice e1 N1 d1, .slice e2 N2 d2] 31) = w4 at *
    have HK := hide (fun (P : Wg w) => ((awake7_any P.W).mono fun e w' ⟨he, hb⟩ => ⟨he, ⟨⟨w', P.h.trans (hb.mono P.h.size)⟩, rfl⟩⟩ : Calls Try.prog 10 #[] P.W fun e w' => e = .returned (.bool true) ∧ ∃ P' : Wg w, w' = P'.W))
    have ne : Nonempty (Wg w) := ⟨⟨_, HB.out⟩⟩
    refine region_classG (α := Wg w) Wg.W (by kernel_rfl) (by kernel_rfl) ⟨_, HB.out.drew⟩ rfl ?_
    repeat (go_big_quiet_step ((go_at_call 10; exact HK.out _)))
    refine wpQuiet_nil ?_
    intro wq hw'
    obtain ⟨⟨W, hW⟩, rfl⟩ := hw'
    clear HK ne
    go_wp2
    go_ret
    exact ⟨rfl, hW⟩
  · have HOK := hide hok
    have HT := hide hT
    clear hok hT
    go_wp2_with fail
    refine (HRL.out _ HI.out).mono ?_
    rintro e w3 ⟨⟨k2, cx, vb, vm, rfl, hok2, hcase, hRT⟩, hb3⟩
    have hk2 : k2 = n ∧ cx = 0 := by
      rcases hcase with ⟨hlt, hc, hc0⟩ | h
      · exact absurd (HOK.out k2 hlt) (by rw [← hc]; exact hc0)
      · exact h
    obtain ⟨rfl, rfl⟩ := hk2
    have htok := ldS_tok s k2
    have hml : (ldS s k2).2.length ≤ 1000 := by have h1 := htok.len; have h2 := htok.cap; omega
    obtain ⟨e1, d1, hv1⟩ := row_form hRT.rb
    obtain ⟨e2, d2, hv2⟩ := row_form hRT.rm
    subst hv1 hv2
    have hla := low1 w3 (.cells #[.slice e1 (ldS s k2).1.length d1, .slice e2 (ldS s k2).2.length d2] 31)
    have HS : Hid (GiS w w3.heap.size (.slice e1 (ldS s k2).1.length d1) (.slice e2 (ldS s k2).2.length d2) (ldS s k2).1 (ldS s k2).2 p F v0 v1 b2 b3 none 0 [] (w3.alloc (.cells #[.slice e1 (ldS s k2).1.length d1, .slice e2 (ldS s k2).2.length d2] 31))) := hide ⟨(HT.out.keptB hb3).keptB hla, hRT.kept hla, heap_alloc_new w3 _, ⟨rfl, Or.inl rfl⟩, ((HI.out.next hb3).next hla).bel⟩
    clear hok2 hcase hRT hb3 hla HRL y0 y1 y2 y3 y4 y5 HI HT htok HOK
    generalize (ldS s k2).1 = tx at *
    generalize (ldS s k2).2 = mg at *
    go_wp2
    generalize w3.alloc (.cells #[.slice e1 tx.length d1, .slice e2 mg.length d2] 31) = w4 at *
    generalize w3.heap.size = q at *
    obtain ⟨y0, y1, yf⟩ := HS.out.X.cells
    have CM := hide (fun (W : World) (h : GiS w q (.slice e1 tx.length d1) (.slice e2 mg.length d2) tx mg p F v0 v1 b2 b3 none 0 [] W) => tmerges_any (h.next (below_drew' W)).T hml)
    first
    | (go_region_with (first
      | (go_at_call 14; refine (CM.out _ HS.out).mono ?_; rintro e W1 ⟨⟨rv, rfl, hr⟩, hb⟩; obtain ⟨am, cm, hvv⟩ := row_form hr; subst hvv; have hb2 := below_via' hb (below_drew' _); replace HS := hide (HS.out.next hb2); have z1 := HS.out.X.cells.2.1; have HRM := hide hr)
      | (go_at_call 13; refine (lmerges_same _ _ _ _ _ _ mg (ReadsM.row HRM.out rfl) (HS.out.R.reads rfl) (by omega)).mono ?_; rintro e W2 ⟨rfl, hb2⟩; replace HS := hide (HS.out.next hb2); have z1 := HS.out.X.cells.2.1)
      | (go_at_call 10; refine (awake7_any _).mono ?_; rintro e W5 ⟨rfl, hb2⟩; replace HS := hide (HS.out.next hb2); have z1 := HS.out.X.cells.2.1)))
    | fail
    all_goals
      go_wp2
      go_ret
      exact ⟨rfl, HS.out.B⟩

end Go.Proofs.Ytlfffalfnnmliaa
