/- GrowPlain: the walk. -/
import Derived.Test.YtlfffalfnnmliaaGxG
namespace Go.Proofs.Ytlfffalfnnmliaa
open Go.RowKit Go.Maps
set_option linter.unusedVariables false
set_option linter.unusedSimpArgs false
attribute [local go_sem ↓] Go.wp_at_zero Go.wp_at_succ

theorem gT_drop (tx : List ByteArray) (i : Nat) : gT (tx.drop 256) i = gs tx (256 + i) := by
  unfold gT gs
  rw [List.getD_eq_getElem?_getD, List.getD_eq_getElem?_getD, List.getElem?_drop]
/-- Of each token's bytes that token is made. -/
theorem plain_alone {tx : List ByteArray} {mg : List (Int × Int)} (hk : Tok tx mg) (hP : PlP (tx.drop 256) mg) {i : Nat} (h1 : 256 ≤ i) (h2 : i < tx.length) : made mg tx.length (gs tx i) = [(i : Int)] := by
  have hl : (tx.drop 256).length = tx.length - 256 := by simp
  have h := im_alone (tx.drop 256) hP.1 (i - 256) (by omega)
  have hx := (imS_text (tx.drop 256) (tx.drop 256).length (Nat.le_refl _) hP.1).1
  have hlen : (imS (tx.drop 256) (tx.drop 256).length).1.length = tx.length := by
    rw [hx, List.length_append, tb_len, List.take_length]
    omega
  rw [hP.2, hlen, gT_drop, show 256 + (i - 256) = i by omega] at h
  have e : (256 : Int) + ((i - 256 : Nat) : Int) = (i : Int) := by omega
  rw [h, e]
/-- The texts above the bytes, as they lie in the document's table. -/
theorem RT.above {vb vm : Value} {tx : List ByteArray} {mg : List (Int × Int)} {w : World} (h : RT vb vm tx mg w) (h256 : 256 ≤ tx.length) : ∃ g c, vb = .slice (some ⟨g, 0, none⟩) tx.length c ∧ tx.length ≤ c ∧ g < w.heap.size ∧ RdT w (some ⟨g, 256, none⟩) (tx.length - 256) (tx.drop 256) ∧ (∀ i, i < tx.length → w.cell? ⟨g, i, none⟩ = some (.string (gs tx i))) := by
  rcases h.rb.2 with ⟨_, h1⟩ | ⟨g, c, cur, hv, _, hg, hnc, _, _, _⟩
  · omega
  · refine ⟨g, c, hv, hnc, (Array.getElem?_eq_some_iff.1 hg).1, ⟨by simp, ?_⟩, fun i hi => ?_⟩
    · refine Or.inr ⟨g, 256, rfl, (Array.getElem?_eq_some_iff.1 hg).1, fun i hi => ?_⟩
      obtain ⟨g2, c2, hv2, _, hc⟩ := h.text (i := 256 + i) (by omega)
      rw [hv] at hv2
      simp only [Value.slice.injEq, Option.some.injEq, Addr.mk.injEq] at hv2
      obtain ⟨⟨rfl, _, _⟩, _, _⟩ := hv2
      rw [gT_drop]
      exact hc
    · obtain ⟨g2, c2, hv2, _, hc⟩ := h.text hi
      rw [hv] at hv2
      simp only [Value.slice.injEq, Option.some.injEq, Addr.mk.injEq] at hv2
      obtain ⟨⟨rfl, _, _⟩, _, _⟩ := hv2
      exact hc

set_option maxRecDepth 20000 in
set_option maxHeartbeats 8000000 in
theorem gplain_walk (ao : Option Addr) (n cap : Nat) (U : List Int) (w : World) (hM : ReadsH w ao n U) (hn : n ≤ 9223372036854775807) :
    Calls Try.prog 5 #[.slice ao n cap] w fun e w' => e = .returned (.bool true) ∧ Below w.heap.size w w' := by
  go_enter Try.func5, Try.ntmps5
  by_cases hbig : 40 < n
  · have hb : (40 : Int) < (n : Int) := by omega
    go_wp2_with fail
    refine (awake7_any _).mono ?_
    rintro e w1 ⟨rfl, hb1⟩
    go_wp2
    go_ret
    exact ⟨rfl, hb1⟩
  have hb : ¬ (40 : Int) < (n : Int) := by omega
  go_wp2_with fail
  refine (awake7_any _).mono ?_
  rintro e w1 ⟨rfl, hb1⟩
  have HG := hide (rgrow_any ao n cap U w1 (hM.kept hb1) (by omega))
  have HB1 := hide hb1
  clear hb1 hM
  go_wp2_with fail
  refine (unhide HG).mono ?_
  rintro e w2 ⟨⟨tx, mg, vb, vm, rfl, hR, hT⟩, hb2⟩
  have hB2 := HB1.out.trans (hb2.mono HB1.out.size)
  have HK := hide hR.tok
  have h256 : 256 ≤ tx.length := by have := hR.tok.len; omega
  have hmgl : mg.length ≤ 1000 := by have h1 := hR.tok.len; have h2 := hR.tok.cap; omega
  have hcap := hR.tok.cap
  have HRC := hide hR
  obtain ⟨a2, c2, hv2⟩ := row_form hT.rm
  subst hv2
  obtain ⟨g, c1, rfl, hc1, hgl, -, -⟩ := hT.above (by omega)
  have hla := low1 w2 (.cells #[.slice (some ⟨g, 0, none⟩) tx.length c1, .slice a2 mg.length c2] 31)
  have hT3 := hT.kept hla
  have HN := hide (new_rch a2 c2 _ (hT3.reads rfl) hR)
  have hX3 : Box2 w2.heap.size (.slice (some ⟨g, 0, none⟩) tx.length c1) (.slice a2 mg.length c2) (w2.alloc (.cells #[.slice (some ⟨g, 0, none⟩) tx.length c1, .slice a2 mg.length c2] 31)) := heap_alloc_new w2 _
  have HS3 := hide (And.intro hT3 (And.intro hX3 (hB2.trans (hla.mono hB2.size))))
  clear hb2 hB2 HB1 HG hT hT3 hX3 hla hR hgl
  go_wp2_with fail
  generalize w2.alloc (.cells #[.slice (some ⟨g, 0, none⟩) tx.length c1, .slice a2 mg.length c2] 31) = w3 at *
  generalize w2.heap.size = q at *
  refine (unhide HN).mono ?_
  rintro e w4 ⟨⟨p, F, v0, v1, b2, b3, rfl, hT4, hF⟩, hb4⟩
  have hR4 := HS3.out.1.kept hb4
  have HAB := hide hR4
  have HQ4 := hide (And.intro hT4 (And.intro (HS3.out.2.1.kept hb4) (HS3.out.2.2.trans (hb4.mono HS3.out.2.2.size))))
  clear hT4 hF hb4 HN HS3 hR4
  have hsz : ∀ x ∈ tx.drop 256, x.size ≤ 100000 := fun x hx => by have := drop_sz HK.out x hx; omega
  have HSZ := hide hsz
  clear hsz
  by_cases hc : c1 = 256
  · subst hc
    have htl : tx.length = 256 := by omega
    have HS : Hid (GiS w q (.slice (some ⟨g, 0, none⟩) tx.length 256) (.slice a2 mg.length c2) tx mg p F v0 v1 b2 b3 (some ⟨g, 0, none⟩) (tx.length - 256) (tx.drop 256) w4) := hide ⟨HQ4.out.1, HAB.out, HQ4.out.2.1, ⟨by simp, Or.inl (by omega)⟩, HQ4.out.2.2⟩
    clear HQ4 HAB
    clear htl hc1
    have HI := hide (rimport_any (some ⟨g, 0, none⟩) (tx.length - 256) 0 (tx.drop 256) w4 HS.out.L (by omega) HSZ.out)
    obtain ⟨y0, y1, yf⟩ := HS.out.X.cells
    go_wp2_with fail
    refine (unhide HI).mono ?_
    rintro e w5 ⟨k2, cx, vb', vm', rfl, hok2, hcase, hRT, hb5⟩
    have hll : (tx.drop 256).length = tx.length - 256 := HS.out.L.1
    replace HS := hide (HS.out.next hb5)
    obtain ⟨e1, d1, hv1⟩ := row_form hRT.rb
    obtain ⟨e2, d2, hv2⟩ := row_form hRT.rm
    subst hv1 hv2
    have hla5 := low1 w5 (.cells #[.slice e1 (imS (tx.drop 256) k2).1.length d1, .slice e2 (imS (tx.drop 256) k2).2.length d2] 31)
    have hRT6 := hRT.kept hla5
    have hX6 : Box2 w5.heap.size (.slice e1 (imS (tx.drop 256) k2).1.length d1) (.slice e2 (imS (tx.drop 256) k2).2.length d2) (w5.alloc (.cells #[.slice e1 (imS (tx.drop 256) k2).1.length d1, .slice e2 (imS (tx.drop 256) k2).2.length d2] 31)) := heap_alloc_new w5 _
    replace HS := hide (HS.out.next hla5)
    have HX6 := hide (And.intro hX6 hRT6)
    clear y0 y1 yf HI hRT hRT6 hX6 hla5 hb5
    rcases hcase with ⟨hlt2, hc2, hc20⟩ | ⟨hk2n, rfl⟩
    · have HPL : Hid (¬ PlP (tx.drop 256) mg) := hide (fun h => hc20 (by rw [hc2]; exact h.1 k2 (by rw [hll]; exact hlt2)))
      have hcd : (cx == 0) = false := by simpa using hc20
      clear hc2 hc20 hok2 hll HX6
      generalize (imS (tx.drop 256) k2).1.length = N1 at *
      generalize (imS (tx.drop 256) k2).2.length = N2 at *
      go_wp2
      generalize w5.alloc (.cells #[.slice e1 N1 d1, .slice e2 N2 d2] 31) = w6 at *
      obtain ⟨y0, y1, yf⟩ := HS.out.X.cells
      have CP : Hid (∀ (W : World), GiS w q (.slice (some ⟨g, 0, none⟩) tx.length 256) (.slice a2 mg.length c2) tx mg p F v0 v1 b2 b3 (some ⟨g, 0, none⟩) (tx.length - 256) (tx.drop 256) W → Calls Try.prog 22 #[.pointer (some ⟨p, 0, none⟩)] W.drew fun e w' => e = .returned (.bool false) ∧ Below W.drew.heap.size W.drew w') := hide (fun W h => (plain_any (h.next (below_drew' W)).T HK.out).mono (by
        rintro e w' ⟨hE, hb⟩
        rcases hE with ⟨rfl, hp⟩ | ⟨rfl, hp⟩
        · exact ⟨by first | rfl | exact absurd hp HPL.out, hb⟩
        · exact ⟨by first | rfl | exact absurd HPL.out hp, hb⟩))
      have CX : Hid (∀ (W : World), GiS w q (.slice (some ⟨g, 0, none⟩) tx.length 256) (.slice a2 mg.length c2) tx mg p F v0 v1 b2 b3 (some ⟨g, 0, none⟩) (tx.length - 256) (tx.drop 256) W → Calls Try.prog 16 #[.pointer (some ⟨p, 0, none⟩)] W fun e w' => (∃ ae ce, e = .returned (.slice ae (tx.length - 256) ce) ∧ RdT w' ae (tx.length - 256) (tx.drop 256)) ∧ Below W.heap.size W w') := hide (fun W h => (export_any h.T HK.out).mono (by
        rintro e w' ⟨⟨ae, ne, ce, rfl, hne, hre⟩, hb⟩
        have h2 : ne = tx.length - 256 := hne.trans h.L.1
        subst h2
        exact ⟨⟨ae, ce, rfl, RdT.row hre hne.symm⟩, hb⟩))
      have CT : Hid (∀ (W : World) (ae : Option Addr) (ce : Nat), RdT W ae (tx.length - 256) (tx.drop 256) → GiS w q (.slice (some ⟨g, 0, none⟩) tx.length 256) (.slice a2 mg.length c2) tx mg p F v0 v1 b2 b3 (some ⟨g, 0, none⟩) (tx.length - 256) (tx.drop 256) W → Calls Try.prog 15 #[.slice ae (tx.length - 256) ce, .slice (some ⟨g, 0, none⟩) (tx.length - 256) 0] W fun e w' => e = .returned (.bool true) ∧ Below W.heap.size W w') := hide (fun W ae ce h1 h2 => texts_same W ae (some ⟨g, 0, none⟩) (tx.length - 256) ce 0 (tx.drop 256) h1 h2.L (by omega))
      have h256i : (256 : Int) ≤ (tx.length : Int) := by omega
      go_wp2
      go_region_held3 (fun W => W.cell? ⟨q, 0, none⟩ = some (.slice (some ⟨g, 0, none⟩) tx.length 256)) (first | exact z0 | exact y0 | go_keep) (first
        | (go_at_call 22; refine (CP.out _ HS.out).mono ?_; rintro e W1 ⟨rfl, hb⟩; have hb2 := below_via' hb (below_drew' _); replace HS := hide (HS.out.next hb2); have z0 := HS.out.X.cells.1)
        | (go_at_call 16; refine (CX.out _ HS.out).mono ?_; rintro e W3 ⟨⟨ae, ce, rfl, hre⟩, hb2⟩; replace HS := hide (HS.out.next hb2); have z0 := HS.out.X.cells.1; have HRE := hide hre)
        | (go_at_call 15; refine (CT.out _ _ _ HRE.out HS.out).mono ?_; rintro e W4 ⟨rfl, hb2⟩; replace HS := hide (HS.out.next hb2); have z0 := HS.out.X.cells.1))
      all_goals
        obtain ⟨u0, u1, uf⟩ := HS.out.X.cells
        have HB9 := hide HS.out.B
        clear CP CX CT HRE y0 y1 yf z0 HS
        go_wp2
        go_loopw [11] (fun i wr => i = .int .i64 256 ∧ wr = W4) (fun _ _ => 0)
        case atStart => exact ⟨by go_num, rfl⟩
        case round =>
          obtain ⟨rfl, rfl⟩ := hrel
          by_cases h6 : 256 < tx.length
          · have h6i : (256 : Int) < (tx.length : Int) := by omega
            go_wp2
            go_ret
            exact ⟨rfl, HB9.out⟩
          · have h6i : ¬ (256 : Int) < (tx.length : Int) := by omega
            first
              | (exfalso; omega)
              | (go_wp2; go_ret; exact ⟨rfl, HB9.out⟩)
    · subst hk2n
      have HOK2 : Hid (∀ j, j < (tx.drop 256).length → imC (tx.drop 256) j = 0) := hide (fun j hj => hok2 j (by rw [← hll]; exact hj))
      have HPD : Hid (PlP (tx.drop 256) mg ↔ (imS (tx.drop 256) (tx.length - 256)).2 = mg) := hide (by rw [← hll]; exact ⟨fun h => h.2, fun h => ⟨HOK2.out, h⟩⟩)
      have hml2 : (imS (tx.drop 256) (tx.length - 256)).2.length ≤ 1000 := by have h1 := (imS_rch (tx.drop 256) (tx.length - 256)).tok.len; have h2 := (imS_rch (tx.drop 256) (tx.length - 256)).tok.cap; omega
      clear hok2 hll HOK2
      generalize (imS (tx.drop 256) (tx.length - 256)).1 = tx2 at *
      generalize (imS (tx.drop 256) (tx.length - 256)).2 = mg2 at *
      obtain ⟨y0, y1, yf⟩ := HS.out.X.cells
      obtain ⟨x0, x1, xf⟩ := HX6.out.1.cells
      have HLM := hide (lmerges_any _ e2 a2 mg2.length mg.length d2 c2 mg2 mg (HX6.out.2.reads rfl) (HS.out.R.reads rfl) (by omega))
      go_wp2_with fail
      generalize w5.alloc (.cells #[.slice e1 tx2.length d1, .slice e2 mg2.length d2] 31) = w6 at *
      refine (unhide HLM).mono ?_
      rintro e w7 ⟨rfl, hb7⟩
      replace HS := hide (HS.out.next hb7)
      clear y0 y1 yf x0 x1 xf hb7 HLM HX6
      by_cases he : mg2 = mg
      · have HPL := hide (HPD.out.2 he)
        rw [decide_eq_true he]
        clear he HPD
        obtain ⟨y0, y1, yf⟩ := HS.out.X.cells
        have CP : Hid (∀ (W : World), GiS w q (.slice (some ⟨g, 0, none⟩) tx.length 256) (.slice a2 mg.length c2) tx mg p F v0 v1 b2 b3 (some ⟨g, 0, none⟩) (tx.length - 256) (tx.drop 256) W → Calls Try.prog 22 #[.pointer (some ⟨p, 0, none⟩)] W.drew fun e w' => e = .returned (.bool true) ∧ Below W.drew.heap.size W.drew w') := hide (fun W h => (plain_any (h.next (below_drew' W)).T HK.out).mono (by
          rintro e w' ⟨hE, hb⟩
          rcases hE with ⟨rfl, hp⟩ | ⟨rfl, hp⟩
          · exact ⟨by first | rfl | exact absurd hp HPL.out, hb⟩
          · exact ⟨by first | rfl | exact absurd HPL.out hp, hb⟩))
        have CX : Hid (∀ (W : World), GiS w q (.slice (some ⟨g, 0, none⟩) tx.length 256) (.slice a2 mg.length c2) tx mg p F v0 v1 b2 b3 (some ⟨g, 0, none⟩) (tx.length - 256) (tx.drop 256) W → Calls Try.prog 16 #[.pointer (some ⟨p, 0, none⟩)] W fun e w' => (∃ ae ce, e = .returned (.slice ae (tx.length - 256) ce) ∧ RdT w' ae (tx.length - 256) (tx.drop 256)) ∧ Below W.heap.size W w') := hide (fun W h => (export_any h.T HK.out).mono (by
          rintro e w' ⟨⟨ae, ne, ce, rfl, hne, hre⟩, hb⟩
          have h2 : ne = tx.length - 256 := hne.trans h.L.1
          subst h2
          exact ⟨⟨ae, ce, rfl, RdT.row hre hne.symm⟩, hb⟩))
        have CT : Hid (∀ (W : World) (ae : Option Addr) (ce : Nat), RdT W ae (tx.length - 256) (tx.drop 256) → GiS w q (.slice (some ⟨g, 0, none⟩) tx.length 256) (.slice a2 mg.length c2) tx mg p F v0 v1 b2 b3 (some ⟨g, 0, none⟩) (tx.length - 256) (tx.drop 256) W → Calls Try.prog 15 #[.slice ae (tx.length - 256) ce, .slice (some ⟨g, 0, none⟩) (tx.length - 256) 0] W fun e w' => e = .returned (.bool true) ∧ Below W.heap.size W w') := hide (fun W ae ce h1 h2 => texts_same W ae (some ⟨g, 0, none⟩) (tx.length - 256) ce 0 (tx.drop 256) h1 h2.L (by omega))
        have h256i : (256 : Int) ≤ (tx.length : Int) := by omega
        go_wp2
        go_region_held3 (fun W => W.cell? ⟨q, 0, none⟩ = some (.slice (some ⟨g, 0, none⟩) tx.length 256)) (first | exact z0 | exact y0 | go_keep) (first
          | (go_at_call 22; refine (CP.out _ HS.out).mono ?_; rintro e W1 ⟨rfl, hb⟩; have hb2 := below_via' hb (below_drew' _); replace HS := hide (HS.out.next hb2); have z0 := HS.out.X.cells.1)
          | (go_at_call 16; refine (CX.out _ HS.out).mono ?_; rintro e W3 ⟨⟨ae, ce, rfl, hre⟩, hb2⟩; replace HS := hide (HS.out.next hb2); have z0 := HS.out.X.cells.1; have HRE := hide hre)
          | (go_at_call 15; refine (CT.out _ _ _ HRE.out HS.out).mono ?_; rintro e W4 ⟨rfl, hb2⟩; replace HS := hide (HS.out.next hb2); have z0 := HS.out.X.cells.1))
        all_goals
          clear CP CX CT HRE y0 y1 yf z0
          go_wp2
          go_loopw [11] (fun i wr => ∃ k : Nat, i = .int .i64 k ∧ 256 ≤ k ∧ k ≤ tx.length ∧ Hid (GiS w q (.slice (some ⟨g, 0, none⟩) tx.length 256) (.slice a2 mg.length c2) tx mg p F v0 v1 b2 b3 (some ⟨g, 0, none⟩) (tx.length - 256) (tx.drop 256) wr)) (fun i _ => tx.length - (intOf i).toNat)
          case atStart => exact ⟨256, by go_num, Nat.le_refl _, h256, HS⟩
          case round =>
            clear HS
            obtain ⟨k, rfl, hk1, hk2, HS⟩ := hrel
            obtain ⟨u0, u1, uf⟩ := HS.out.X.cells
            by_cases h6 : k < tx.length
            · have h6i : (k : Int) < (tx.length : Int) := by omega
              have hk0 : (0 : Int) ≤ (k : Int) := by omega
              obtain ⟨g', c', hv', hgl', hck⟩ := HS.out.R.text h6
              simp only [Value.slice.injEq, Option.some.injEq, Addr.mk.injEq] at hv'
              obtain ⟨⟨rfl, -, -⟩, -, -⟩ := hv'
              have HAL := hide (plain_alone HK.out HPL.out hk1 h6)
              have HEN := hide (encode_any wr HS.out.T HK.out (gs tx k) (by have := HK.out.sz k h6; omega))
              rw [HAL.out] at HEN
              generalize gs tx k = sk at *
              go_wp2_with fail
              refine (unhide HEN).mono ?_
              rintro e w9 ⟨⟨v, rfl, hv⟩, hb9⟩
              obtain ⟨ge, ce, hve, hgel, ce0⟩ := row_at hv (show 0 < [(k : Int)].length by simp)
              have hg0 : gI [(k : Int)] 0 = (k : Int) := rfl
              have hl1 : [(k : Int)].length = 1 := rfl
              rw [hg0] at ce0
              rw [hl1] at hve
              subst hve
              have HS9 := hide (HS.out.next hb9)
              clear hv hb9 hg0 hl1 HEN HAL u0 u1 uf hck HS
              go_wp2
              go_roundw
              case rel => exact ⟨k + 1, by go_num, by omega, by omega, HS9⟩
              case measure => simp [intOf]; omega
            · have h6i : ¬ (k : Int) < (tx.length : Int) := by omega
              go_wp2
              go_ret
              exact ⟨rfl, HS.out.B⟩
      · have HPL : Hid (¬ PlP (tx.drop 256) mg) := hide (fun h => he (HPD.out.1 h))
        rw [decide_eq_false he]
        clear he HPD
        obtain ⟨y0, y1, yf⟩ := HS.out.X.cells
        have CP : Hid (∀ (W : World), GiS w q (.slice (some ⟨g, 0, none⟩) tx.length 256) (.slice a2 mg.length c2) tx mg p F v0 v1 b2 b3 (some ⟨g, 0, none⟩) (tx.length - 256) (tx.drop 256) W → Calls Try.prog 22 #[.pointer (some ⟨p, 0, none⟩)] W.drew fun e w' => e = .returned (.bool false) ∧ Below W.drew.heap.size W.drew w') := hide (fun W h => (plain_any (h.next (below_drew' W)).T HK.out).mono (by
          rintro e w' ⟨hE, hb⟩
          rcases hE with ⟨rfl, hp⟩ | ⟨rfl, hp⟩
          · exact ⟨by first | rfl | exact absurd hp HPL.out, hb⟩
          · exact ⟨by first | rfl | exact absurd HPL.out hp, hb⟩))
        have CX : Hid (∀ (W : World), GiS w q (.slice (some ⟨g, 0, none⟩) tx.length 256) (.slice a2 mg.length c2) tx mg p F v0 v1 b2 b3 (some ⟨g, 0, none⟩) (tx.length - 256) (tx.drop 256) W → Calls Try.prog 16 #[.pointer (some ⟨p, 0, none⟩)] W fun e w' => (∃ ae ce, e = .returned (.slice ae (tx.length - 256) ce) ∧ RdT w' ae (tx.length - 256) (tx.drop 256)) ∧ Below W.heap.size W w') := hide (fun W h => (export_any h.T HK.out).mono (by
          rintro e w' ⟨⟨ae, ne, ce, rfl, hne, hre⟩, hb⟩
          have h2 : ne = tx.length - 256 := hne.trans h.L.1
          subst h2
          exact ⟨⟨ae, ce, rfl, RdT.row hre hne.symm⟩, hb⟩))
        have CT : Hid (∀ (W : World) (ae : Option Addr) (ce : Nat), RdT W ae (tx.length - 256) (tx.drop 256) → GiS w q (.slice (some ⟨g, 0, none⟩) tx.length 256) (.slice a2 mg.length c2) tx mg p F v0 v1 b2 b3 (some ⟨g, 0, none⟩) (tx.length - 256) (tx.drop 256) W → Calls Try.prog 15 #[.slice ae (tx.length - 256) ce, .slice (some ⟨g, 0, none⟩) (tx.length - 256) 0] W fun e w' => e = .returned (.bool true) ∧ Below W.heap.size W w') := hide (fun W ae ce h1 h2 => texts_same W ae (some ⟨g, 0, none⟩) (tx.length - 256) ce 0 (tx.drop 256) h1 h2.L (by omega))
        have h256i : (256 : Int) ≤ (tx.length : Int) := by omega
        go_wp2
        go_region_held3 (fun W => W.cell? ⟨q, 0, none⟩ = some (.slice (some ⟨g, 0, none⟩) tx.length 256)) (first | exact z0 | exact y0 | go_keep) (first
          | (go_at_call 22; refine (CP.out _ HS.out).mono ?_; rintro e W1 ⟨rfl, hb⟩; have hb2 := below_via' hb (below_drew' _); replace HS := hide (HS.out.next hb2); have z0 := HS.out.X.cells.1)
          | (go_at_call 16; refine (CX.out _ HS.out).mono ?_; rintro e W3 ⟨⟨ae, ce, rfl, hre⟩, hb2⟩; replace HS := hide (HS.out.next hb2); have z0 := HS.out.X.cells.1; have HRE := hide hre)
          | (go_at_call 15; refine (CT.out _ _ _ HRE.out HS.out).mono ?_; rintro e W4 ⟨rfl, hb2⟩; replace HS := hide (HS.out.next hb2); have z0 := HS.out.X.cells.1))
        all_goals
          obtain ⟨u0, u1, uf⟩ := HS.out.X.cells
          have HB9 := hide HS.out.B
          clear CP CX CT HRE y0 y1 yf z0 HS
          go_wp2
          go_loopw [11] (fun i wr => i = .int .i64 256 ∧ wr = W4) (fun _ _ => 0)
          case atStart => exact ⟨by go_num, rfl⟩
          case round =>
            obtain ⟨rfl, rfl⟩ := hrel
            by_cases h6 : 256 < tx.length
            · have h6i : (256 : Int) < (tx.length : Int) := by omega
              go_wp2
              go_ret
              exact ⟨rfl, HB9.out⟩
            · have h6i : ¬ (256 : Int) < (tx.length : Int) := by omega
              first
                | (exfalso; omega)
                | (go_wp2; go_ret; exact ⟨rfl, HB9.out⟩)
  · have hL : RdT w4 (some ⟨g, 256, none⟩) (tx.length - 256) (tx.drop 256) := by
      obtain ⟨g', c', hv', _, _, hL, _⟩ := HAB.out.above h256
      simp only [Value.slice.injEq, Option.some.injEq, Addr.mk.injEq] at hv'
      obtain ⟨⟨rfl, _, _⟩, _, _⟩ := hv'
      exact hL
    have HS : Hid (GiS w q (.slice (some ⟨g, 0, none⟩) tx.length c1) (.slice a2 mg.length c2) tx mg p F v0 v1 b2 b3 (some ⟨g, 256, none⟩) (tx.length - 256) (tx.drop 256) w4) := hide ⟨HQ4.out.1, HAB.out, HQ4.out.2.1, hL, HQ4.out.2.2⟩
    clear HQ4 HAB
    clear hL
    have HI := hide (rimport_any (some ⟨g, 256, none⟩) (tx.length - 256) (c1 - 256) (tx.drop 256) w4 HS.out.L (by omega) HSZ.out)
    obtain ⟨y0, y1, yf⟩ := HS.out.X.cells
    go_wp2_with fail
    refine (unhide HI).mono ?_
    rintro e w5 ⟨k2, cx, vb', vm', rfl, hok2, hcase, hRT, hb5⟩
    have hll : (tx.drop 256).length = tx.length - 256 := HS.out.L.1
    replace HS := hide (HS.out.next hb5)
    obtain ⟨e1, d1, hv1⟩ := row_form hRT.rb
    obtain ⟨e2, d2, hv2⟩ := row_form hRT.rm
    subst hv1 hv2
    have hla5 := low1 w5 (.cells #[.slice e1 (imS (tx.drop 256) k2).1.length d1, .slice e2 (imS (tx.drop 256) k2).2.length d2] 31)
    have hRT6 := hRT.kept hla5
    have hX6 : Box2 w5.heap.size (.slice e1 (imS (tx.drop 256) k2).1.length d1) (.slice e2 (imS (tx.drop 256) k2).2.length d2) (w5.alloc (.cells #[.slice e1 (imS (tx.drop 256) k2).1.length d1, .slice e2 (imS (tx.drop 256) k2).2.length d2] 31)) := heap_alloc_new w5 _
    replace HS := hide (HS.out.next hla5)
    have HX6 := hide (And.intro hX6 hRT6)
    clear y0 y1 yf HI hRT hRT6 hX6 hla5 hb5
    rcases hcase with ⟨hlt2, hc2, hc20⟩ | ⟨hk2n, rfl⟩
    · have HPL : Hid (¬ PlP (tx.drop 256) mg) := hide (fun h => hc20 (by rw [hc2]; exact h.1 k2 (by rw [hll]; exact hlt2)))
      have hcd : (cx == 0) = false := by simpa using hc20
      clear hc2 hc20 hok2 hll HX6
      generalize (imS (tx.drop 256) k2).1.length = N1 at *
      generalize (imS (tx.drop 256) k2).2.length = N2 at *
      go_wp2
      generalize w5.alloc (.cells #[.slice e1 N1 d1, .slice e2 N2 d2] 31) = w6 at *
      obtain ⟨y0, y1, yf⟩ := HS.out.X.cells
      have CP : Hid (∀ (W : World), GiS w q (.slice (some ⟨g, 0, none⟩) tx.length c1) (.slice a2 mg.length c2) tx mg p F v0 v1 b2 b3 (some ⟨g, 256, none⟩) (tx.length - 256) (tx.drop 256) W → Calls Try.prog 22 #[.pointer (some ⟨p, 0, none⟩)] W.drew fun e w' => e = .returned (.bool false) ∧ Below W.drew.heap.size W.drew w') := hide (fun W h => (plain_any (h.next (below_drew' W)).T HK.out).mono (by
        rintro e w' ⟨hE, hb⟩
        rcases hE with ⟨rfl, hp⟩ | ⟨rfl, hp⟩
        · exact ⟨by first | rfl | exact absurd hp HPL.out, hb⟩
        · exact ⟨by first | rfl | exact absurd HPL.out hp, hb⟩))
      have CX : Hid (∀ (W : World), GiS w q (.slice (some ⟨g, 0, none⟩) tx.length c1) (.slice a2 mg.length c2) tx mg p F v0 v1 b2 b3 (some ⟨g, 256, none⟩) (tx.length - 256) (tx.drop 256) W → Calls Try.prog 16 #[.pointer (some ⟨p, 0, none⟩)] W fun e w' => (∃ ae ce, e = .returned (.slice ae (tx.length - 256) ce) ∧ RdT w' ae (tx.length - 256) (tx.drop 256)) ∧ Below W.heap.size W w') := hide (fun W h => (export_any h.T HK.out).mono (by
        rintro e w' ⟨⟨ae, ne, ce, rfl, hne, hre⟩, hb⟩
        have h2 : ne = tx.length - 256 := hne.trans h.L.1
        subst h2
        exact ⟨⟨ae, ce, rfl, RdT.row hre hne.symm⟩, hb⟩))
      have CT : Hid (∀ (W : World) (ae : Option Addr) (ce : Nat), RdT W ae (tx.length - 256) (tx.drop 256) → GiS w q (.slice (some ⟨g, 0, none⟩) tx.length c1) (.slice a2 mg.length c2) tx mg p F v0 v1 b2 b3 (some ⟨g, 256, none⟩) (tx.length - 256) (tx.drop 256) W → Calls Try.prog 15 #[.slice ae (tx.length - 256) ce, .slice (some ⟨g, 256, none⟩) (tx.length - 256) (c1 - 256)] W fun e w' => e = .returned (.bool true) ∧ Below W.heap.size W w') := hide (fun W ae ce h1 h2 => texts_same W ae (some ⟨g, 256, none⟩) (tx.length - 256) ce (c1 - 256) (tx.drop 256) h1 h2.L (by omega))
      have h256i : (256 : Int) ≤ (tx.length : Int) := by omega
      go_wp2
      go_region_held3 (fun W => W.cell? ⟨q, 0, none⟩ = some (.slice (some ⟨g, 0, none⟩) tx.length c1)) (first | exact z0 | exact y0 | go_keep) (first
        | (go_at_call 22; refine (CP.out _ HS.out).mono ?_; rintro e W1 ⟨rfl, hb⟩; have hb2 := below_via' hb (below_drew' _); replace HS := hide (HS.out.next hb2); have z0 := HS.out.X.cells.1)
        | (go_at_call 16; refine (CX.out _ HS.out).mono ?_; rintro e W3 ⟨⟨ae, ce, rfl, hre⟩, hb2⟩; replace HS := hide (HS.out.next hb2); have z0 := HS.out.X.cells.1; have HRE := hide hre)
        | (go_at_call 15; refine (CT.out _ _ _ HRE.out HS.out).mono ?_; rintro e W4 ⟨rfl, hb2⟩; replace HS := hide (HS.out.next hb2); have z0 := HS.out.X.cells.1))
      all_goals
        obtain ⟨u0, u1, uf⟩ := HS.out.X.cells
        have HB9 := hide HS.out.B
        clear CP CX CT HRE y0 y1 yf z0 HS
        go_wp2
        go_loopw [11] (fun i wr => i = .int .i64 256 ∧ wr = W4) (fun _ _ => 0)
        case atStart => exact ⟨by go_num, rfl⟩
        case round =>
          obtain ⟨rfl, rfl⟩ := hrel
          by_cases h6 : 256 < tx.length
          · have h6i : (256 : Int) < (tx.length : Int) := by omega
            go_wp2
            go_ret
            exact ⟨rfl, HB9.out⟩
          · have h6i : ¬ (256 : Int) < (tx.length : Int) := by omega
            first
              | (exfalso; omega)
              | (go_wp2; go_ret; exact ⟨rfl, HB9.out⟩)
    · subst hk2n
      have HOK2 : Hid (∀ j, j < (tx.drop 256).length → imC (tx.drop 256) j = 0) := hide (fun j hj => hok2 j (by rw [← hll]; exact hj))
      have HPD : Hid (PlP (tx.drop 256) mg ↔ (imS (tx.drop 256) (tx.length - 256)).2 = mg) := hide (by rw [← hll]; exact ⟨fun h => h.2, fun h => ⟨HOK2.out, h⟩⟩)
      have hml2 : (imS (tx.drop 256) (tx.length - 256)).2.length ≤ 1000 := by have h1 := (imS_rch (tx.drop 256) (tx.length - 256)).tok.len; have h2 := (imS_rch (tx.drop 256) (tx.length - 256)).tok.cap; omega
      clear hok2 hll HOK2
      generalize (imS (tx.drop 256) (tx.length - 256)).1 = tx2 at *
      generalize (imS (tx.drop 256) (tx.length - 256)).2 = mg2 at *
      obtain ⟨y0, y1, yf⟩ := HS.out.X.cells
      obtain ⟨x0, x1, xf⟩ := HX6.out.1.cells
      have HLM := hide (lmerges_any _ e2 a2 mg2.length mg.length d2 c2 mg2 mg (HX6.out.2.reads rfl) (HS.out.R.reads rfl) (by omega))
      go_wp2_with fail
      generalize w5.alloc (.cells #[.slice e1 tx2.length d1, .slice e2 mg2.length d2] 31) = w6 at *
      refine (unhide HLM).mono ?_
      rintro e w7 ⟨rfl, hb7⟩
      replace HS := hide (HS.out.next hb7)
      clear y0 y1 yf x0 x1 xf hb7 HLM HX6
      by_cases he : mg2 = mg
      · have HPL := hide (HPD.out.2 he)
        rw [decide_eq_true he]
        clear he HPD
        obtain ⟨y0, y1, yf⟩ := HS.out.X.cells
        have CP : Hid (∀ (W : World), GiS w q (.slice (some ⟨g, 0, none⟩) tx.length c1) (.slice a2 mg.length c2) tx mg p F v0 v1 b2 b3 (some ⟨g, 256, none⟩) (tx.length - 256) (tx.drop 256) W → Calls Try.prog 22 #[.pointer (some ⟨p, 0, none⟩)] W.drew fun e w' => e = .returned (.bool true) ∧ Below W.drew.heap.size W.drew w') := hide (fun W h => (plain_any (h.next (below_drew' W)).T HK.out).mono (by
          rintro e w' ⟨hE, hb⟩
          rcases hE with ⟨rfl, hp⟩ | ⟨rfl, hp⟩
          · exact ⟨by first | rfl | exact absurd hp HPL.out, hb⟩
          · exact ⟨by first | rfl | exact absurd HPL.out hp, hb⟩))
        have CX : Hid (∀ (W : World), GiS w q (.slice (some ⟨g, 0, none⟩) tx.length c1) (.slice a2 mg.length c2) tx mg p F v0 v1 b2 b3 (some ⟨g, 256, none⟩) (tx.length - 256) (tx.drop 256) W → Calls Try.prog 16 #[.pointer (some ⟨p, 0, none⟩)] W fun e w' => (∃ ae ce, e = .returned (.slice ae (tx.length - 256) ce) ∧ RdT w' ae (tx.length - 256) (tx.drop 256)) ∧ Below W.heap.size W w') := hide (fun W h => (export_any h.T HK.out).mono (by
          rintro e w' ⟨⟨ae, ne, ce, rfl, hne, hre⟩, hb⟩
          have h2 : ne = tx.length - 256 := hne.trans h.L.1
          subst h2
          exact ⟨⟨ae, ce, rfl, RdT.row hre hne.symm⟩, hb⟩))
        have CT : Hid (∀ (W : World) (ae : Option Addr) (ce : Nat), RdT W ae (tx.length - 256) (tx.drop 256) → GiS w q (.slice (some ⟨g, 0, none⟩) tx.length c1) (.slice a2 mg.length c2) tx mg p F v0 v1 b2 b3 (some ⟨g, 256, none⟩) (tx.length - 256) (tx.drop 256) W → Calls Try.prog 15 #[.slice ae (tx.length - 256) ce, .slice (some ⟨g, 256, none⟩) (tx.length - 256) (c1 - 256)] W fun e w' => e = .returned (.bool true) ∧ Below W.heap.size W w') := hide (fun W ae ce h1 h2 => texts_same W ae (some ⟨g, 256, none⟩) (tx.length - 256) ce (c1 - 256) (tx.drop 256) h1 h2.L (by omega))
        have h256i : (256 : Int) ≤ (tx.length : Int) := by omega
        go_wp2
        go_region_held3 (fun W => W.cell? ⟨q, 0, none⟩ = some (.slice (some ⟨g, 0, none⟩) tx.length c1)) (first | exact z0 | exact y0 | go_keep) (first
          | (go_at_call 22; refine (CP.out _ HS.out).mono ?_; rintro e W1 ⟨rfl, hb⟩; have hb2 := below_via' hb (below_drew' _); replace HS := hide (HS.out.next hb2); have z0 := HS.out.X.cells.1)
          | (go_at_call 16; refine (CX.out _ HS.out).mono ?_; rintro e W3 ⟨⟨ae, ce, rfl, hre⟩, hb2⟩; replace HS := hide (HS.out.next hb2); have z0 := HS.out.X.cells.1; have HRE := hide hre)
          | (go_at_call 15; refine (CT.out _ _ _ HRE.out HS.out).mono ?_; rintro e W4 ⟨rfl, hb2⟩; replace HS := hide (HS.out.next hb2); have z0 := HS.out.X.cells.1))
        all_goals
          clear CP CX CT HRE y0 y1 yf z0
          go_wp2
          go_loopw [11] (fun i wr => ∃ k : Nat, i = .int .i64 k ∧ 256 ≤ k ∧ k ≤ tx.length ∧ Hid (GiS w q (.slice (some ⟨g, 0, none⟩) tx.length c1) (.slice a2 mg.length c2) tx mg p F v0 v1 b2 b3 (some ⟨g, 256, none⟩) (tx.length - 256) (tx.drop 256) wr)) (fun i _ => tx.length - (intOf i).toNat)
          case atStart => exact ⟨256, by go_num, Nat.le_refl _, h256, HS⟩
          case round =>
            clear HS
            obtain ⟨k, rfl, hk1, hk2, HS⟩ := hrel
            obtain ⟨u0, u1, uf⟩ := HS.out.X.cells
            by_cases h6 : k < tx.length
            · have h6i : (k : Int) < (tx.length : Int) := by omega
              have hk0 : (0 : Int) ≤ (k : Int) := by omega
              obtain ⟨g', c', hv', hgl', hck⟩ := HS.out.R.text h6
              simp only [Value.slice.injEq, Option.some.injEq, Addr.mk.injEq] at hv'
              obtain ⟨⟨rfl, -, -⟩, -, -⟩ := hv'
              have HAL := hide (plain_alone HK.out HPL.out hk1 h6)
              have HEN := hide (encode_any wr HS.out.T HK.out (gs tx k) (by have := HK.out.sz k h6; omega))
              rw [HAL.out] at HEN
              generalize gs tx k = sk at *
              go_wp2_with fail
              refine (unhide HEN).mono ?_
              rintro e w9 ⟨⟨v, rfl, hv⟩, hb9⟩
              obtain ⟨ge, ce, hve, hgel, ce0⟩ := row_at hv (show 0 < [(k : Int)].length by simp)
              have hg0 : gI [(k : Int)] 0 = (k : Int) := rfl
              have hl1 : [(k : Int)].length = 1 := rfl
              rw [hg0] at ce0
              rw [hl1] at hve
              subst hve
              have HS9 := hide (HS.out.next hb9)
              clear hv hb9 hg0 hl1 HEN HAL u0 u1 uf hck HS
              go_wp2
              go_roundw
              case rel => exact ⟨k + 1, by go_num, by omega, by omega, HS9⟩
              case measure => simp [intOf]; omega
            · have h6i : ¬ (k : Int) < (tx.length : Int) := by omega
              go_wp2
              go_ret
              exact ⟨rfl, HS.out.B⟩
      · have HPL : Hid (¬ PlP (tx.drop 256) mg) := hide (fun h => he (HPD.out.1 h))
        rw [decide_eq_false he]
        clear he HPD
        obtain ⟨y0, y1, yf⟩ := HS.out.X.cells
        have CP : Hid (∀ (W : World), GiS w q (.slice (some ⟨g, 0, none⟩) tx.length c1) (.slice a2 mg.length c2) tx mg p F v0 v1 b2 b3 (some ⟨g, 256, none⟩) (tx.length - 256) (tx.drop 256) W → Calls Try.prog 22 #[.pointer (some ⟨p, 0, none⟩)] W.drew fun e w' => e = .returned (.bool false) ∧ Below W.drew.heap.size W.drew w') := hide (fun W h => (plain_any (h.next (below_drew' W)).T HK.out).mono (by
          rintro e w' ⟨hE, hb⟩
          rcases hE with ⟨rfl, hp⟩ | ⟨rfl, hp⟩
          · exact ⟨by first | rfl | exact absurd hp HPL.out, hb⟩
          · exact ⟨by first | rfl | exact absurd HPL.out hp, hb⟩))
        have CX : Hid (∀ (W : World), GiS w q (.slice (some ⟨g, 0, none⟩) tx.length c1) (.slice a2 mg.length c2) tx mg p F v0 v1 b2 b3 (some ⟨g, 256, none⟩) (tx.length - 256) (tx.drop 256) W → Calls Try.prog 16 #[.pointer (some ⟨p, 0, none⟩)] W fun e w' => (∃ ae ce, e = .returned (.slice ae (tx.length - 256) ce) ∧ RdT w' ae (tx.length - 256) (tx.drop 256)) ∧ Below W.heap.size W w') := hide (fun W h => (export_any h.T HK.out).mono (by
          rintro e w' ⟨⟨ae, ne, ce, rfl, hne, hre⟩, hb⟩
          have h2 : ne = tx.length - 256 := hne.trans h.L.1
          subst h2
          exact ⟨⟨ae, ce, rfl, RdT.row hre hne.symm⟩, hb⟩))
        have CT : Hid (∀ (W : World) (ae : Option Addr) (ce : Nat), RdT W ae (tx.length - 256) (tx.drop 256) → GiS w q (.slice (some ⟨g, 0, none⟩) tx.length c1) (.slice a2 mg.length c2) tx mg p F v0 v1 b2 b3 (some ⟨g, 256, none⟩) (tx.length - 256) (tx.drop 256) W → Calls Try.prog 15 #[.slice ae (tx.length - 256) ce, .slice (some ⟨g, 256, none⟩) (tx.length - 256) (c1 - 256)] W fun e w' => e = .returned (.bool true) ∧ Below W.heap.size W w') := hide (fun W ae ce h1 h2 => texts_same W ae (some ⟨g, 256, none⟩) (tx.length - 256) ce (c1 - 256) (tx.drop 256) h1 h2.L (by omega))
        have h256i : (256 : Int) ≤ (tx.length : Int) := by omega
        go_wp2
        go_region_held3 (fun W => W.cell? ⟨q, 0, none⟩ = some (.slice (some ⟨g, 0, none⟩) tx.length c1)) (first | exact z0 | exact y0 | go_keep) (first
          | (go_at_call 22; refine (CP.out _ HS.out).mono ?_; rintro e W1 ⟨rfl, hb⟩; have hb2 := below_via' hb (below_drew' _); replace HS := hide (HS.out.next hb2); have z0 := HS.out.X.cells.1)
          | (go_at_call 16; refine (CX.out _ HS.out).mono ?_; rintro e W3 ⟨⟨ae, ce, rfl, hre⟩, hb2⟩; replace HS := hide (HS.out.next hb2); have z0 := HS.out.X.cells.1; have HRE := hide hre)
          | (go_at_call 15; refine (CT.out _ _ _ HRE.out HS.out).mono ?_; rintro e W4 ⟨rfl, hb2⟩; replace HS := hide (HS.out.next hb2); have z0 := HS.out.X.cells.1))
        all_goals
          obtain ⟨u0, u1, uf⟩ := HS.out.X.cells
          have HB9 := hide HS.out.B
          clear CP CX CT HRE y0 y1 yf z0 HS
          go_wp2
          go_loopw [11] (fun i wr => i = .int .i64 256 ∧ wr = W4) (fun _ _ => 0)
          case atStart => exact ⟨by go_num, rfl⟩
          case round =>
            obtain ⟨rfl, rfl⟩ := hrel
            by_cases h6 : 256 < tx.length
            · have h6i : (256 : Int) < (tx.length : Int) := by omega
              go_wp2
              go_ret
              exact ⟨rfl, HB9.out⟩
            · have h6i : ¬ (256 : Int) < (tx.length : Int) := by omega
              first
                | (exfalso; omega)
                | (go_wp2; go_ret; exact ⟨rfl, HB9.out⟩)

end Go.Proofs.Ytlfffalfnnmliaa
