/- TrieNodes: the walk. -/
import Derived.Test.YtadbffphmmkljaaTrZ
import Derived.Deep.RegionHeld3
namespace Go.Proofs.Ytadbffphmmkljaa
open Go.RowKit Go.Maps Go.Shelf
set_option linter.unusedVariables false
set_option linter.unusedSimpArgs false
attribute [local go_sem ↓] Go.wp_at_zero Go.wp_at_succ

theorem TS.keepB {B r : Nat} {bk mp : List UInt8 → Option Nat} {U : List UInt8 → Nat} {I : List UInt8 → Option Nat} {N C : Nat} {W W' : World} (h : TS B r bk mp U I N C W) (hb : ∀ k, B ≤ k → k < W.heap.size → W'.heap[k]? = W.heap[k]?) : TS B r bk mp U I N C W' := by
  refine ⟨h.root, fun t b e => (h.node t b e).keep (hb b (h.low t b (Or.inl e)) (h.node t b e).lt), fun t mb e => (h.map t mb e).keep (hb mb (h.low t mb (Or.inr e)) (h.map t mb e).lt), h.noM, h.inj, h.injM, h.has, h.low, ?_⟩
  have hr := (h.node [] r h.root).lt
  rw [← h.cnt]
  simp only [World.cell?, hb r (h.low [] r (Or.inl h.root)) hr]
/-- A trie is as it was, whatever comes of what lies below it. -/
theorem Tri.keptF {B r : Nat} {tx : List ByteArray} {W W' : World} {F : List Nat} (h : Tri B r tx W) (hF : FrL F W W') (hB : ∀ k ∈ F, k < B) : Tri B r tx W' := by
  obtain ⟨N, bk, mp, h1, h2, _⟩ := h
  exact ⟨N, bk, mp, h1.keepB (fun k hk hl => hF.block k hl (fun e => by have := hB k e; omega)), h2, Below.refl _ _⟩
/-- Has any of the first j a beginning that is x's first k bytes? -/
def seeT (S : List (List UInt8)) (x : List UInt8) (k j : Nat) : Bool := (S.take j).any (fun s => (x.take k).isPrefixOf s)
theorem seeT_next (S : List (List UInt8)) (x : List UInt8) (k : Nat) {j : Nat} (hj : j < S.length) : seeT S x k (j + 1) = (seeT S x k j || (x.take k).isPrefixOf (S.getD j [])) := by
  unfold seeT
  rw [← List.take_append_getElem hj, List.any_append]
  simp [List.getD_eq_getElem?_getD, List.getElem?_eq_getElem hj]
theorem frT_at (S : List (List UInt8)) (X : List UInt8) {k : Nat} (h : 1 ≤ k) : frT S X k = frT S X (k - 1) + if S.any (fun s => (X.take k).isPrefixOf s) then 0 else 1 := by
  obtain ⟨j, rfl⟩ : ∃ j, k = j + 1 := ⟨k - 1, by omega⟩
  rfl
theorem wiT_nil (S : List (List UInt8)) : (wiT S []).length = S.length := by
  unfold wiT
  rw [List.filter_eq_self.2 (fun k _ => by simp)]
  simp
theorem frT_see (S : List (List UInt8)) (i k : Nat) : frT (S.take i) (S.getD i []) (k + 1) = frT (S.take i) (S.getD i []) k + if seeT S (S.getD i []) (k + 1) i then 0 else 1 := rfl

section
variable {w w7 : World} {q r g : Nat} {c1 c2 : Nat} {a2 : Option Addr} {tx : List ByteArray} {mg : List (Int × Int)}
theorem TbS.text (h : TbS w q r (.slice (some ⟨g, 0, none⟩) tx.length c1) (.slice a2 mg.length c2) tx mg w7) {k : Nat} (hk : k < tx.length) : w7.cell? ⟨g, k, none⟩ = some (.string (gs tx k)) := by
  obtain ⟨g', cap', hv', _, hc'⟩ := h.rt.text hk
  simp only [Value.slice.injEq, Option.some.injEq, Addr.mk.injEq, and_true] at hv'
  rw [hv'.1]
  exact hc'
end

set_option maxRecDepth 20000 in
set_option maxHeartbeats 8000000 in
theorem tnodes_walk (au : Option Addr) (nu cu : Nat) (U : List Int) (m : Int × Int) (w : World) (hU : ReadsH w au nu U) (hn : nu ≤ 9223372036854775807) {ρ : Ren} (Ly : Lays.n189 Try.prog ρ) (hf : ρ.f 189 = 28) :
    Calls Try.prog 4 #[.slice au nu cu, .agg #[.int .i64 m.1, .int .i64 m.2]] w fun e w' => e = .returned (.bool true) ∧ Below w.heap.size w w' := by
  have hl0 := low1 w (.cells #[.int .i64 m.1, .int .i64 m.2] 44)
  have hbm := heap_alloc_new w (.cells #[.int .i64 m.1, .int .i64 m.2] 44)
  have HA := hide (awake11_any Ly hf (w.alloc (.cells #[.int .i64 m.1, .int .i64 m.2] 44)))
  have HL0 := hide hl0
  by_cases h60 : 60 < nu
  · have g60 : (60 : Int) < (nu : Int) := by omega
    clear hU hl0 hbm
    go_enter Try.func4, Try.ntmps4
    go_wp2_with fail
    refine (unhide HA).mono ?_
    rintro e w2 ⟨rfl, hb2⟩
    have HB2 := hide (HL0.out.trans (hb2.mono HL0.out.size))
    clear hb2
    go_wp2
    go_ret
    exact ⟨rfl, HB2.out⟩
  have g60 : ¬ (60 : Int) < (nu : Int) := by omega
  have HU := hide (hU.kept hl0)
  have HBM := hide hbm
  have HQM : Hid (w.heap.size < (w.alloc (.cells #[.int .i64 m.1, .int .i64 m.2] 44)).heap.size) := hide (by simp)
  clear hU hl0 hbm
  go_enter Try.func4, Try.ntmps4
  go_wp2_with fail
  refine (unhide HA).mono ?_
  rintro e w2 ⟨rfl, hb2⟩
  have HB2 := hide (HL0.out.trans (hb2.mono HL0.out.size))
  have HM2 : Hid (w2.heap[w.heap.size]? = some (.cells #[.int .i64 m.1, .int .i64 m.2] 44 (0, 0)) ∧ w.heap.size < w2.heap.size) := hide ⟨by rw [hb2.block _ HQM.out]; exact HBM.out, Nat.lt_of_lt_of_le HQM.out hb2.size⟩
  have HG := hide (rgrow_any au nu cu U w2 (HU.out.kept hb2) (by omega))
  clear hb2 HA HU HQM HBM HL0
  go_wp2_with fail
  refine (unhide HG).mono ?_
  rintro e w3 ⟨⟨tx, mg, vb, vm, rfl, hR, hT⟩, hb3⟩
  obtain ⟨a1, c1, rfl⟩ := row_form hT.rb
  obtain ⟨a2, c2, rfl⟩ := row_form hT.rm
  have hl := low1 w3 (.cells #[.slice a1 tx.length c1, .slice a2 mg.length c2] 27)
  have hbx := heap_alloc_new w3 (.cells #[.slice a1 tx.length c1, .slice a2 mg.length c2] 27)
  have hT4 := hT.kept hl
  have hb24 : Below w2.heap.size w2 (w3.alloc (.cells #[.slice a1 tx.length c1, .slice a2 mg.length c2] 27)) := hb3.trans (hl.mono hb3.size)
  have HB4 := hide (HB2.out.trans (hb24.mono HB2.out.size))
  have HM4 : Hid ((w3.alloc (.cells #[.slice a1 tx.length c1, .slice a2 mg.length c2] 27)).heap[w.heap.size]? = some (.cells #[.int .i64 m.1, .int .i64 m.2] 44 (0, 0)) ∧ w.heap.size < (w3.alloc (.cells #[.slice a1 tx.length c1, .slice a2 mg.length c2] 27)).heap.size) := hide ⟨by rw [hb24.block _ HM2.out.2]; exact HM2.out.1, Nat.lt_of_lt_of_le HM2.out.2 hb24.size⟩
  have HN := hide (new_rch a2 c2 _ (hT4.reads rfl) hR)
  have y1 : (w3.alloc (.cells #[.slice a1 tx.length c1, .slice a2 mg.length c2] 27)).cell? ⟨w3.heap.size, 1, none⟩ = some (.slice a2 mg.length c2) := Lib.cell_of_heap hbx 1
  have HT4 := hide hT4
  have HBX := hide hbx
  have HK := hide hR.tok
  have HQ4 : Hid (w3.heap.size < (w3.alloc (.cells #[.slice a1 tx.length c1, .slice a2 mg.length c2] 27)).heap.size) := hide (by simp)
  clear hl hbx hT hT4 hb3 hb24 HG hR HM2 HB2
  go_wp2_with fail
  generalize w3.heap.size = q at *
  generalize w3.alloc (.cells #[.slice a1 tx.length c1, .slice a2 mg.length c2] 27) = w4 at *
  refine (unhide HN).mono ?_
  rintro e w5 ⟨⟨p, F, v0, v1, b2, b3, rfl, hTA, hF⟩, hb5⟩
  have HTR := hide (trienew_any hTA HK.out)
  have HB5 := hide hb5
  have HTA5 := hide hTA
  have HF := hide hF
  clear hTA hb5 HN y1 hF
  go_wp2_with fail
  refine (unhide HTR).mono ?_
  rintro e w7 ⟨r, rfl, hTr, hb7⟩
  have hb47 : Below w4.heap.size w4 w7 := HB5.out.trans (hb7.mono HB5.out.size)
  have HS : Hid (TbS w q r (.slice a1 tx.length c1) (.slice a2 mg.length c2) tx mg w7) := hide ⟨HB4.out.trans (hb47.mono HB4.out.size), HT4.out.kept hb47, by rw [hb47.block q HQ4.out]; exact HBX.out, _, hTr⟩
  have HTri := hide hTr
  have HTA := hide (HTA5.out.keptB hb7)
  have HFB : Hid (∀ k ∈ F, k < w5.heap.size) := hide (fun k hk => HTA5.out.flt k hk)
  have H57 := hide hb7.size
  have HM7 : Hid (w7.cell? ⟨w.heap.size, 0, none⟩ = some (.int .i64 m.1) ∧ w7.cell? ⟨w.heap.size, 1, none⟩ = some (.int .i64 m.2)) := hide (by
    have h := HM4.out.1
    rw [← hb47.block _ HM4.out.2] at h
    exact ⟨Lib.cell_of_heap h 0, Lib.cell_of_heap h 1⟩)
  have HRT4 := HT4
  have HQ47 := hide hb47
  clear hTr hb7 hb47 HTR HB5 HTA5 HM4
  have h256 : 256 ≤ tx.length := by have := HK.out.len; omega
  have h1000 : tx.length ≤ 1000 := HK.out.cap
  obtain ⟨g, cap, hv, hglt, -⟩ := HS.out.rt.text (i := 0) (by omega)
  simp only [Value.slice.injEq] at hv
  obtain ⟨rfl, -, rfl⟩ := hv
  clear hglt
  have HCL : Hid (∀ i, i ≤ tx.length → cnT (lsT tx) i ≤ 64001) := hide (fun i hi => by
    have := cnT_le (lsT tx) (lsT_64 HK.out) i (by rw [lsT_len]; exact hi)
    omega)
  go_wp2
  go_loopw [10, 11] (fun a i wr => ∃ (k : Nat), a = .int .i64 (cnT (lsT tx) k : Int) ∧ i = .int .i64 k ∧ k ≤ tx.length ∧ Hid (Below w7.heap.size w7 wr)) (fun _ i _ => tx.length - (intOf i).toNat)
  case atStart => exact ⟨0, rfl, rfl, Nat.zero_le _, hide (Below.refl _ _)⟩
  case round =>
    obtain ⟨i, rfl, rfl, hi, HL⟩ := hrel
    have HSR := hide (tbs_up HS.out HL.out)
    obtain ⟨y0, y1⟩ := HSR.out.cells
    by_cases hli : i < tx.length
    · have hi0 : (0 : Int) ≤ (i : Int) := by omega
      have hi1 : (i : Int) < (tx.length : Int) := by omega
      have HSZ := hide (HK.out.sz i hli)
      have HGD := hide (lsT_getD tx hli)
      have HX : Hid ((gs tx i).data.toList.length = (gs tx i).size) := hide (by simp)
      have HCN : Hid (cnT (lsT tx) (i + 1) = cnT (lsT tx) i + frT ((lsT tx).take i) (gs tx i).data.toList (gs tx i).size) := hide (by
        show cnT (lsT tx) i + frT ((lsT tx).take i) ((lsT tx).getD i []) ((lsT tx).getD i []).length = _
        rw [HGD.out, HX.out])
      have hcl := HCL.out i hi
      generalize cnT (lsT tx) i = ci at *
      generalize hx : gs tx i = x at *
      have HXE := hide hx
      clear hx
      generalize wr = w8 at *
      have HT8 : Hid (∀ W, Below w8.heap.size w8 W → W.cell? ⟨g, i, none⟩ = some (.string x)) := hide (fun W hb => by
        rw [← HXE.out]
        exact (tbs_up HSR.out hb).text hli)
      go_wp2
      go_loopw [10, 12] (fun a k wr => ∃ (kk : Nat), a = .int .i64 ((ci + frT ((lsT tx).take i) x.data.toList (kk - 1) : Nat) : Int) ∧ k = .int .i64 kk ∧ 1 ≤ kk ∧ kk ≤ x.size + 1 ∧ Hid (Below w8.heap.size w8 wr)) (fun _ k _ => x.size + 1 - (intOf k).toNat)
      case atStart => exact ⟨1, rfl, rfl, Nat.le_refl _, by omega, hide (Below.refl _ _)⟩
      case round =>
        obtain ⟨kk, rfl, rfl, hk1, hk2, HL8⟩ := hrel
        have z0 := HT8.out _ HL8.out
        have x0 := (tbs_up HSR.out HL8.out).cells.1
        by_cases hlk : kk ≤ x.size
        · have hk0 : (0 : Int) ≤ (kk : Int) := by omega
          have hk3 : (kk : Int) ≤ (x.size : Int) := by omega
          have hfr := frT_le ((lsT tx).take i) x.data.toList (kk - 1)
          have hsz := HSZ.out
          have HFA := hide (frT_at ((lsT tx).take i) x.data.toList hk1)
          have HEX := hide (ext_toList x hlk)
          generalize hce : ci + frT ((lsT tx).take i) x.data.toList (kk - 1) = ce at *
          have HCE := hide hce
          have hce2 : ce ≤ 64100 := by omega
          clear hce
          generalize wr = w9 at *
          have HT9 : Hid (∀ W, Below w9.heap.size w9 W → W.cell? ⟨g, i, none⟩ = some (.string x)) := hide (fun W hb => HT8.out W (below_st HL8.out hb))
          have HS9 := hide (tbs_up HSR.out HL8.out)
          go_wp2
          go_loopw [13, 14] (fun b j wr => ∃ (jj : Nat), b = .bool (seeT (lsT tx) x.data.toList kk jj) ∧ j = .int .i64 jj ∧ jj ≤ i ∧ Hid (Below w9.heap.size w9 wr)) (fun _ j _ => i - (intOf j).toNat)
          case atStart => exact ⟨0, rfl, rfl, Nat.zero_le _, hide (Below.refl _ _)⟩
          case round =>
            obtain ⟨jj, rfl, rfl, hj, HL9⟩ := hrel
            by_cases hlj : jj < i
            · have hj0 : (0 : Int) ≤ (jj : Int) := by omega
              have hj1 : (jj : Int) < (i : Int) := by omega
              have hj2 : (jj : Int) < (tx.length : Int) := by omega
              have hjt : jj < tx.length := by omega
              have HSN := hide (seeT_next (lsT tx) x.data.toList kk (j := jj) (by rw [lsT_len]; exact hjt))
              rw [lsT_getD tx hjt] at HSN
              have ne : Nonempty (Wn wr) := ⟨⟨_, Below.refl _ _⟩⟩
              cases hsb : seeT (lsT tx) x.data.toList kk jj with
              | true =>
                rw [hsb, Bool.true_or] at HSN
                go_wp2
                refine region_t (α := Wn wr) Wt.W (by kernel_rfl) (by kernel_rfl) ⟨_, below_dr⟩ rfl ?_
                repeat (go_big_quiet_step (fail))
                refine wpQuiet_nil ?_
                intro W1 hw'
                have hW : Below wr.heap.size wr W1 := by obtain ⟨p, rfl⟩ := hw'; exact p.h
                have HB1 := hide (below_st HL9.out hW)
                clear hW hw' ne HL9 hsb
                go_wp2
                exact ⟨⟨jj + 1, by rw [HSN.out], by go_num, by omega, HB1⟩, by simp [intOf]; omega⟩
              | false =>
                rw [hsb, Bool.false_or] at HSN
                have v0 : ∀ d : Wn wr, d.W.cell? ⟨q, 0, none⟩ = some (.slice (some ⟨g, 0, none⟩) tx.length c1) := fun d => (tbs_up HS9.out (below_st HL9.out d.h)).cells.1
                have v1 : ∀ d : Wn wr, d.W.cell? ⟨g, i, none⟩ = some (.string x) := fun d => HT9.out _ (below_st HL9.out d.h)
                have v2 : ∀ d : Wn wr, d.W.cell? ⟨g, jj, none⟩ = some (.string (gs tx jj)) := fun d => (tbs_up HS9.out (below_st HL9.out d.h)).text hjt
                have K1 : Hid (∀ d : Wn wr, Calls Try.prog 11 #[.string (gs tx jj), .string (x.extract 0 kk)] d.W fun e w' => e = .returned (.bool ((x.data.toList.take kk).isPrefixOf (gs tx jj).data.toList)) ∧ ∃ p : Wn wr, w' = p.W) := hide (fun d => (tbegins_any (gs tx jj) (x.extract 0 kk) d.W).mono (fun e w' ⟨h1, h2⟩ => by
                  rw [HEX.out] at h1
                  exact ⟨h1, d, h2⟩))
                generalize (x.data.toList.take kk).isPrefixOf (gs tx jj).data.toList = pb at *
                generalize gs tx jj = tj at *
                go_wp2
                refine region_t (α := Wn wr) Wt.W (by kernel_rfl) (by kernel_rfl) ⟨_, below_dr⟩ rfl ?_
                repeat (go_big_quiet_step (first | (go_at_call 11; with_reducible exact K1.out _)))
                refine wpQuiet_nil ?_
                intro W1 hw'
                have hW : Below wr.heap.size wr W1 := by obtain ⟨p, rfl⟩ := hw'; exact p.h
                have HB1 := hide (below_st HL9.out hW)
                clear hW hw' ne HL9 hsb v0 v1 v2 K1
                go_wp2
                exact ⟨⟨jj + 1, by rw [HSN.out], by go_num, by omega, HB1⟩, by simp [intOf]; omega⟩
            · obtain rfl : i = jj := by omega
              have HB8 := hide (below_st HL8.out HL9.out)
              cases hsb : seeT (lsT tx) x.data.toList kk i with
              | true =>
                have HNX : Hid (ce = ci + frT ((lsT tx).take i) x.data.toList (kk + 1 - 1)) := hide (by
                  rw [Nat.add_sub_cancel, HFA.out, ← HCE.out]
                  have h : ((lsT tx).take i).any (fun s => (x.data.toList.take kk).isPrefixOf s) = true := hsb
                  rw [if_pos h]
                  omega)
                clear hsb HL9
                go_wp2
                exact ⟨⟨kk + 1, by rw [← HNX.out], by go_num, by omega, by omega, HB8⟩, by simp [intOf]; omega⟩
              | false =>
                have HNX : Hid (ce + 1 = ci + frT ((lsT tx).take i) x.data.toList (kk + 1 - 1)) := hide (by
                  rw [Nat.add_sub_cancel, HFA.out, ← HCE.out]
                  have h : ¬ ((lsT tx).take i).any (fun s => (x.data.toList.take kk).isPrefixOf s) = true := by
                    have h2 : ((lsT tx).take i).any (fun s => (x.data.toList.take kk).isPrefixOf s) = false := hsb
                    rw [h2]
                    simp
                  rw [if_neg h]
                  omega)
                have hwce : IntKind.i64.wrap ((ce : Int) + 1) = (ce : Int) + 1 := by rw [IntKind.wrap_i64]; omega
                clear hsb HL9
                go_wp2
                exact ⟨⟨kk + 1, by rw [← HNX.out]; go_num, by go_num, by omega, by omega, HB8⟩, by simp [intOf]; omega⟩
        · have hks : kk - 1 = x.size := by omega
          have hkz : ¬ (kk : Int) ≤ (x.size : Int) := by omega
          have HB7 := hide (below_st HL.out HL8.out)
          rw [hks]
          have hce : ci + frT ((lsT tx).take i) x.data.toList x.size = cnT (lsT tx) (i + 1) := HCN.out.symm
          rw [hce]
          clear hks HL8 hce
          generalize hcn : cnT (lsT tx) (i + 1) = cn at *
          have HCE := hide hcn
          clear hcn
          go_wp2
          exact ⟨⟨i + 1, by rw [HCE.out], by go_num, by omega, HB7⟩, by simp [intOf]; omega⟩
    · obtain rfl : tx.length = i := by omega
      have HB7 := hide HL.out
      have HTr := hide (HTri.out.kept HL.out)
      have HWI := hide (tri_within Ly hf HTr.out HK.out ⟨#[97]⟩ (by decide))
      clear HL HSR HS HCL
      generalize hcc : cnT (lsT tx) tx.length = cc at *
      have HCC := hide hcc
      clear hcc
      go_wp2_with fail
      refine (unhide HWI).mono ?_
      rintro e w10 ⟨⟨aw, nw, cw, rfl, hnw, hrw⟩, hb10⟩
      clear y0 y1
      have HB10 := hide (HB7.out.trans (hb10.mono HB7.out.size))
      have HTr10 := hide (HTr.out.kept hb10)
      have HRW := hide hrw
      have HNW := hide hnw
      have h7s : w5.heap.size ≤ w7.heap.size := H57.out
      have HBW : Hid (w5.heap.size ≤ wr.heap.size) := hide (Nat.le_trans h7s HB7.out.size)
      have m0 := (HB10.out.cell (World.block_lt_of_cell? w7 _ HM7.out.1)).trans HM7.out.1
      have m1 := (HB10.out.cell (World.block_lt_of_cell? w7 _ HM7.out.2)).trans HM7.out.2
      have HAD := hide (add_any (HTA.out.keptB HB10.out) HK.out m)
      clear hrw hnw hb10 HWI HTr h7s
      go_wp2_with fail
      refine (unhide HAD).mono ?_
      rintro e w11 ⟨he, F2, v2, v3, -, hFr, -⟩
      obtain ⟨r0, r1, rfl⟩ : ∃ r0 r1, e = .returned (two r0 r1) := ⟨_, _, he⟩
      clear he
      have HT11 := hide (HTr10.out.keptF hFr HFB.out)
      have HRW11 := hide (row_frl HRW.out hFr (fun k hk hkF => by have h1 := (HRW.out.lt k hk).1; have h2 := HFB.out k hkF; have h3 := HBW.out; omega))
      have hb410 : Below w4.heap.size w4 w10 := HQ47.out.trans (HB10.out.mono HQ47.out.size)
      have HB11 : Hid (Below w.heap.size w w11) := hide ((HB4.out.trans (hb410.mono HB4.out.size)).trans (hFr.below (Nat.le_trans HB4.out.size hb410.size) (fun k hk => Nat.le_trans HB4.out.size (HF.out k hk))))
      have hq11 : w11.heap[q]? = some (.cells #[.slice (some ⟨g, 0, none⟩) tx.length c1, .slice a2 mg.length c2] 27 (0, 0)) := by
        rw [hFr.block q (Nat.lt_of_lt_of_le HQ4.out hb410.size) (fun e => by have := HF.out q e; have := HQ4.out; omega), hb410.block q HQ4.out]
        exact HBX.out
      have HY : Hid (∀ W, Below w11.heap.size w11 W → W.cell? ⟨q, 0, none⟩ = some (.slice (some ⟨g, 0, none⟩) tx.length c1)) := hide (fun W hb => by
        have h : W.heap[q]? = _ := (hb.block q (Array.getElem?_eq_some_iff.1 hq11).1).trans hq11
        exact Lib.cell_of_heap h 0)
      have HND := hide (fun (W : World) (hb : Below w11.heap.size w11 W) => tri_nodes (HT11.out.kept hb))
      rw [HCC.out] at HND
      have HWA := hide (fun (W : World) (hb : Below w11.heap.size w11 W) => tri_within Ly hf (HT11.out.kept hb) HK.out ⟨#[97]⟩ (by decide))
      have HWE := hide (fun (W : World) (hb : Below w11.heap.size w11 W) => tri_within Ly hf (HT11.out.kept hb) HK.out ⟨#[]⟩ (by decide))
      have HBE := hide (fun (W : World) (hb : Below w11.heap.size w11 W) => tri_begin (HT11.out.kept hb) ⟨#[]⟩ (by decide))
      have eW : (wiT (lsT tx) (⟨#[]⟩ : ByteArray).data.toList).length = tx.length := by
        show (wiT (lsT tx) []).length = tx.length
        rw [wiT_nil, lsT_len]
      have HLE : Hid (nw ≤ 1000) := hide (by have h := HNW.out; have h2 : (wiT (lsT tx) [97]).length ≤ (lsT tx).length := wiT_le (lsT tx) [97]; rw [lsT_len] at h2; have h3 : nw = (wiT (lsT tx) [97]).length := h; omega)
      rw [eW] at HWE
      rw [← HNW.out] at HWA
      have yq := HY.out _ (Below.refl _ _)
      have HBc := hide (below_dr (w := w11))
      clear HAD m0 m1 hFr hb410 hq11 HRW HTr10 HB10 HB7 eW HT11
      go_wp2
      go_region_held3 (fun W => W.cell? ⟨q, 0, none⟩ = some (.slice (some ⟨g, 0, none⟩) tx.length c1)) (first | exact yq | go_keep) (first
        | (go_at_call 19; with_reducible refine (HND.out _ HBc.out).mono ?_; rintro e W1 ⟨rfl, rfl⟩)
        | (go_at_call 16; first
            | (with_reducible refine (HWA.out _ HBc.out).mono ?_; rintro e W2 ⟨⟨ao, n, cap, rfl, rfl, hrow⟩, hb⟩; replace HBc := hide (below_st HBc.out hb); have HRA := hide hrow; have yq := HY.out _ HBc.out)
            | (with_reducible refine (HWE.out _ HBc.out).mono ?_; rintro e W2 ⟨⟨ao2, n2, cap2, rfl, rfl, hrow2⟩, hb⟩; replace HBc := hide (below_st HBc.out hb); have yq := HY.out _ HBc.out))
        | (go_at_call 14; with_reducible refine (tints_nv _ _ _ _ _ _ _ HRA.out (Mk.row_keptB HRW11.out HBc.out) HNW.out (by have := HLE.out; omega)).mono ?_; rintro e W3 ⟨rfl, hb⟩; replace HBc := hide (below_st HBc.out hb); have yq := HY.out _ HBc.out)
        | (go_at_call 15; with_reducible refine (HBE.out _ HBc.out).mono ?_; rintro e W4 ⟨⟨ao3, n3, cap3, rfl, rfl, hrow3⟩, hb⟩; replace HBc := hide (below_st HBc.out hb); have yq := HY.out _ HBc.out))
      all_goals
        have HBF := hide (HB11.out.trans (HBc.out.mono HB11.out.size))
        clear HND HWA HWE HBE HY HRW11
        go_wp2
        go_ret
        exact ⟨rfl, HBF.out⟩
end Go.Proofs.Ytadbffphmmkljaa
