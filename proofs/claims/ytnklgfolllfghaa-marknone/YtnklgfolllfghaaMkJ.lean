/- Contracts of package mark: New. -/
import Derived.Test.YtnklgfolllfghaaMkI
namespace Go.Proofs.Ytnklgfolllfghaa.Mk
open Go.RowKit Go.Maps
set_option linter.unusedVariables false
set_option linter.unusedSimpArgs false

/-- What New answers. -/
def NewP (w : World) (n : Nat) (L : List (Int × ByteArray)) (e : Ending) (w' : World) : Prop :=
  (∃ (k : Nat) (er : Int), ChkR L k er ∧ er ≠ 0 ∧ e = .returned (.tuple #[.pointer none, .int .i64 k, .int .i64 er])) ∨ (ChkR L n 0 ∧ ∃ p ao cap, e = .returned (.tuple #[.pointer (some ⟨p, 0, none⟩), .int .i64 n, .int .i64 0]) ∧ StV w' (.pointer (some ⟨p, 0, none⟩)) ao cap L)

set_option maxRecDepth 20000 in
set_option maxHeartbeats 8000000 in
theorem new_any (w : World) (ao : Option Addr) (n cap : Nat) (L : List (Int × ByteArray)) (h : RdS w ao n L) (hn : n ≤ 1000) :
    Calls Try.prog 10 #[.slice ao n cap] w fun e w' => NewP w n L e w' ∧ Below w.heap.size w w' := by
  have hln := h.1
  have HR := hide h
  have HLN := hide hln
  clear h hln
  have hmm := @run_makeMap Try.prog
  go_enter Try.func10, Try.ntmps10
  go_wp2
  clear hmm
  go_loopw [19] (fun i wr => ∃ (k : Nat) (ar : Option Addr) (cr : Nat), i = .int .i64 k ∧ k ≤ n ∧ Hid (∀ i, i < k → GoodAt L i) ∧ Hid (NwI w (w.heap.size + 1) w.heap.size (w.heap.size + 1 + 1) L k ar cr wr)) (fun i _ => n - (intOf i).toNat)
  case atStart => exact ⟨0, none, 0, rfl, Nat.zero_le _, hide (fun i hi => by omega), hide (NwI.start w L)⟩
  case round =>
    obtain ⟨k, ar, cr, rfl, hkn, HA, HI⟩ := hrel
    generalize hbb : w.heap.size + 1 + 1 = b2 at *
    generalize hpp : w.heap.size + 1 = p at *
    clear hbb hpp
    by_cases hlt : k < n
    · have hk0 : (0 : Int) ≤ (k : Int) := by omega
      have hk1 : (k : Int) < (n : Int) := by omega
      rcases HR.out.2 with h0 | ⟨b, off, rfl, hbl0, hc⟩
      · omega
      have c0 := (HI.out.bel.cell (p := ⟨b, _, none⟩) hbl0).trans (hc k hlt).1
      have c1 := (HI.out.bel.cell (p := ⟨b, _, none⟩) hbl0).trans (hc k hlt).2
      clear hc
      have HE1 : Hid (¬ rgt ((gS L k).1, (gS L k).2) → ErrAt L k 1) := hide (fun h => Or.inl ⟨h, rfl⟩)
      have HE3 : Hid (rgt ((gS L k).1, (gS L k).2) → 32 ≤ k → ErrAt L k 3) := hide (fun h h2 => Or.inr (Or.inl ⟨h, h2, rfl⟩))
      have HE10 : Hid (rgt ((gS L k).1, (gS L k).2) → k < 32 → (ik (gS L k).1 ∈ ids (L.take k) ∨ sk (gS L k).2 ∈ txs (L.take k)) → ErrAt L k 10) := hide (fun h h2 h3 => by
        have hkL : k ≤ L.length := by have := HLN.out; omega
        refine Or.inr (Or.inr ⟨h, h2, ?_, rfl⟩)
        rcases h3 with h3 | h3
        · obtain ⟨j, hj, e⟩ := (ids_not hkL _).1 h3
          exact ⟨j, hj, Or.inl e⟩
        · obtain ⟨j, hj, e⟩ := (txs_not hkL _).1 h3
          exact ⟨j, hj, Or.inr e⟩)
      have HGd : Hid (rgt ((gS L k).1, (gS L k).2) → k < 32 → ik (gS L k).1 ∉ ids (L.take k) → sk (gS L k).2 ∉ txs (L.take k) → GoodAt L k) := hide (fun h h2 h3 h4 => by
        have hkL : k ≤ L.length := by have := HLN.out; omega
        exact ⟨h, h2, fun j hj => ⟨fun e => h3 ((ids_not hkL _).2 ⟨j, hj, e⟩), fun e => h4 ((txs_not hkL _).2 ⟨j, hj, e⟩)⟩⟩)
      have HTK : Hid (L.take (k + 1) = L.take k ++ [((gS L k).1, (gS L k).2)]) := hide (take_succ_gS L (by have := HLN.out; omega))
      generalize (gS L k).1 = x1 at *
      generalize (gS L k).2 = x2 at *
      have hla := low1 wr (.cells #[.int .i64 x1, .string x2] 34)
      by_cases hr : rgt (x1, x2)
      · have KR := right_yes x1 x2 (wr.alloc (.cells #[.int .i64 x1, .string x2] 34)) hr
        have HIa := hide (HI.out.low hla)
        have hq1 : (wr.alloc (.cells #[.int .i64 x1, .string x2] 34)).heap[wr.heap.size]? = some (.cells #[.int .i64 x1, .string x2] 34 (0, 0)) := heap_alloc_new _ _
        have HQ := hide hq1
        have HRG := hide hr
        clear hla hr hq1
        go_wp2_with fail
        refine KR.mono ?_
        rintro e w1 ⟨rfl, hb1⟩
        have hq : w1.heap[wr.heap.size]? = some (.cells #[.int .i64 x1, .string x2] 34 (0, 0)) := (hb1.block _ (by simp)).trans HQ.out
        have HI1 := hide (HIa.out.low hb1)
        clear KR hb1 HIa HQ c0 c1
        by_cases h32 : 32 ≤ k
        · go_wp2
          refine bodyPost_ret (v := .tuple #[.pointer none, .int .i64 k, .int .i64 3]) (by simp [results, Try.results10, go_sem]) rfl ⟨Or.inl ⟨k, 3, ⟨HA.out, Or.inr ⟨by have := HLN.out; omega, HE3.out HRG.out h32⟩⟩, by decide, rfl⟩, HI1.out.bel⟩
        · generalize hqq : wr.heap.size = q at *
          have HBq : Hid (w.heap.size ≤ q) := hide (by rw [← hqq]; exact HI.out.bel.size)
          clear hqq
          have d0 : w1.cell? ⟨q, 0, none⟩ = some (.int .i64 x1) := by simp [World.cell?, hq]
          have d1 : w1.cell? ⟨q, 1, none⟩ = some (.string x2) := by simp [World.cell?, hq]
          have p0 := HI1.out.cell0
          have p1 := HI1.out.cell1
          have hx1 : wfI x1 := by have := HRG.out.1; have := HRG.out.2.1; simp only at *; exact ⟨by omega, by omega⟩
          have hx2 : x2.size ≤ 64 := HRG.out.2.2.2
          obtain ⟨v1, z1, hz1, hl1⟩ := look_id L k hx1
          obtain ⟨v2, z2, hz2, hl2⟩ := look_tx L k (x := x2) (by unfold maxLen; omega)
          have HL1 := hl1 w1.drew w.heap.size (HI1.out.m1.keep rfl)
          have HL2 := hl2 w1.drew b2 (HI1.out.m2.keep rfl)
          have HZ1 := hide hz1
          have HZ2 := hide hz2
          clear hl1 hl2 hz1 hz2
          have d0' : w1.drew.cell? ⟨q, 0, none⟩ = some (.int .i64 x1) := d0
          have d1' : w1.drew.cell? ⟨q, 1, none⟩ = some (.string x2) := d1
          have p1' : w1.drew.cell? ⟨p, 1, none⟩ = some (.map (some w.heap.size)) := p1
          have hq' : w1.drew.heap[q]? = some (.cells #[.int .i64 x1, .string x2] 34 (0, 0)) := hq
          have HI2 := hide (HI1.out.low (lowD (Below.refl _ _) 1))
          have HQ2 := hide hq'
          clear d0 d1 p0 p1 hq hq' HI1
          go_wp2
          go_region
          have HI3 : Hid (NwI w p w.heap.size b2 L k ar cr w1.drew) := HI2
          clear HI2
          generalize w1.drew = wd at *
          cases z1 with
          | true =>
            have hm := HZ1.out.1 rfl
            have HE := hide (HE10.out HRG.out (by omega) (Or.inl hm))
            clear hm
            go_wp2
            refine bodyPost_ret (v := .tuple #[.pointer none, .int .i64 k, .int .i64 10]) (by simp [results, Try.results10, go_sem]) rfl ⟨Or.inl ⟨k, 10, ⟨HA.out, Or.inr ⟨by have := HLN.out; omega, HE.out⟩⟩, by decide, rfl⟩, HI3.out.bel⟩
          | false =>
            cases z2 with
            | true =>
              have hm := HZ2.out.1 rfl
              have HE := hide (HE10.out HRG.out (by omega) (Or.inr hm))
              clear hm
              go_wp2
              refine bodyPost_ret (v := .tuple #[.pointer none, .int .i64 k, .int .i64 10]) (by simp [results, Try.results10, go_sem]) rfl ⟨Or.inl ⟨k, 10, ⟨HA.out, Or.inr ⟨by have := HLN.out; omega, HE.out⟩⟩, by decide, rfl⟩, HI3.out.bel⟩
            | false =>
              go_wp2
              have n1 : ik x1 ∉ ids (L.take k) := fun h => by have := HZ1.out.2 h; cases this
              have n2 : sk x2 ∉ txs (L.take k) := fun h => by have := HZ2.out.2 h; cases this
              have HG := hide (HGd.out HRG.out (by omega) n1 n2)
              have hlk : (L.take k).length = k := by rw [List.length_take, HLN.out]; omega
              have E1 : ∃ (st : Nat) (o1 o2 : Obj), (∀ w1 : World, w1.heap[w.heap.size]? = wd.heap[w.heap.size]? → (Instr.mapEntry 50 (.map (some w.heap.size)) (.int .i64 x1)).run Try.prog w1 = .ok (.tuple #[.int .i64 0, .int .i64 st]) (Go.ChangeMaps.setBlock w1 w.heap.size o1)) ∧ (∀ w2 : World, w2.heap[w.heap.size]? = some o1 → (Instr.entryStore 50 (.map (some w.heap.size)) (.int .i64 st) (.int .i64 (k : Int))).run Try.prog w2 = .ok () (Go.ChangeMaps.setBlock w2 w.heap.size o2)) ∧ (∀ w1 : World, w1.heap[w.heap.size]? = wd.heap[w.heap.size]? → (Instr.mapUpdate 50 (.map (some w.heap.size)) (.int .i64 x1) (.int .i64 (k : Int))).run Try.prog w1 = .ok () (Go.ChangeMaps.setBlock w1 w.heap.size o2)) ∧ ∀ w3 : World, w3.heap[w.heap.size]? = some o2 → MapK Try.prog 3 3 0 w3 w.heap.size (ids (L.take k) ++ [ik x1]) :=
                ent_new HI3.out.m1 keyI Try.underlying50 Try.underlying3 zeroI (ik_key hx1) n1 (by rw [ids, List.length_map, hlk]; unfold maxLen; omega) (by rw [ids, List.length_map, hlk]; omega) (WalkArith.wf_i64 (by omega))
              have E2 : ∃ (st : Nat) (o1 o2 : Obj), (∀ w1 : World, w1.heap[b2]? = wd.heap[b2]? → (Instr.mapEntry 53 (.map (some b2)) (.string x2)).run Try.prog w1 = .ok (.tuple #[.int .i64 0, .int .i64 st]) (Go.ChangeMaps.setBlock w1 b2 o1)) ∧ (∀ w2 : World, w2.heap[b2]? = some o1 → (Instr.entryStore 53 (.map (some b2)) (.int .i64 st) (.int .i64 (k : Int))).run Try.prog w2 = .ok () (Go.ChangeMaps.setBlock w2 b2 o2)) ∧ (∀ w1 : World, w1.heap[b2]? = wd.heap[b2]? → (Instr.mapUpdate 53 (.map (some b2)) (.string x2) (.int .i64 (k : Int))).run Try.prog w1 = .ok () (Go.ChangeMaps.setBlock w1 b2 o2)) ∧ ∀ w3 : World, w3.heap[b2]? = some o2 → MapK Try.prog 9 3 0 w3 b2 (txs (L.take k) ++ [sk x2]) :=
                ent_new HI3.out.m2 keyS Try.underlying53 Try.underlying3 zeroI (sk_key (by unfold maxLen; omega)) n2 (by rw [txs, List.length_map, hlk]; unfold maxLen; omega) (by rw [txs, List.length_map, hlk]; omega) (WalkArith.wf_i64 (by omega))
              obtain ⟨st, o0, o1, e1, e2, _, e4⟩ := E1
              obtain ⟨_, _, o2, _, _, f3, f4⟩ := E2
              have hne := HI3.out.ne
              have hl1 := HI3.out.m1.lt
              have hl2 := HI3.out.m2.lt
              have g1 := e1 wd.drew rfl
              have g2 := e1 (Go.ChangeMaps.setBlock wd.drew b2 o2) (sb_other _ _ hne)
              have g3 := e2 (Go.ChangeMaps.setBlock wd.drew w.heap.size o0) (sb_same _ _ hl1)
              have g4 := e2 (Go.ChangeMaps.setBlock (Go.ChangeMaps.setBlock wd.drew w.heap.size o0) b2 o2) (by rw [sb_other _ _ hne]; exact sb_same _ _ hl1)
              have g5 := e2 (Go.ChangeMaps.setBlock (Go.ChangeMaps.setBlock wd.drew b2 o2) w.heap.size o0) (sb_same _ _ (by rw [sb_size]; exact hl1))
              have g6 := f3 wd.drew rfl
              have g7 := f3 (Go.ChangeMaps.setBlock wd.drew w.heap.size o0) (sb_other _ _ (Ne.symm hne))
              have g8 := f3 (Go.ChangeMaps.setBlock (Go.ChangeMaps.setBlock wd.drew w.heap.size o0) w.heap.size o1) (by rw [sb_other _ _ (Ne.symm hne), sb_other _ _ (Ne.symm hne)]; rfl)
              have HE4 := hide e4
              have HF4 := hide f4
              have T1 := hide (two1 hne (w := wd.drew) hl1 hl2 o0 o1 o2)
              have T2 := hide (two2 hne (w := wd.drew) hl1 hl2 o0 o1 o2)
              have T3 := hide (two3 hne (w := wd.drew) hl1 hl2 o0 o1 o2)
              have hqb1 : q ≠ w.heap.size := fun e => by
                obtain ⟨es, c, hm⟩ := HI3.out.m1.isMap
                have := HQ2.out
                rw [e, hm] at this
                cases this
              have hqb2 : q ≠ b2 := fun e => by
                obtain ⟨es, c, hm⟩ := HI3.out.m2.isMap
                have := HQ2.out
                rw [e, hm] at this
                cases this
              have hpb1 := HI3.out.pb1
              have hpb2 := HI3.out.pb2
              have d0'' : wd.drew.cell? ⟨q, 0, none⟩ = some (.int .i64 x1) := d0'
              have d1'' : wd.drew.cell? ⟨q, 1, none⟩ = some (.string x2) := d1'
              have p1'' : wd.drew.cell? ⟨p, 1, none⟩ = some (.map (some w.heap.size)) := p1'
              clear e1 e2 e4 f3 f4 n1 n2 hlk HL1 HL2 d0' d1' p1' hl1 hl2 hne
              go_region_held3 (fun W => W.cell? ⟨p, 1, none⟩ = some (.map (some w.heap.size)) ∧ W.cell? ⟨q, 0, none⟩ = some (.int .i64 x1) ∧ W.cell? ⟨q, 1, none⟩ = some (.string x2)) ((refine ⟨?_, ?_, ?_⟩ <;> repeat (first | assumption | (rw [sb_cell _ _ (by assumption)])))) (fail)
              have HM := hide (HI3.out.mid T1.out HTK.out HE4.out HF4.out)
              have hqq : q ∉ [w.heap.size, b2] := by simp only [List.mem_cons, List.not_mem_nil, or_false, not_or]; exact ⟨hqb1, hqb2⟩
              have HQ3 := hide ((T1.out.fr.block q (Array.getElem?_eq_some_iff.1 HQ2.out).1 hqq).trans HQ2.out)
              clear T1 T2 T3 g1 g2 g3 g4 g5 g6 g7 g8 HE4 HF4 HI3 HQ2 hqq hqb1 hqb2 hpb1 hpb2 d0'' d1'' p1''
              generalize (Go.ChangeMaps.setBlock (Go.ChangeMaps.setBlock (Go.ChangeMaps.setBlock wd.drew w.heap.size o0) w.heap.size o1) b2 o2) = wn at *
              obtain ⟨i0, hii, hz0, hz1, hz2⟩ := info_parts info_special
              have hlt := HM.out.lt
              have hrow := HM.out.row
              have hpne := HM.out.pne
              have hst := HM.out.st
              have p0 : wn.cell? ⟨p, 0, none⟩ = some (.slice ar k cr) := by simp [World.cell?, hst]
              have pf : ∀ o, wn.frozen? ⟨p, o, none⟩ = false := fun o => by simp [World.frozen?, hst]
              have d0 : wn.cell? ⟨q, 0, none⟩ = some (.int .i64 x1) := by simp [World.cell?, HQ3.out]
              have d1 : wn.cell? ⟨q, 1, none⟩ = some (.string x2) := by simp [World.cell?, HQ3.out]
              have hsize := HM.out.bel.size
              have hone : ∀ u ∈ [Value.int .i64 x1, Value.string x2], u.oneCell' = true := by
                intro u hu
                simp only [List.mem_cons, List.not_mem_nil, or_false] at hu
                rcases hu with rfl | rfl <;> rfl
              clear hst
              go_wp2
              go_region_law ((refine step_append_lies _ (by rfl) _ _ _ (by rfl) w.heap.size 34 i0 _ 2 24 Try.underlying22 hii hz0 hz1 hz2 (by rfl) (by omega) _ k (sv (L.take k)) (by rfl) (by first | exact (hrow.alloc _).drew | exact hrow.drew.alloc _) _ 1 _ [Value.int .i64 x1, Value.string x2] (by rfl) (by rfl) (by first | exact World.news_of_block (heap_alloc_new wn _) | exact World.news_of_block (heap_alloc_new wn.drew _)) hone (by omega) (by unfold maxLen; omega) (by omega) (by simp; omega) (wn.heap.size + 1) (by simp) ?_; intro g cap1 w3 hown hgrow hat hlt3; have e1 : w3.cell? ⟨p, 0, none⟩ = some (.slice ar k cr) := (hgrow.cell_far ⟨p, 0, none⟩ (by simp; omega) hpne).trans (by first | exact (cell_old wn _ hlt).trans p0 | exact (cell_old wn.drew _ hlt).trans p0); have ef : w3.frozen? ⟨p, 0, none⟩ = false := (hgrow.frozen_far ⟨p, 0, none⟩ (by simp; omega) hpne).trans (by first | exact (frozen_old wn _ hlt).trans (pf 0) | exact (frozen_old wn.drew _ hlt).trans (pf 0))))
              all_goals
                have hgrow' : (wn.alloc (.cells #[.int .i64 x1, .string x2] 34)).drew.grownBy w3 (Value.slice ar k cr).ownBlock := hgrow
                have hat' : (Value.slice ar k cr).ownBlock = some g ∨ g = wn.heap.size + 1 := hat
                have HN := hide (HM.out.app HTK.out (lowD (low1 wn _) 1) (by simp [World.drewN]) hgrow' (by simpa [World.drewN] using hat') hown)
                have HG2 : Hid (∀ i, i < k + 1 → GoodAt L i) := hide (fun i hi => by
                  by_cases e : i = k
                  · subst e; exact HG.out
                  · exact HA.out i (by omega))
                clear hgrow hat hgrow' hat' hown e1 ef p0 pf d0 d1 hlt3 hrow hpne hone HM
                go_wp2
                exact ⟨⟨k + 1, _, _, by go_num, by omega, HG2, HN⟩, by simp [intOf]; omega⟩
      · have KR := right_no x1 x2 (wr.alloc (.cells #[.int .i64 x1, .string x2] 34)) hr
        have HB1 := hide (HI.out.bel.alloc HI.out.bel.size (.cells #[.int .i64 x1, .string x2] 34))
        have hsz := HB1.out.size
        have HRN := hide hr
        clear hla hr
        go_wp2_with fail
        refine KR.mono ?_
        rintro e w1 ⟨rfl, hb1⟩
        have HB2 := hide (HB1.out.trans (hb1.mono hsz))
        clear KR hb1 hsz c0 c1
        go_wp2
        refine bodyPost_ret (v := .tuple #[.pointer none, .int .i64 k, .int .i64 1]) (by simp [results, Try.results10, go_sem]) rfl ⟨Or.inl ⟨k, 1, ⟨HA.out, Or.inr ⟨by have := HLN.out; omega, HE1.out HRN.out⟩⟩, by decide, rfl⟩, HB2.out⟩
    · obtain rfl : k = n := by omega
      have HFI := HI.out
      go_wp2
      refine bodyPost_ret (v := .tuple #[.pointer (some ⟨p, 0, none⟩), .int .i64 k, .int .i64 0]) (by simp [results, Try.results10, go_sem]) rfl ⟨Or.inr ⟨⟨HA.out, Or.inl ⟨HLN.out.symm, rfl⟩⟩, p, ar, cr, rfl, ?_⟩, HI.out.bel⟩
      have hL : L.take k = L := List.take_of_length_le (by rw [HLN.out]; exact Nat.le_refl _)
      have h1 := HI.out.row
      have h2 := HI.out.m1
      rw [hL] at h1 h2
      have e : L.length = k := HLN.out
      exact ⟨by rw [e]; exact RdS.of_row h1, Or.inr ⟨p, w.heap.size, rfl, by rw [e]; exact HI.out.cell0, HI.out.cell1, h2⟩⟩
end Go.Proofs.Ytnklgfolllfghaa.Mk
