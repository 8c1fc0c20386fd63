/- HeapSorts: the walk. -/
import Derived.Test.YtdeenhmcifopfaaHpV
namespace Go.Proofs.Ytdeenhmcifopfaa
open Go.RowKit
set_option linter.unusedVariables false
set_option linter.unusedSimpArgs false
attribute [local go_sem ↓] Go.wp_at_zero Go.wp_at_succ

set_option maxRecDepth 20000 in
set_option maxHeartbeats 16000000 in
theorem sorts_walk (ao : Option Addr) (n cap : Nat) (A : List Th) (w : World) (hA : ReadsA w ao n A) (hn : n ≤ 9223372036854775807) :
    Calls Try.prog 4 #[.slice ao n cap] w fun e w' => e = .returned (.bool true) ∧ Below w.heap.size w w' := by
  by_cases hbig : 200 < n
  · have hb' : (200 : Int) < (n : Int) := by omega
    go_enter Try.func4, Try.ntmps4
    go_wp2_with fail
    refine (awake_any w).mono ?_
    rintro e w1 ⟨rfl, hb⟩
    go_wp2
    go_ret
    exact ⟨rfl, hb⟩
  · have hb' : ¬ (200 : Int) < (n : Int) := by omega
    have hb2 : decide ((200 : Int) < (n : Int)) = false := by simpa using hb'
    go_enter Try.func4, Try.ntmps4
    go_wp2_with fail
    refine (awake_any w).mono ?_
    rintro e w1 ⟨rfl, hb1⟩
    go_wp2_with fail
    refine (Hint.new_any w1).mono ?_
    rintro e w2 ⟨p, rfl, hH2, hb2⟩
    have hP0 : Pushed w A w1.heap.size p 0 (.slice none 0 0) [] w2 := ⟨hH2, Hp.nil, List.Perm.refl _, hb1.trans (hb2.mono hb1.size), hb1.size, hb2.size⟩
    generalize hbase : w1.heap.size = base at hP0
    clear hb1 hb2 hH2 hbase
    go_wp2
    go_loopw [4] (fun i wr => ∃ (j : Nat) (v : Value) (l : List It), i = .int .i64 j ∧ j ≤ n ∧ Pushed w A base p j v l wr) (fun i _ => n - (intOf i).toNat)
    case atStart => exact ⟨0, _, [], rfl, by omega, hP0⟩
    case round =>
      clear hP0
      obtain ⟨j, v, l, rfl, hj, hP⟩ := hrel
      by_cases hlt : j < n
      · have hA1 := hA.kept hP.low
        obtain ⟨b, off, rfl, hbw, k0, k1, k2⟩ := hA1.at hlt
        have hj0 : (0 : Int) ≤ (j : Int) := by omega
        have hj1 : (j : Int) < (n : Int) := by omega
        have hpush := Hint.push_any base p v j l wr.drew hP.hp.drew hP.ord (by rw [hP.len]; omega) ⟨by omega, by omega⟩ (gt A j).p (gt A j).i j hP.b1
        have hbb : b < w.heap.size := by
          rcases hA.2 with h | ⟨b', off', e, hc⟩
          · omega
          · cases e; exact World.block_lt_of_cell? w _ (hc j hlt).1
        have HPU := hide hpush
        have HP := hide hP
        clear hpush hA1 k0 hP
        generalize hae : gt A j = a at k1 k2 HPU
        have HAE := hide hae
        clear hae
        go_wp2
        go_region_held3 (fun W => W.cell? ⟨b, off + j * 3 + 1, none⟩ = some (.int .i64 a.p) ∧ W.cell? ⟨b, off + j * 3 + 2, none⟩ = some (.int .i64 a.i)) (go_keep) (first | (go_at_call 11; refine (unhide HPU).mono ?_; rintro e w2 ⟨rfl, v2, l2, hH2, hO2, hp2, hF2a, hN2a⟩; have hF2 : Fr p v wr w2 := (Fr.refl p v wr).drew.trans' hF2a; have hP2 := HP.out.next hH2 hO2 (by rw [actIt, HAE.out]; exact hp2) hF2; clear hF2a hN2a hH2 hp2; have hlow2 := hP2.low; have c1 : w2.cell? ⟨b, off + j * 3 + 1, none⟩ = some (.int .i64 a.p) := (bcell hlow2 hbb).trans ((bcell HP.out.low hbb).symm.trans k1); have c2 : w2.cell? ⟨b, off + j * 3 + 2, none⟩ = some (.int .i64 a.i) := (bcell hlow2 hbb).trans ((bcell HP.out.low hbb).symm.trans k2)))
        go_wp2
        first
        | exact ⟨⟨j + 1, v2, l2, by go_num, by omega, hP2⟩, by simp [intOf]; omega⟩
        | (go_roundw
           case rel => exact ⟨j + 1, v2, l2, by go_num, by omega, hP2⟩
           case measure => simp [intOf]; omega)
      · obtain rfl : n = j := by omega
        generalize wr = wA at hP
        go_wp2_with fail
        refine (Hint.new_any wA).mono ?_
        rintro e w3 ⟨p2, rfl, hH3, hb3⟩
        have hQ0 : Pushed wA A wA.heap.size p2 0 (.slice none 0 0) [] w3 := ⟨hH3, Hp.nil, List.Perm.refl _, hb3, Nat.le_refl _, hb3.size⟩
        generalize hbase2 : wA.heap.size = base2 at hQ0
        have HB2 := hide hbase2
        clear hb3 hH3 hbase2
        go_wp2
        go_loopw [6] (fun i wr => ∃ (j : Nat) (v : Value) (l : List It), i = .int .i64 j ∧ j ≤ n ∧ Pushed wA A base2 p2 j v l wr) (fun i _ => n - (intOf i).toNat)
        case atStart => exact ⟨0, _, [], rfl, by omega, hQ0⟩
        case round =>
          clear hQ0
          obtain ⟨j2, v2, l2, rfl, hj2, hQ⟩ := hrel
          by_cases hlt : j2 < n
          · have hA1 := hA.kept (hP.low.trans (hQ.low.mono hP.low.size))
            obtain ⟨b, off, rfl, hbw, k0, k1, k2⟩ := hA1.at hlt
            have hj0 : (0 : Int) ≤ (j2 : Int) := by omega
            have hj1 : (j2 : Int) < (n : Int) := by omega
            have hpush := Hint.push_any base2 p2 v2 j2 l2 wr.drew hQ.hp.drew hQ.ord (by rw [hQ.len]; omega) ⟨by omega, by omega⟩ (gt A j2).p (gt A j2).i j2 hQ.b1
            have hbb : b < w.heap.size := by
              rcases hA.2 with h | ⟨b', off', e, hc⟩
              · omega
              · cases e; exact World.block_lt_of_cell? w _ (hc j2 hlt).1
            have HPU := hide hpush
            have HQ := hide hQ
            clear hpush hA1 k0 hQ
            generalize hae : gt A j2 = a at k1 k2 HPU
            have HAE := hide hae
            clear hae
            go_wp2
            go_region_held3 (fun W => W.cell? ⟨b, off + j2 * 3 + 1, none⟩ = some (.int .i64 a.p) ∧ W.cell? ⟨b, off + j2 * 3 + 2, none⟩ = some (.int .i64 a.i)) (go_keep) (first | (go_at_call 11; refine (unhide HPU).mono ?_; rintro e w3 ⟨rfl, v3, l3, hH2, hO2, hp2, hF2a, hN2a⟩; have hF2 : Fr p2 v2 wr w3 := (Fr.refl p2 v2 wr).drew.trans' hF2a; have hP2 := HQ.out.next hH2 hO2 (by rw [actIt, HAE.out]; exact hp2) hF2; clear hF2a hN2a hH2 hp2; have hlow2 := hP.low.trans (hP2.low.mono hP.low.size); have hlow1 := hP.low.trans (HQ.out.low.mono hP.low.size); have c1 : w3.cell? ⟨b, off + j2 * 3 + 1, none⟩ = some (.int .i64 a.p) := (bcell hlow2 hbb).trans ((bcell hlow1 hbb).symm.trans k1); have c2 : w3.cell? ⟨b, off + j2 * 3 + 2, none⟩ = some (.int .i64 a.i) := (bcell hlow2 hbb).trans ((bcell hlow1 hbb).symm.trans k2)))
            go_wp2
            first
            | exact ⟨⟨j2 + 1, v3, l3, by go_num, by omega, hP2⟩, by simp [intOf]; omega⟩
            | (go_roundw
               case rel => exact ⟨j2 + 1, v3, l3, by go_num, by omega, hP2⟩
               case measure => simp [intOf]; omega)
          · obtain rfl : n = j2 := by omega
            have hx2 : ∀ a ∈ l2, ∃ z, a.x = .int .i64 z := by
              intro a ha
              obtain ⟨i, _, rfl⟩ := actIts_mem (hQ.perm.mem_iff.1 ha)
              exact ⟨_, rfl⟩
            generalize wr = wD at hQ
            go_wp2_with fail
            refine (drain_any base2 p2 v2 n l2 wD hQ.hp hQ.ord (by rw [hQ.len]; omega) hx2).mono ?_
            rintro e wE ⟨nv, v3, L, rfl, hLp, hLs, hrow, hH3, hF3⟩
            have hD : Drained A n L := ⟨hLp.trans hQ.perm, hLs⟩
            have hlowE : Below wA.heap.size wA wE := hQ.low.trans (hF3.below hQ.low.size (Nat.le_trans hQ.b0 hQ.hp.bp) (fun g e => Nat.le_trans hQ.b0 (hQ.hp.own_lt g e).1))
            have hH1 := hP.hp.kept hlowE
            obtain ⟨i0, hi, hz0, hz1, hz2⟩ := info_parts info_bool
            obtain ⟨ad, capd, hnv⟩ : ∃ ad capd, nv = .slice ad n capd := by
              have hl := hD.len
              rcases hrow.2 with ⟨rfl, h0⟩ | ⟨g, c, cur, rfl, _⟩
              · exact ⟨none, 0, by rw [← hl, h0]⟩
              · exact ⟨_, c, by rw [hl]⟩
            subst hnv
            obtain ⟨wF, hmk, hsn, hgr⟩ := run_make_full (P := Try.prog) wE wE.heap.size 39 4 i0 _ 1 Try.underlying39 hi hz0 hz1 .i64 .i64 n (by rw [hz2]; omega) (by unfold maxLen; omega) (Nat.le_refl _)
            have hbF : Below wE.heap.size wE wF := ⟨hgr.os, hgr.tape, hgr.output, hgr.size, fun k hk => hgr.block k hk (by simp)⟩
            have hN0 : Popping w base p 0 n v v l L wD.heap.size (.slice ad n capd) wE.heap.size 0 0 wF := by
              refine ⟨hH1.kept hbF, hP.ord, hP.perm.trans hD.perm.symm, rfl, ?_, ?_, fun h => by omega, (hP.low.trans (hlowE.mono hP.low.size)).trans (hbF.mono ?_), hP.b0, ?_, ?_, hF3.size, ?_⟩
              · have := row_kept hrow hbF
                rw [hD.len] at this
                exact this
              · have e : seenL n (L.take 0) = (madeCells (Value.bool false).cells (n * 1)).toList := by
                  rw [List.take_zero, seenL_nil, Nat.mul_one]
                  exact (toList_madeCells_one _ _).symm
                rw [e]
                exact hsn
              · exact (hP.low.trans (hlowE.mono hP.low.size)).size
              · have := hP.hp.lt; have := hQ.low.size; omega
              · intro k e; have := (hP.hp.own_lt k e).2; have := hQ.low.size; omega
              · intro k e; exact (hrow.lt k e).2
            generalize wE.heap.size = gs at hN0 hmk
            generalize wD.heap.size = B2 at hN0
            have HLE := hide (Hint.len_any base2 p2 v3 n [] wE hH3)
            clear hH3 hF3 hrow hLp hLs hH1 hlowE hsn hgr hbF hx2 hQ
            have HDR := hide hD
            clear hD
            go_wp2_with (go_at_call 16; refine (unhide HLE).mono ?_; rintro e w' ⟨rfl, hw⟩; have hw2 := hw.symm; clear hw; subst hw2)
            go_loopw [9, 10, 11] (fun c9 c10 i wr => ∃ (j : Nat) (rr pp : Int) (vv : Value) (ll : List It), c9 = .int .i64 rr ∧ c10 = .int .i64 pp ∧ i = .int .i64 j ∧ j ≤ n ∧ Popping w base p j n v vv ll L B2 (.slice ad n capd) gs rr pp wr) (fun _ _ i _ => n - (intOf i).toNat)
            case atStart => exact ⟨0, 0, 0, v, l, rfl, rfl, rfl, by omega, hN0⟩
            case round =>
              clear hN0
              obtain ⟨j, rr, pp, vv, ll, rfl, rfl, rfl, hj, hN⟩ := hrel
              have hD := HDR.out
              have hll : Hid (ll.length = n - j) := by rw [hN.perm.length_eq, List.length_drop, hD.len]; exact hide rfl
              by_cases hlt : j < n
              · obtain ⟨h0, hgi, htl⟩ := hD.top hN.ord hlt hN.perm
                obtain ⟨x, hx, hxe⟩ := hD.act hlt
                have hA1 := hA.kept hN.low
                obtain ⟨b, off, rfl, hbw, k0, k1, k2⟩ := hA1.at hx
                have hbb : b < w.heap.size := by
                  rcases hA.2 with h | ⟨b', off', e, hc⟩
                  · omega
                  · cases e; exact World.block_lt_of_cell? w _ (hc x hx).1
                obtain ⟨gd, rfl⟩ : ∃ gd, ad = some ⟨gd, 0, none⟩ := by
                  obtain ⟨g, c, e, _⟩ := hN.dr.form (by omega)
                  simp only [Value.slice.injEq] at e
                  exact ⟨g, e.1⟩
                have hnot := seen_not hD hlt
                have hlast := fun (h : 0 < j) => hD.le (i := j - 1) (j := j) (by omega) hlt
                rw [hxe] at hgi hnot
                have hj0 : (0 : Int) ≤ (j : Int) := by omega
                have hj1 : (j : Int) < (n : Int) := by omega
                have hx0 : (0 : Int) ≤ (x : Int) := by omega
                have hx1 : (x : Int) < (n : Int) := by omega
                go_wp2_with fail
                refine (Hint.pop_some base p vv n ll wr hN.hp hN.ord h0 (by rw [hll.out]; omega)).mono ?_
                rintro e w2 ⟨rfl, v2, l2, hH2, hO2, hp2, hF2, hv2⟩
                rw [hgi]
                simp only [actIt]
                have hN2 := hN.next hD hlt x hx hxe hH2 hO2 (hp2.trans htl) hF2 hv2
                have hd2 := row_fr hN.dr hF2 hN.sepD
                have hs2 := row_fr hN.sn hF2 hN.sepS
                have hlow2 : Below w.heap.size w w2 := hN.low.trans (hF2.below hN.low.size (Nat.le_trans hN.b0 hN.hp.bp) (fun g e => Nat.le_trans hN.b0 (hN.hp.own_lt g e).1))
                have c1 : w2.cell? ⟨b, off + x * 3 + 1, none⟩ = some (.int .i64 (gt A x).p) := (bcell hlow2 hbb).trans ((bcell hN.low hbb).symm.trans k1)
                have c2 : w2.cell? ⟨b, off + x * 3 + 2, none⟩ = some (.int .i64 (gt A x).i) := (bcell hlow2 hbb).trans ((bcell hN.low hbb).symm.trans k2)
                have cd : w2.cell? ⟨gd, j, none⟩ = some (.int .i64 x) := by
                  rw [hd2.cellAt j (by omega), List.getElem?_map, List.getElem?_eq_getElem (by rw [hD.len]; exact hlt), ← gi_lt L (by rw [hD.len]; exact hlt), hxe]
                  rfl
                have cs : w2.cell? ⟨gs, x, none⟩ = some (.bool false) := by
                  rw [hs2.cellAt x (by omega), seenL_get hx, ← hnot]
                  rfl
                have cf : w2.frozen? ⟨gs, x, none⟩ = false := hs2.frozenAt x
                have hl2 := hN.last
                rw [hxe] at hN2 hlast
                simp only [actIt] at hN2
                have HN2 := hide hN2
                have HLA : Hid (0 < j → ¬ (gt A x).p < rr ∧ ((gt A x).p = rr → ¬ (gt A x).i < pp)) := by
                  refine hide (fun h => ?_)
                  have h1 := hlast h
                  obtain ⟨e1, e2⟩ := hl2 h
                  rw [ltB_not] at h1
                  simp only [actIt] at h1
                  rw [e1, e2]
                  omega
                clear hN2 hd2 hs2 hlast hl2 k0 k1 k2 hxe hgi hnot htl hH2 hF2 hp2 hA1 hD
                generalize gt A x = a at c1 c2 HN2 HLA
                rcases (show j = 0 ∨ (0 < j ∧ a.p = rr) ∨ (0 < j ∧ ¬ a.p = rr) by omega) with hz | ⟨hz, hr⟩ | ⟨hz, hr⟩
                · subst hz
                  go_wp2
                  exact ⟨⟨0 + 1, a.p, a.i, v2, l2, rfl, rfl, by simp, by omega, HN2.out⟩, by simp [intOf]; omega⟩
                · have hi1 : ¬ a.i < pp := (HLA.out hz).2 hr
                  have hz1 : (0 : Int) < (j : Int) := by omega
                  have hb1 : decide (a.p < rr) = false := by simp; omega
                  have hb2 : (a.p == rr) = true := by simpa using hr
                  have hb3 : decide (a.i < pp) = false := by simp; omega
                  clear hr
                  go_wp2
                  exact ⟨⟨j + 1, a.p, a.i, v2, l2, rfl, rfl, by go_num, by omega, HN2.out⟩, by simp [intOf]; omega⟩
                · have hi1 : ¬ a.p < rr := (HLA.out hz).1
                  have hz1 : (0 : Int) < (j : Int) := by omega
                  have hb1 : decide (a.p < rr) = false := by simp; omega
                  have hb2 : (a.p == rr) = false := by simpa using hr
                  clear hr
                  go_wp2
                  exact ⟨⟨j + 1, a.p, a.i, v2, l2, rfl, rfl, by go_num, by omega, HN2.out⟩, by simp [intOf]; omega⟩
              · obtain rfl : n = j := by omega
                have hle : ll = [] := List.eq_nil_of_length_eq_zero (by rw [hll.out]; omega)
                subst hle
                have HLn := hide (Hint.len_any base p vv n [] wr hN.hp)
                have HB := hide hN.low
                go_wp2_with fail
                refine (Hint.pop_none base p vv n wr hN.hp).mono ?_
                rintro e w2 ⟨rfl, hw⟩
                have hw2 := hw.symm
                clear hw
                subst hw2
                go_wp2_with fail
                refine (unhide HLn).mono ?_
                rintro e w2 ⟨rfl, hw⟩
                have hw2 := hw.symm
                clear hw
                subst hw2
                go_wp2
                go_ret
                exact ⟨rfl, HB.out⟩

end Go.Proofs.Ytdeenhmcifopfaa
