/- HeapPlays: the walk. -/
import Derived.Test.YtdeenhmcifopfaaHpS
import Derived.Lib.AppendZeros
namespace Go.Proofs.Ytdeenhmcifopfaa
open Go.RowKit
set_option linter.unusedVariables false
set_option linter.unusedSimpArgs false
attribute [local go_sem ↓] Go.wp_at_zero Go.wp_at_succ

set_option maxRecDepth 20000 in
set_option maxHeartbeats 16000000 in
theorem plays_walk (ao : Option Addr) (n cap : Nat) (A : List Th) (w : World) (hA : ReadsA w ao n A) (hn : n ≤ 9223372036854775807) :
    Calls Try.prog 3 #[.slice ao n cap] w fun e w' => e = .returned (.bool true) ∧ Below w.heap.size w w' := by
  by_cases hbig : 200 < n
  · have hb' : (200 : Int) < (n : Int) := by omega
    go_enter Try.func3, Try.ntmps3
    go_wp2_with fail
    refine (awake_any w).mono ?_
    rintro e w1 ⟨rfl, hb⟩
    go_wp2
    go_ret
    exact ⟨rfl, hb⟩
  · have hb' : ¬ (200 : Int) < (n : Int) := by omega
    have hb2 : decide ((200 : Int) < (n : Int)) = false := by simpa using hb'
    go_enter Try.func3, Try.ntmps3
    go_wp2_with fail
    refine (awake_any w).mono ?_
    rintro e w1 ⟨rfl, hb1⟩
    go_wp2_with fail
    refine (Hint.new_any w1).mono ?_
    rintro e w2 ⟨p, rfl, hH2, hb2⟩
    have hP0 : PlayAt w w1.heap.size p 0 (.slice none 0 0) (.slice none 0 0) 0 [] [] w2 := ⟨hH2, Hp.nil, List.Perm.refl _, List.Pairwise.nil, fun a ha => (by cases ha), by omega, by omega, by simp, World.ownsRow_nil _ _ _ _, Sep.nil _ _, hb1.trans (hb2.mono hb1.size), hb1.size, hb2.size⟩
    generalize hbase : w1.heap.size = base at hP0
    clear hb1 hb2 hH2 hbase
    go_wp2
    go_loopw [4, 5] (fun c i wr => ∃ (j : Nat) (nv v : Value) (tn : Int) (l : List It) (N : List Th), c = nv ∧ i = .int .i64 j ∧ j ≤ n ∧ PlayAt w base p j nv v tn l N wr) (fun _ i _ => n - (intOf i).toNat)
    case atStart => exact ⟨0, _, _, 0, [], [], rfl, rfl, by omega, hP0⟩
    case round =>
      clear hP0
      obtain ⟨j, nv, v, tn, l, N, rfl, rfl, hj, hP⟩ := hrel
      have hll := hP.llen
      obtain ⟨an, capn, hnv⟩ := hP.form
      by_cases hlt : j < n
      · have hA1 := hA.kept hP.low
        obtain ⟨b, off, rfl, hbw, k0, k1, k2⟩ := hA1.at hlt
        obtain ⟨a, ha⟩ : ∃ a, gt A j = a := ⟨_, rfl⟩
        rw [ha] at k0 k1 k2
        clear ha hA1
        have hj0 : (0 : Int) ≤ (j : Int) := by omega
        have hj1 : (j : Int) < (n : Int) := by omega
        subst hnv
        have HLL := hide hll
        clear hll
        by_cases h3 : a.r = 3
        · have e0 : (a.r == 0) = false := by simp [h3]
          have e1 : (a.r == 1) = false := by simp [h3]
          have e2 : (a.r == 2) = false := by simp [h3]
          have e3 : (a.r == 3) = true := by simp [h3]
          clear h3
          go_wp2_with fail
          refine (Hint.clear_any base p v tn l wr hP.hp).mono ?_
          rintro e w2 ⟨rfl, v2, hH2, hF2, hv2⟩
          have hP2 := hP.clear hH2 hF2
          go_wp2_with fail
          refine (Hint.len_any base p v2 tn [] w2 hH2).mono ?_
          rintro e w3 ⟨rfl, hw⟩
          have hw2 := hw.symm
          clear hw
          subst hw2
          go_wp2
          go_roundw
          case rel => exact ⟨j + 1, _, v2, tn, [], [], rfl, by go_num, by omega, hP2⟩
          case measure => simp [intOf]; omega
        · by_cases h0 : a.r = 0
          · have e0 : (a.r == 0) = true := by simp [h0]
            clear h0 h3
            obtain ⟨i0, hi, hz0, hz1, hz2⟩ := info_parts info_thing
            have hpush := Hint.push_any base p v tn l wr.drew hP.hp.drew hP.ord (by rw [HLL.out]; have := hP.len; omega) ⟨hP.t0, by have := hP.t1; omega⟩ a.p a.i j (by have := hP.b1; exact this)
            have HPU := hide hpush
            clear hpush
            have hbb : b < w.heap.size := by
              rcases hA.2 with h | ⟨b', off', e, hc⟩
              · omega
              · cases e; exact World.block_lt_of_cell? w _ (hc j hlt).1
            go_wp2
            go_region_held3 (fun W => W.cell? ⟨b, off + j * 3 + 1, none⟩ = some (.int .i64 a.p) ∧ W.cell? ⟨b, off + j * 3 + 2, none⟩ = some (.int .i64 a.i)) (go_keep) (first | (go_at_call 11; refine (unhide HPU).mono ?_; rintro e w2 ⟨rfl, v2, l2, hH2, hO2, hp2, hF2a, hN2a⟩; have hF2 : Fr p v wr w2 := (Fr.refl p v wr).drew.trans' hF2a; have hN2 : Nw wr v v2 := hN2a; clear hF2a hN2a; have hlow2 := hP.fr hF2; have hA2 := hA.kept hlow2; have c1 : w2.cell? ⟨b, off + j * 3 + 1, none⟩ = some (.int .i64 a.p) := (bcell hlow2 hbb).trans ((bcell hP.low hbb).symm.trans k1); have c2 : w2.cell? ⟨b, off + j * 3 + 2, none⟩ = some (.int .i64 a.i) := (bcell hlow2 hbb).trans ((bcell hP.low hbb).symm.trans k2)))
            go_wp2
            have hrow2 := row_fr hP.row hF2 hP.sep
            have hsz2 := hlow2.size
            have hb2z : base ≤ w2.heap.size := by have := hP.b1; have := hF2.size; omega
            have hbne : some b ≠ (Value.slice an N.length capn).ownBlock := fun e => by have := (hP.row.lt b e.symm).1; have := hP.b0; omega
            have hN200 : N.length ≤ 200 := by have := hP.len; omega
            have hl3 : (Th.cells ⟨a.p, a.i, tn, j⟩).length = 1 * 3 := rfl
            have hone3 : ∀ u ∈ Th.cells ⟨a.p, a.i, tn, j⟩, u.oneCell' = true := by
              intro u hu
              simp only [Th.cells, List.mem_cons, List.not_mem_nil, or_false] at hu
              rcases hu with rfl | rfl | rfl <;> rfl
            have hq1 : w2.heap.size ≠ b := by omega
            have hq2 : b ≠ w2.heap.size := by omega
            clear hA2 k0 k1 k2 HPU
            go_region_held3 (fun W => W.cell? ⟨b, off + j * 3 + 1, none⟩ = some (.int .i64 a.p) ∧ W.cell? ⟨b, off + j * 3 + 2, none⟩ = some (.int .i64 a.i)) (first | go_keep | (refine ⟨(hgrow.cell_far ⟨b, off + j * 3 + 1, none⟩ (by simp; omega) hbne).trans ?_, (hgrow.cell_far ⟨b, off + j * 3 + 2, none⟩ (by simp; omega) hbne).trans ?_⟩ <;> go_keep)) ((refine step_append_lies _ (by rfl) _ _ _ (by rfl) base 31 i0 _ 3 24 Try.underlying26 hi hz0 hz1 hz2 (by rfl) (by omega) _ N.length (fl3 N) (by rfl) (by first | exact (hrow2.alloc _).drew | exact hrow2.drew.alloc _) _ 1 _ (Th.cells ⟨a.p, a.i, tn, j⟩) (by rfl) hl3 (by first | exact World.news_of_block (heap_alloc_new w2 _) | exact World.news_of_block (heap_alloc_new w2.drew _)) hone3 (by omega) (by unfold maxLen; omega) (by omega) (by simp; omega) (w2.heap.size + 1) (by simp) ?_; intro g cap1 w3 hown1 hgrow hat hlt1))
            all_goals
              have hP3 := hP.pushed a.p a.i hH2 hO2 hp2 hF2 hN2 _ hown1 hgrow hat
              have HL3 := hide (hP3.llen)
              have HLn := hide (Hint.len_any base p v2 (tn + 1) l2 w3 hP3.hp)
              rw [HL3.out, List.length_append] at HLn
              clear hown1 hgrow hat hrow2 c1 c2 hone3 hH2 hF2 hN2
              go_wp2_with fail
              refine (unhide HLn).mono ?_
              rintro e w4 ⟨rfl, hw⟩
              have hw2 := hw.symm
              clear hw
              subst hw2
              go_wp2
              exact ⟨⟨j + 1, _, v2, tn + 1, l2, _, rfl, by go_num, by omega, hP3⟩, by simp [intOf]; omega⟩
          · by_cases h1 : a.r = 1
            · have e0 : (a.r == 0) = false := by simpa using h0
              have e1 : (a.r == 1) = true := by simpa using h1
              clear h0 h1 h3
              by_cases hN0 : N.length = 0
              · have hNe : N = [] := List.eq_nil_of_length_eq_zero hN0
                subst hNe
                have hle : l = [] := List.eq_nil_of_length_eq_zero (by rw [HLL.out]; rfl)
                subst hle
                go_wp2_with fail
                refine (Hint.pop_none base p v tn wr hP.hp).mono ?_
                rintro e w3 ⟨rfl, hw⟩
                have hw2 := hw.symm
                clear hw
                subst hw2
                go_wp2
                first
                | exact ⟨⟨j + 1, _, v, tn, [], [], rfl, by go_num, by omega, hP.next⟩, by simp [intOf]; omega⟩
                | (go_roundw
                   case rel => exact ⟨j + 1, _, v, tn, [], [], rfl, by go_num, by omega, hP.next⟩
                   case measure => simp [intOf]; omega)
              · have hNp : 0 < N.length := by omega
                have hNb : ((N.length : Int) == 0) = false := by simp; intro e; simp [e] at hN0
                have hN200 : N.length ≤ 200 := by have := hP.len; omega
                obtain ⟨g, rfl⟩ : ∃ g, an = some ⟨g, 0, none⟩ := by
                  obtain ⟨g, c, e, _⟩ := hP.row.form hNp
                  simp only [Value.slice.injEq] at e
                  exact ⟨g, e.1⟩
                have hbb : b < w.heap.size := by
                  rcases hA.2 with h | ⟨b', off', e, hc⟩
                  · omega
                  · cases e; exact World.block_lt_of_cell? w _ (hc j hlt).1
                have hlp : 0 < l.length := by rw [HLL.out]; exact hNp
                obtain ⟨i0, hi, hz0, hz1, hz2⟩ := info_parts info_thing
                go_wp2_with fail
                refine (Hint.pop_some base p v tn l wr hP.hp hP.ord hlp (by rw [HLL.out]; omega)).mono ?_
                rintro e w2 ⟨rfl, v2, l2, hH2, hO2, hp2, hF2, hv2⟩
                have hR2 := row_fr hP.row hF2 hP.sep
                have hlow2 := hP.fr hF2
                go_wp2_with fail
                refine (least_any base g capn N w2 hR2 hNp (by omega)).mono ?_
                rintro e w3 ⟨⟨k, rfl, hk, hmin⟩, hb3⟩
                obtain ⟨_, hgi, htl⟩ := hP.came.top hP.ord hP.perm hk hmin
                rw [hgi]
                simp only [Th.it]
                have hR3 := row_kept hR2 hb3
                have hH3 := hH2.kept hb3
                have hF3 := hF2.trans' (Fr.ofBelow hb3)
                have hlow3 := hlow2.trans (hb3.mono hlow2.size)
                have hp3 := hp2.trans htl
                obtain ⟨r0, r1, r2⟩ := row3_at hR3 hk
                have c0 : w3.cell? ⟨b, off + j * 3, none⟩ = some (.int .i64 a.r) := (bcell hlow3 hbb).trans ((bcell hP.low hbb).symm.trans k0)
                have hk0 : (0 : Int) ≤ (k : Int) := by omega
                have hk1 : (k : Int) < (N.length : Int) := by omega
                have hcap : N.length ≤ capn := by
                  rcases hR3.2 with ⟨h0, _⟩ | ⟨g', c', cur, e, _, _, hc, _⟩
                  · cases h0
                  · simp only [Value.slice.injEq] at e; omega
                have hk2 : (k : Int) ≤ (capn : Int) := by omega
                have hk3 : (k : Int) + 1 ≤ (N.length : Int) := by omega
                have HH3 := hide hH3
                have HF3 := hide hF3
                have HR3 := hide hR3
                have HP3 := hide hp3
                generalize gt N k = th at r0 r1 r2
                clear hgi hmin k0 k1 k2 hb3 hR2 hR3 hH2 hF2 hp2 htl hH3 hF3 hlow2 hp3
                have hcells : ∀ (m s : Nat), s + m ≤ N.length → ∀ q u, (fl3 ((N.drop s).take m))[q]? = some u → w3.cell? ((⟨g, s * 3, none⟩ : Addr).add q) = some u := by
                  intro m s hms q u hu
                  rw [fl3_take, fl3_drop] at hu
                  have hq : q < m * 3 := by
                    rw [List.getElem?_take] at hu
                    split at hu
                    · assumption
                    · cases hu
                  rw [List.getElem?_take_of_lt hq, List.getElem?_drop] at hu
                  have ha : (⟨g, s * 3, none⟩ : Addr).add q = ⟨g, s * 3 + q, none⟩ := by unfold Addr.add; split <;> simp_all
                  rw [ha, HR3.out.cellAt _ (by omega)]
                  exact hu
                have hbz : base ≤ w3.heap.size := by have := hP.b1; have := HF3.out.size; omega
                have HE := hide (List.eraseIdx_eq_take_drop_succ N k)
                obtain ⟨rv, w4, hrun1, hown4, hgr4, _, hat4⟩ := run_append_own_at (P := Try.prog) w3 base 26 26 31 i0 _ 3 24 Try.underlying26 hi hz0 hz1 hz2 rfl (by omega) (.slice none 0 0) 0 [] (World.ownsRow_nil _ _ _ _) ⟨g, 0, none⟩ k capn (fl3 (N.take k)) (by rw [fl3_len, List.length_take]; omega) (by have := hcells k 0 (by omega); simpa using this) (fl3_one _) (by unfold maxLen; omega) (by omega) hbz
                simp only [Nat.zero_add, List.nil_append] at hrun1 hown4
                have hb4 : Below w3.heap.size w3 w4 := ⟨hgr4.os, hgr4.tape, hgr4.output, hgr4.size, fun q hq => hgr4.block q hq (by simp [Value.ownBlock])⟩
                have hgl : g < w3.heap.size := (HR3.out.lt g rfl).2
                obtain ⟨ad, had, hadd⟩ : ∃ ad : Addr, (capn = k + 1 → ad = ⟨g, 0, none⟩) ∧ (¬ capn = k + 1 → ad = ⟨g, (k + 1) * 3, none⟩) := by
                  by_cases hc : capn = k + 1
                  · exact ⟨_, fun _ => rfl, fun h => absurd hc h⟩
                  · exact ⟨_, fun h => absurd h hc, fun _ => rfl⟩
                obtain ⟨rv2, w6, hrun2, hown6, hgr6, _, hat6⟩ := run_append_own_at (P := Try.prog) w4 base 26 26 31 i0 _ 3 24 Try.underlying26 hi hz0 hz1 hz2 rfl (by omega) rv k (fl3 (N.take k)) hown4 ad (N.length - (k + 1)) (capn - (k + 1)) (fl3 (N.drop (k + 1))) (by rw [fl3_len, List.length_drop]) (by
                  intro q u hu
                  have hq : q < (N.length - (k + 1)) * 3 := by
                    have := (List.getElem?_eq_some_iff.1 hu).1
                    rw [fl3_len, List.length_drop] at this
                    exact this
                  rw [hadd (by omega)]
                  have h1 := hcells (N.length - (k + 1)) (k + 1) (by omega) q u (by rw [List.take_of_length_le (by rw [List.length_drop]; exact Nat.le_refl _)]; exact hu)
                  rw [← h1]
                  exact hb4.cell (by unfold Addr.add; split <;> exact hgl)) (fl3_one _) (by unfold maxLen; omega) (by omega) (Nat.le_trans hbz hb4.size)
                have hb6 : Below w3.heap.size w3 w6 := hb4.trans ⟨hgr6.os, hgr6.tape, hgr6.output, hgr6.size, fun q hq => hgr6.block q (Nat.lt_of_lt_of_le hq hb4.size) (fun e => by
                  rcases hat4 with h | h
                  · rw [h] at e; cases e
                  · rw [h] at e; have := Option.some.inj e; omega)⟩
                have hn6 : ∀ q, rv2.ownBlock = some q → w3.heap.size ≤ q := by
                  intro q e
                  rcases hat6 with h | h
                  · rw [h] at e
                    rcases hat4 with h | h
                    · rw [h] at e; cases e
                    · rw [h] at e; have := Option.some.inj e; omega
                  · rw [h] at e; have := Option.some.inj e; have := hb4.size; omega
                have hke : k + (N.length - (k + 1)) = (N.eraseIdx k).length := by rw [List.length_eraseIdx, if_pos hk]; omega
                rw [← fl3_append, ← HE.out, hke] at hown6
                have hP4 := hP.popped k hk HH3.out hO2 HP3.out HF3.out hb6 hown6 hn6
                obtain ⟨an4, cap4, e4⟩ := hP4.form
                subst e4
                have HL4 := hide hP4.llen
                have HE4 := hide hP4
                have HR1 := hide hrun1
                have HR2 := hide hrun2
                clear hown4 hgr4 hat4 hb4 hown6 hgr6 hat6 hb6 hn6 hP4 hcells hke hrun1 hrun2
                rcases (show capn = k + 1 ∨ ¬ capn = k + 1 by omega) with hc | hc
                · obtain rfl := had hc
                  subst hc
                  have hNk : N.length - (k + 1) = 0 := by omega
                  rw [hNk, Nat.sub_self] at HR2
                  clear had hadd
                  go_wp2_with (at_builtin; first | (refine Lib.wpList_append_run _ rfl _ _ _ _ rfl _ _ rfl rfl _ _ HR1.out ?_; clear HR1) | (refine Lib.wpList_append_run _ rfl _ _ _ _ rfl _ _ rfl rfl _ _ HR2.out ?_; clear HR2))
                  have hP4 := HE4.out
                  refine (Hint.len_any base p v2 tn l2 w6 hP4.hp).mono ?_
                  rw [HL4.out]
                  rintro e w7 ⟨rfl, hw⟩
                  have hw2 := hw.symm
                  clear hw
                  subst hw2
                  go_wp2
                  first
                  | exact ⟨⟨j + 1, _, v2, tn, l2, _, rfl, by go_num, by omega, hP4⟩, by simp [intOf]; omega⟩
                  | (go_roundw
                     case rel => exact ⟨j + 1, _, v2, tn, l2, _, rfl, by go_num, by omega, hP4⟩
                     case measure => simp [intOf]; omega)
                · obtain rfl := hadd hc
                  clear had hadd
                  go_wp2_with (at_builtin; first | (refine Lib.wpList_append_run _ rfl _ _ _ _ rfl _ _ rfl rfl _ _ HR1.out ?_; clear HR1) | (refine Lib.wpList_append_run _ rfl _ _ _ _ rfl _ _ rfl rfl _ _ HR2.out ?_; clear HR2))
                  have hP4 := HE4.out
                  refine (Hint.len_any base p v2 tn l2 w6 hP4.hp).mono ?_
                  rw [HL4.out]
                  rintro e w7 ⟨rfl, hw⟩
                  have hw2 := hw.symm
                  clear hw
                  subst hw2
                  go_wp2
                  first
                  | exact ⟨⟨j + 1, _, v2, tn, l2, _, rfl, by go_num, by omega, hP4⟩, by simp [intOf]; omega⟩
                  | (go_roundw
                     case rel => exact ⟨j + 1, _, v2, tn, l2, _, rfl, by go_num, by omega, hP4⟩
                     case measure => simp [intOf]; omega)
            · by_cases h2 : a.r = 2
              · have e0 : (a.r == 0) = false := by simpa using h0
                have e1 : (a.r == 1) = false := by simpa using h1
                have e2 : (a.r == 2) = true := by simpa using h2
                clear h0 h1 h2 h3
                by_cases hN0 : N.length = 0
                · have hNe : N = [] := List.eq_nil_of_length_eq_zero hN0
                  subst hNe
                  have hle : l = [] := List.eq_nil_of_length_eq_zero (by rw [HLL.out]; rfl)
                  subst hle
                  go_wp2_with fail
                  refine (Hint.peek_none base p v tn wr hP.hp).mono ?_
                  rintro e w3 ⟨rfl, hw⟩
                  have hw2 := hw.symm
                  clear hw
                  subst hw2
                  go_wp2
                  first
                  | exact ⟨⟨j + 1, _, v, tn, [], [], rfl, by go_num, by omega, hP.next⟩, by simp [intOf]; omega⟩
                  | (go_roundw
                     case rel => exact ⟨j + 1, _, v, tn, [], [], rfl, by go_num, by omega, hP.next⟩
                     case measure => simp [intOf]; omega)
                · have hNp : 0 < N.length := by omega
                  have hNb : ((N.length : Int) == 0) = false := by simp; intro e; simp [e] at hN0
                  have hN200 : N.length ≤ 200 := by have := hP.len; omega
                  obtain ⟨g, rfl⟩ : ∃ g, an = some ⟨g, 0, none⟩ := by
                    obtain ⟨g, c, e, _⟩ := hP.row.form hNp
                    simp only [Value.slice.injEq] at e
                    exact ⟨g, e.1⟩
                  have hbb : b < w.heap.size := by
                    rcases hA.2 with h | ⟨b', off', e, hc⟩
                    · omega
                    · cases e; exact World.block_lt_of_cell? w _ (hc j hlt).1
                  go_wp2_with fail
                  refine (Hint.peek_some base p v tn l wr hP.hp (by rw [HLL.out]; exact hNp)).mono ?_
                  rintro e w2 ⟨rfl, hb2⟩
                  have hP2 := hP.kept hb2
                  go_wp2_with fail
                  refine (least_any base g capn N w2 hP2.row hNp (by omega)).mono ?_
                  rintro e w3 ⟨⟨k, rfl, hk, hmin⟩, hb3⟩
                  have hP3 := hP2.kept hb3
                  obtain ⟨_, hgi, _⟩ := hP.came.top hP.ord hP.perm hk hmin
                  rw [hgi]
                  simp only [Th.it]
                  obtain ⟨r0, r1, r2⟩ := row3_at hP3.row hk
                  generalize gt N k = th at r0 r1 r2
                  have c0 : w3.cell? ⟨b, off + j * 3, none⟩ = some (.int .i64 a.r) := (bcell hP3.low hbb).trans ((bcell hP.low hbb).symm.trans k0)
                  have hk0 : (0 : Int) ≤ (k : Int) := by omega
                  have hk1 : (k : Int) < (N.length : Int) := by omega
                  have HLn := hide (Hint.len_any base p v tn l w3 hP3.hp)
                  rw [HLL.out] at HLn
                  clear hgi hmin k0 k1 k2 hb2 hb3 hP2
                  go_wp2_with fail
                  refine (unhide HLn).mono ?_
                  rintro e w4 ⟨rfl, hw⟩
                  have hw2 := hw.symm
                  clear hw
                  subst hw2
                  go_wp2
                  first
                  | exact ⟨⟨j + 1, _, v, tn, l, N, rfl, by go_num, by omega, hP3.next⟩, by simp [intOf]; omega⟩
                  | (go_roundw
                     case rel => exact ⟨j + 1, _, v, tn, l, N, rfl, by go_num, by omega, hP3.next⟩
                     case measure => simp [intOf]; omega)
              · have e0 : (a.r == 0) = false := by simpa using h0
                have e1 : (a.r == 1) = false := by simpa using h1
                have e2 : (a.r == 2) = false := by simpa using h2
                have e3 : (a.r == 3) = false := by simpa using h3
                have HLn := hide (Hint.len_any base p v tn l wr hP.hp)
                rw [HLL.out] at HLn
                clear h0 h1 h2 h3
                go_wp2_with fail
                refine (unhide HLn).mono ?_
                rintro e w3 ⟨rfl, hw⟩
                have hw2 := hw.symm
                clear hw
                subst hw2
                go_wp2
                go_roundw
                case rel => exact ⟨j + 1, _, v, tn, l, N, rfl, by go_num, by omega, hP.next⟩
                case measure => simp [intOf]; omega
      · obtain rfl : j = n := by omega
        rw [hnv] at *
        clear hnv hll
        have HB := hide hP.low
        clear hP
        go_wp2
        go_ret
        exact ⟨rfl, HB.out⟩

end Go.Proofs.Ytdeenhmcifopfaa
