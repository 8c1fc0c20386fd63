/- EncodePieces: the walk. Made by mkej.py. -/
import Derived.Test.YtdpmjaelbjjanaaGreatEcR
import Derived.Test.YtdpmjaelbjjanaaGreatQa42
import Derived.Test.YtdpmjaelbjjanaaGreatQa34
import Derived.Deep.RegionHeld3
namespace Go.Proofs.YtdpmjaelbjjanaaGreat
open Go.RowKit Go.Maps
set_option linter.unusedVariables false
set_option linter.unusedSimpArgs false

set_option maxRecDepth 20000 in
set_option maxHeartbeats 16000000 in
theorem epieces_walk (c : CsR) (t : ByteArray) (w : World) (hc : CsAt c w) (ht : t.size ≤ 9223372036854775807) :
    Calls Tryz.prog 3 #[.agg c.cells, .string t] w fun e w' => e = .returned (.bool true) ∧ Below w.heap.size w w' := by
  have hlo := Wf.low_alloc w (.cells c.cells 27)
  have hbx := heap_alloc_new w (.cells c.cells 27)
  have HLO := hide hlo
  have HBX := hide hbx
  have HC := hide hc
  have KG := hide (cgreat_any c _ (hc.kept hlo))
  clear hc hlo
  have y0 := Lib.cell_of_heap hbx 0
  have y1 := Lib.cell_of_heap hbx 1
  have y2 := Lib.cell_of_heap hbx 2
  have y3 := Lib.cell_of_heap hbx 3
  clear hbx
  go_enter Tryz.func3, Tryz.ntmps3
  go_wp2_with fail
  refine (unhide KG).mono ?_
  rintro e w1 ⟨hP, hb1⟩
  have HB1 := hide (below_step HLO.out hb1)
  have HBX1 := hide ((hb1.block _ (Array.getElem?_eq_some_iff.1 HBX.out).1).trans HBX.out)
  clear hb1 KG y0 y1 y2 y3
  rcases hP with rfl | ⟨rfl, hf⟩
  · go_wp2_with fail
    refine (awake12_any _).mono ?_
    rintro e w2 ⟨rfl, hb2⟩
    have HB2 := hide (below_step HB1.out hb2)
    clear hb2
    go_wp2
    (try simp only [Exit.inBlock, Exit.then])
    refine bodyPost_ret (v := .bool true) (by simp [results, Tryz.results3, go_sem]) rfl ?_
    exact ⟨rfl, HB2.out⟩
  have HF := hide hf
  clear hf
  by_cases h300 : 300 < t.size
  · have g1 : (300 : Int) < (t.size : Int) := by omega
    go_wp2_with fail
    refine (awake12_any _).mono ?_
    rintro e w2 ⟨rfl, hb2⟩
    have HB2 := hide (below_step HB1.out hb2)
    clear hb2
    go_wp2
    (try simp only [Exit.inBlock, Exit.then])
    refine bodyPost_ret (v := .bool true) (by simp [results, Tryz.results3, go_sem]) rfl ?_
    exact ⟨rfl, HB2.out⟩
  have g1 : ¬ (300 : Int) < (t.size : Int) := by omega
  have KA := hide (awake12_any w1)
  go_wp2_with fail
  refine (unhide KA).mono ?_
  rintro e w2 ⟨rfl, hb2⟩
  have HB2 := hide (below_step HB1.out hb2)
  have HBX2 := hide ((hb2.block _ (Array.getElem?_eq_some_iff.1 HBX1.out).1).trans HBX1.out)
  have KO := hide (cof_any c w2 (HC.out.kept HB2.out) HF.out)
  have y0 := Lib.cell_of_heap HBX2.out 0
  have y1 := Lib.cell_of_heap HBX2.out 1
  have y2 := Lib.cell_of_heap HBX2.out 2
  have y3 := Lib.cell_of_heap HBX2.out 3
  clear hb2 KA
  go_wp2_with fail
  refine (unhide KO).mono ?_
  rintro e w3 ⟨⟨s, q, z, B, vb, vm, a4, n4, c4, a5, n5, c5, a3, n3, c3, rfl, hV, hOB, hL, hq, hve, hdv⟩, hb3⟩
  obtain ⟨e1, d1, rfl⟩ := row_form hdv.rt.rb
  obtain ⟨e2, d2, rfl⟩ := row_form hdv.rt.rm
  obtain rfl : s.specials.length = n3 := hdv.rd.1
  have hla := Mk.low1 w3 (.cells #[.slice e1 (txT s).length d1, .slice e2 (mgT s).length d2, .slice a4 n4 c4, .slice a5 n5 c5, .slice a3 s.specials.length c3] 38)
  have HS : Hid (LwS w B q w3.heap.size z s (.slice e1 (txT s).length d1) (.slice e2 (mgT s).length d2) a4 n4 c4 a5 n5 c5 a3 s.specials.length c3 0 (w3.alloc (.cells #[.slice e1 (txT s).length d1, .slice e2 (mgT s).length d2, .slice a4 n4 c4, .slice a5 n5 c5, .slice a3 s.specials.length c3] 38))) := hide ⟨below_step (below_step HB2.out hb3) hla, hve.low hla, hdv.kept hla, heap_alloc_new w3 _⟩
  have HV := hide hV
  have HOB := hide hOB
  have HL := hide hL
  have HQ := hide (Nat.le_trans HB2.out.size hq)
  clear y0 y1 y2 y3 hV hOB hL hq hve hdv hb3 hla KO HB2 HBX2 HB1 HBX1
  generalize hN1 : (txT s).length = N1 at *
  generalize hN2 : (mgT s).length = N2 at *
  have HNN := hide (And.intro hN1 hN2)
  clear hN1 hN2
  have KR := hide (Mk.rparse_any (cap := c3) (by have := HS.out.dv.rd; exact this) (Mk.good_tx HV.out.2.1) (Mk.good_mk HV.out.2.1) t (by omega))
  obtain ⟨y0, y1, y2, y3, y4⟩ := HS.out.cells
  go_wp2_with fail
  refine (unhide KR).mono ?_
  generalize w3.heap.size = qd at *
  generalize w3.alloc (.cells #[.slice e1 N1 d1, .slice e2 N2 d2, .slice a4 n4 c4, .slice a5 n5 c5, .slice a3 s.specials.length c3] 38) = W1 at *
  rintro e W2 ⟨⟨ai, ci, rfl, hr⟩, hb⟩
  have HS2 := hide (HS.out.low hb)
  have HRI := hide hr
  have HCI := hide (row_le hr)
  have HOI := hide (ok_pars (L := s.specials) t.data.toList)
  have HLI := hide (show (Mk.parsM (Mk.tL s.specials) t.data.toList).length ≤ 300 by have := pars_len (Mk.tL s.specials) t.data.toList; simp at this; omega)
  clear hb hr KR y0 y1 y2 y3 y4 HS
  generalize Mk.parsM (Mk.tL s.specials) t.data.toList = I at *
  have KP := hide (epieces_any HS2.out.ve HOB.out HL.out (Mk.RdI.of_row HRI.out) HCI.out (by have := HLI.out; omega) HOI.out)
  go_wp2_with fail
  refine (unhide KP).mono ?_
  rintro e W3 ⟨⟨v8, vs, rfl, hr8, hp8⟩, hb⟩
  have HS3 := hide (HS2.out.low hb)
  replace HRI := hide (row_keptB HRI.out hb)
  obtain ⟨a8, c8, rfl⟩ := row_form hr8
  have HR8 := hide hr8
  have HP8 := hide hp8
  have HNE := hide (fun P => rns_ne (c := icE (cuE s)) I P)
  have HOKL : Hid (∀ x ∈ I, okE s.specials x) := hide (fun x hx => by
    obtain ⟨j, hj, rfl⟩ := List.mem_iff_getElem.1 hx
    have := HOI.out j hj
    simpa [Mk.gI, hj] using this)
  have HKD := hide (fun P (hP : P ∈ rns (icE (cuE s)) I) => piece_kind HOKL.out hP)
  have HED := hide (fun i (hi : i + 1 < (rns (icE (cuE s)) I).length) => piece_edge (s := s) (I := I) (i := i) hi)
  have HFL := hide (rns_flat (c := icE (cuE s)) I)
  have HEN := hide (enS_pieces s I)
  have HLP : Hid ((rns (icE (cuE s)) I).length ≤ 300) := hide (by
    have h1 := flat_few _ (rns_ne (c := icE (cuE s)) I)
    rw [rns_flat] at h1
    have := HLI.out
    omega)
  clear hb hr8 hp8 KP HS2
  generalize rns (icE (cuE s)) I = Ls at *
  go_wp2
  go_loopw [9, 10, 11] (fun va vi ix wr => ∃ (i n1 k1 n2 k2 : Nat) (a1 a2 : Option Addr), va = .slice a1 n1 k1 ∧ vi = .slice a2 n2 k2 ∧ ix = .int .i64 (i : Int) ∧ i ≤ Ls.length ∧ Hid (PiI W3 s Ls i a1 n1 k1 a2 n2 k2 wr)) (fun _ _ i _ => Ls.length - (intOf i).toNat)
  case atStart => exact ⟨0, 0, 0, 0, 0, none, none, rfl, rfl, rfl, Nat.zero_le _, hide (PiI.start _ _ _)⟩
  case round =>
    obtain ⟨i, n1, k1, n2, k2, a1, a2, rfl, rfl, rfl, hi, HPI⟩ := hrel
    by_cases hlt : i < Ls.length
    · have hi0 : (0 : Int) ≤ (i : Int) := by omega
      have hi1 : (i : Int) < (Ls.length : Int) := by omega
      obtain ⟨g8, c8', e8, hg8, hat⟩ := pieces_at HR8.out HP8.out HNE.out (by omega)
      simp only [Value.slice.injEq] at e8
      obtain ⟨rfl, _, rfl⟩ := e8
      have HAT := hide hat
      obtain ⟨gp, cp, hgp, hcell, hown⟩ := hat i hlt
      have c1 : wr.cell? ⟨g8, i, none⟩ = some (.slice (some ⟨gp, 0, none⟩) (gP Ls i).length cp) := (HPI.out.bel.cell hg8).trans hcell
      have HPM := hide (gP_mem hlt)
      have HOWN := hide hown
      have HGS := hide (And.intro hg8 (And.intro hgp hcell))
      have hm0 : 0 < (gP Ls i).length := List.length_pos_iff.2 (HNE.out _ HPM.out)
      have HML : Hid ((gP Ls i).length ≤ 300) := hide (by
        have h1 := flat_part Ls (i + 1)
        rw [take_gP hlt, HFL.out, List.flatten_append, List.length_append] at h1
        have := HLI.out
        simp at h1
        omega)
      have HPOK : Hid (∀ j, j < (gP Ls i).length → okE s.specials (Mk.gI (gP Ls i) j)) := hide (fun j hj => HOKL.out _ (by
        rw [← HFL.out, List.mem_flatten]
        refine ⟨_, HPM.out, ?_⟩
        rw [show Mk.gI (gP Ls i) j = (gP Ls i)[j] by simp [Mk.gI, hj]]
        exact List.getElem_mem hj))
      have HSR := hide (HS3.out.low HPI.out.bel)
      have KI := hide (eitems_any (ci := cp) HSR.out.ve HOB.out HV.out HL.out (Mk.RdI.of_row (row_keptB HOWN.out HPI.out.bel)) (row_le HOWN.out) (by have := HML.out; omega) (fun j hj => by have := HPOK.out j hj; unfold okE at this; have := HL.out; unfold Mk.wfI; omega))
      have hmn : ((gP Ls i).length : Int) ≠ 0 := by omega
      clear hat hcell hown hgp hg8
      generalize hP : gP Ls i = P at *
      have HPE := hide hP
      clear hP
      generalize hmm : P.length = m at *
      have HMM := hide hmm
      clear hmm
      go_wp2_with fail
      refine (unhide KI).mono ?_
      rintro e W4 ⟨hE, hb⟩
      have HPI4 := hide (HPI.out.low hb)
      have cw4 : W4.cell? ⟨g8, i, none⟩ = some (.slice (some ⟨gp, 0, none⟩) m cp) := (HPI4.out.bel.cell HGS.out.1).trans HGS.out.2.2
      have hX : ∃ ax cx, e = .returned (.tuple #[.slice ax (enS s P).length cx, .int .i64 (m : Int), .int .i64 0]) ∧ W4.ownsRow wr.heap.size 3 1 (.slice ax (enS s P).length cx) (enS s P).length (Mk.iv (enS s P)) := by
        rcases hE with ⟨h1, _⟩ | ⟨_, k, hk, _, hno, _⟩ | ⟨_, _, ax, cx, h1, h2⟩
        · have := HML.out
          have := HMM.out
          omega
        · exact absurd (HPOK.out k (by rw [← HMM.out]; exact hk)) hno
        · exact ⟨ax, cx, by rw [← HMM.out]; exact h1, h2⟩
      obtain ⟨ax, cx, rfl, hx⟩ := hX
      have HX := hide hx
      have HXA := hide (own_later hx HPI.out.r1 (Nat.le_refl _))
      have HKP := hide (HKD.out P HPM.out)
      clear hx hE hb KI HPI HSR c1
      go_wp2
      go_loopw [15] (fun kx wr2 => ∃ k : Nat, kx = .int .i64 (k : Int) ∧ k ≤ m ∧ Hid (Below W4.heap.size W4 wr2)) (fun kx _ => m - (intOf kx).toNat)
      case atStart => exact ⟨0, rfl, Nat.zero_le _, hide (Below.refl _ _)⟩
      case round =>
        obtain ⟨k, rfl, hk, HB2⟩ := hrel
        have hg8 : g8 < W4.heap.size := Nat.lt_of_lt_of_le HGS.out.1 HPI4.out.bel.size
        have cw5 : wr.cell? ⟨g8, i, none⟩ = some (.slice (some ⟨gp, 0, none⟩) m cp) := (HB2.out.cell hg8).trans cw4
        by_cases hkm : k < m
        · have hk0 : (0 : Int) ≤ (k : Int) := by omega
          have hk1 : (k : Int) < (m : Int) := by omega
          have hm300 : (m : Int) ≤ 300 := by have := HML.out; omega
          have HBX := hide (fun x : Wb wr => HPI4.out.bel.trans ((HB2.out.trans (x.h.mono HB2.out.size)).mono HPI4.out.bel.size))
          have ne : Nonempty (Wb wr) := ⟨⟨_, Below.refl _ _⟩⟩
          have q1 : ∀ x : Wb wr, x.W.cell? ⟨g8, i, none⟩ = some (.slice (some ⟨gp, 0, none⟩) m cp) := fun x => ((HBX.out x).cell HGS.out.1).trans HGS.out.2.2
          have HRD := hide (fun (x : Wb wr) => Mk.RdI.of_row (row_keptB HOWN.out (HBX.out x)))
          have HPC : Hid (∀ (x : Wb wr) (j : Nat), j < m → x.W.cell? ⟨gp, j, none⟩ = some (.int .i64 (Mk.gI P j))) := hide (fun x j hj => by
            rcases (HRD.out x).2 with h0 | ⟨b', off', e, _, hc⟩
            · omega
            · simp only [Option.some.injEq, Addr.mk.injEq, and_true] at e
              obtain ⟨rfl, rfl⟩ := e
              have := hc j hj
              rwa [Nat.zero_add] at this)
          have q3 : ∀ x : Wb wr, x.W.cell? ⟨qd, 2, none⟩ = some (.slice a4 n4 c4) := fun x => (HS3.out.low (HBX.out x)).cells.2.2.1
          have q4 : ∀ x : Wb wr, x.W.cell? ⟨qd, 3, none⟩ = some (.slice a5 n5 c5) := fun x => (HS3.out.low (HBX.out x)).cells.2.2.2.1
          have q2 : ∀ x : Wb wr, x.W.cell? ⟨gp, k, none⟩ = some (.int .i64 (Mk.gI P k)) := fun x => HPC.out x k hkm
          rcases HKP.out with ⟨y, hy, hneg⟩ | ⟨hby, hcut⟩
          · have hm1 : m = 1 := by have := HMM.out; rw [hy] at this; simpa using this.symm
            have hkz : k = 0 := by omega
            have hpk : Mk.gI P k = y := by rw [hy, hkz]; rfl
            rw [hpk] at q2
            have hmi : ((m : Int) == 1) = true := by rw [beq_iff_eq]; omega
            have hmi2 : ((m : Int) != 1) = false := by rw [bne, hmi]; rfl
            have hmi3 : decide ((m : Int) = 1) = true := decide_eq_true (by omega)
            have hki : ¬ (0 : Int) < (k : Int) := by omega
            have hkd : decide ((0 : Int) < (k : Int)) = false := decide_eq_false hki
            have hkd2 : decide (0 < k) = false := decide_eq_false (by omega)
            have KC : Hid True := hide trivial
            clear hy hpk hm1 hkz
            go_wp2
            refine region_v (α := Wb wr) Wc.W (by kernel_rfl) (by kernel_rfl) ⟨_, below_drw⟩ rfl ?_
            repeat (go_big_quiet_step (first | (go_at_call 15; with_reducible exact KC.out _)))
            refine wpQuiet_nil ?_
            intro W5 hw'
            have hW : Below wr.heap.size wr W5 := by obtain ⟨p, rfl⟩ := hw'; exact p.h
            have HB5 := hide (HB2.out.trans (hW.mono HB2.out.size))
            clear hw' hW ne q1 q2 q3 q4 HB2 HBX HPC HRD
            go_wp2
            first
              | exact ⟨⟨k + 1, by go_num, by omega, HB5⟩, by simp [intOf]; omega⟩
              | (go_roundw
                 case rel => exact ⟨k + 1, by go_num, by omega, HB5⟩
                 case measure => simp [intOf]; omega)
          · have hpk : 0 ≤ Mk.gI P k ∧ Mk.gI P k < 256 := hby _ (by
              have h2 : k < P.length := by have := HMM.out; omega
              rw [show Mk.gI P k = P[k] by simp [Mk.gI, h2]]
              exact List.getElem_mem h2)
            have hneg : ¬ Mk.gI P k < 0 := by omega
            have hnd : decide (Mk.gI P k < 0) = false := decide_eq_false hneg
            by_cases hkz : k = 0
            · have hki : ¬ (0 : Int) < (k : Int) := by omega
              have hkd : decide ((0 : Int) < (k : Int)) = false := decide_eq_false hki
              have hkd2 : decide (0 < k) = false := decide_eq_false (by omega)
              have KC : Hid True := hide trivial
              clear hcut hby hkz
              generalize Mk.gI P k = pk at *
              go_wp2
              refine region_v (α := Wb wr) Wc.W (by kernel_rfl) (by kernel_rfl) ⟨_, below_drw⟩ rfl ?_
              repeat (go_big_quiet_step (first | (go_at_call 15; with_reducible exact KC.out _)))
              refine wpQuiet_nil ?_
              intro W5 hw'
              have hW : Below wr.heap.size wr W5 := by obtain ⟨p, rfl⟩ := hw'; exact p.h
              have HB5 := hide (HB2.out.trans (hW.mono HB2.out.size))
              clear hw' hW ne q1 q2 q3 q4 HB2 HBX HPC HRD
              go_wp2
              first
                | exact ⟨⟨k + 1, by go_num, by omega, HB5⟩, by simp [intOf]; omega⟩
                | (go_roundw
                   case rel => exact ⟨k + 1, by go_num, by omega, HB5⟩
                   case measure => simp [intOf]; omega)
            · have hki : (0 : Int) < (k : Int) := by omega
              have hkd : decide ((0 : Int) < (k : Int)) = true := decide_eq_true hki
              have hkd2 : decide (0 < k) = true := decide_eq_true (by omega)
              have hw1 : IntKind.i64.wrap ((k : Int) - 1) = ((k - 1 : Nat) : Int) := by have := HML.out; rw [IntKind.wrap_i64]; omega
              have hk2 : (0 : Int) ≤ ((k - 1 : Nat) : Int) := by omega
              have hk3 : ((k - 1 : Nat) : Int) < (m : Int) := by omega
              have q5 : ∀ x : Wb wr, x.W.cell? ⟨gp, k - 1, none⟩ = some (.int .i64 (Mk.gI P (k - 1))) := fun x => HPC.out x (k - 1) (by omega)
              have hpj : 0 ≤ Mk.gI P (k - 1) ∧ Mk.gI P (k - 1) < 256 := hby _ (by
                have h2 : k - 1 < P.length := by have := HMM.out; omega
                rw [show Mk.gI P (k - 1) = P[k - 1] by simp [Mk.gI, h2]]
                exact List.getElem_mem h2)
              have hct : cuE s (Mk.gI P (k - 1)) (Mk.gI P k) = false := hcut k (by omega) (by have := HMM.out; omega)
              have hu1 : IntKind.u8.wrap (Mk.gI P k) = Mk.gI P k := by rw [IntKind.wrap_u8]; omega
              have hu2 : IntKind.u8.wrap (Mk.gI P (k - 1)) = Mk.gI P (k - 1) := by rw [IntKind.wrap_u8]; omega
              have KC : Hid (∀ x : Wb wr, Calls Tryz.prog 15 #[.agg #[.slice a4 n4 c4, .slice a5 n5 c5], .int .u8 (Mk.gI P (k - 1)), .int .u8 (Mk.gI P k)] x.W fun e w' => e = .returned (.bool false) ∧ ∃ p : Wb wr, w' = p.W) := hide (fun x => by
                have hs := HS3.out.low (HBX.out x)
                refine (Wf.Bq.rcuts_any hs.dv.rc hs.dv.rj (by have := hs.dv.l4; omega) (by have := hs.dv.l5; omega) _ _ ⟨hpj.1, by omega⟩ ⟨hpk.1, by omega⟩).mono fun e w' h => ⟨?_, ⟨w', below_step x.h h.2⟩, rfl⟩
                rw [h.1]; exact congrArg (fun b => Ending.returned (Value.bool b)) hct)
              clear hcut hby hct
              generalize Mk.gI P k = pk at *
              generalize Mk.gI P (k - 1) = pj at *
              go_wp2
              refine region_v (α := Wb wr) Wc.W (by kernel_rfl) (by kernel_rfl) ⟨_, below_drw⟩ rfl ?_
              repeat (go_big_quiet_step (first | (go_at_call 15; with_reducible exact KC.out _)))
              refine wpQuiet_nil ?_
              intro W5 hw'
              have hW : Below wr.heap.size wr W5 := by obtain ⟨p, rfl⟩ := hw'; exact p.h
              have HB5 := hide (HB2.out.trans (hW.mono HB2.out.size))
              clear hw' hW ne q1 q2 q3 q4 HB2 HBX HPC HRD q5
              go_wp2
              first
                | exact ⟨⟨k + 1, by go_num, by omega, HB5⟩, by simp [intOf]; omega⟩
                | (go_roundw
                   case rel => exact ⟨k + 1, by go_num, by omega, HB5⟩
                   case measure => simp [intOf]; omega)
        · obtain rfl : k = m := by omega
          have HPI := hide (HPI4.out.low HB2.out)
          have HXR := hide (row_keptB HX.out HB2.out)
          have HPN : Hid (P ≠ []) := hide (HNE.out P HPM.out)
          have HXP : Hid (0 < (enS s P).length) := hide (List.length_pos_iff.2 (enS_ne HV.out HPN.out (fun x hx => HOKL.out x (by rw [← HFL.out]; exact List.mem_flatten.2 ⟨P, HPM.out, hx⟩))))
          obtain ⟨g, cap, W5, hr1, gg, cap2, W6, hr2, hn⟩ := pii_next HPI.out hlt HPE.out (by rw [HFL.out]; exact HLI.out) HMM.out rfl (row_keptB HOWN.out HPI.out.bel) hm0 HML.out HXR.out HXP.out HXA.out
          have HR1 := hide hr1
          have HR2 := hide hr2
          have HN := hide hn
          have HR0 := hide (row_keptB HOWN.out HN.out.bel)
          clear hr1 hr2 hn HPI HXR HB2 HX HXA HPI4 cw4 HXP HKP
          generalize (enS s P).length = xl at *
          by_cases h0 : 0 < i
          · have hki : (0 : Int) < (i : Int) := by omega
            have hkd : decide ((0 : Int) < (i : Int)) = true := decide_eq_true hki
            have hkd2 : decide (0 < i) = true := decide_eq_true h0
            obtain ⟨gq, cq, hgq, hcq, hoq⟩ := HAT.out (i - 1) (by omega)
            have HBX := hide (fun x : Wb W6 => HN.out.bel.trans (x.h.mono HN.out.bel.size))
            have ne : Nonempty (Wb W6) := ⟨⟨_, Below.refl _ _⟩⟩
            have hqm : gP Ls (i - 1) ∈ Ls := gP_mem (by omega)
            have hq0 : 0 < (gP Ls (i - 1)).length := List.length_pos_iff.2 (HNE.out _ hqm)
            have hq3 : (gP Ls (i - 1)).length ≤ 300 := by
              have h1 := flat_part Ls (i - 1 + 1)
              rw [take_gP (show i - 1 < Ls.length by omega), HFL.out, List.flatten_append, List.length_append] at h1
              have := HLI.out
              simp at h1
              omega
            have q1 : ∀ x : Wb W6, x.W.cell? ⟨g8, i, none⟩ = some (.slice (some ⟨gp, 0, none⟩) k cp) := fun x => ((HBX.out x).cell HGS.out.1).trans HGS.out.2.2
            have q2 : ∀ x : Wb W6, x.W.cell? ⟨g8, i - 1, none⟩ = some (.slice (some ⟨gq, 0, none⟩) (gP Ls (i - 1)).length cq) := fun x => ((HBX.out x).cell HGS.out.1).trans hcq
            have q3 : ∀ x : Wb W6, x.W.cell? ⟨gp, 0, none⟩ = some (.int .i64 (Mk.gI P 0)) := fun x => by
              rcases (Mk.RdI.of_row (row_keptB HOWN.out (HBX.out x))).2 with h0 | ⟨b', off', e, _, hc⟩
              · omega
              · simp only [Option.some.injEq, Addr.mk.injEq, and_true] at e
                obtain ⟨rfl, rfl⟩ := e
                have := hc 0 (by omega)
                rwa [Nat.zero_add] at this
            have q4 : ∀ x : Wb W6, x.W.cell? ⟨gq, (gP Ls (i - 1)).length - 1, none⟩ = some (.int .i64 (Mk.gI (gP Ls (i - 1)) ((gP Ls (i - 1)).length - 1))) := fun x => by
              rcases (Mk.RdI.of_row (row_keptB hoq (HBX.out x))).2 with h0 | ⟨b', off', e, _, hc⟩
              · omega
              · simp only [Option.some.injEq, Addr.mk.injEq, and_true] at e
                obtain ⟨rfl, rfl⟩ := e
                have := hc ((gP Ls (i - 1)).length - 1) (by omega)
                rwa [Nat.zero_add] at this
            have HEG : Hid (0 ≤ Mk.gI (gP Ls (i - 1)) ((gP Ls (i - 1)).length - 1) → 0 ≤ Mk.gI P 0 → cuE s (Mk.gI (gP Ls (i - 1)) ((gP Ls (i - 1)).length - 1)) (Mk.gI P 0) = true) := hide (fun ha hb => by
              have h := HED.out (i - 1) (by omega)
              rw [show i - 1 + 1 = i by omega] at h
              have e1 : (Ls.getD (i - 1) []).getLastD 0 = Mk.gI (gP Ls (i - 1)) ((gP Ls (i - 1)).length - 1) := getLast_gI hq0
              have e2 : (Ls.getD i []).getD 0 0 = Mk.gI P 0 := by rw [← HPE.out]; rfl
              rw [e1, e2] at h
              exact h ha hb)
            have HA2 : Hid (Mk.gI (gP Ls (i - 1)) ((gP Ls (i - 1)).length - 1) < 256) := hide ((HOKL.out _ (by
              rw [← HFL.out]
              refine List.mem_flatten.2 ⟨_, hqm, ?_⟩
              rw [show Mk.gI (gP Ls (i - 1)) ((gP Ls (i - 1)).length - 1) = (gP Ls (i - 1))[(gP Ls (i - 1)).length - 1] by
                unfold Mk.gI
                rw [List.getD_eq_getElem?_getD, List.getElem?_eq_getElem (by omega)]
                rfl]
              exact List.getElem_mem _)).1)
            have HB2 : Hid (Mk.gI P 0 < 256) := hide (HPOK.out 0 hm0).1
            generalize (gP Ls (i - 1)).length = m1 at *
            generalize Mk.gI (gP Ls (i - 1)) (m1 - 1) = av at *
            generalize Mk.gI P 0 = bv at *
            have hw1 : IntKind.i64.wrap ((i : Int) - 1) = ((i - 1 : Nat) : Int) := by have := HLP.out; rw [IntKind.wrap_i64]; omega
            have hw2 : IntKind.i64.wrap ((m1 : Int) - 1) = ((m1 - 1 : Nat) : Int) := by rw [IntKind.wrap_i64]; omega
            have hj2 : (0 : Int) ≤ ((i - 1 : Nat) : Int) := by omega
            have hj3 : ((i - 1 : Nat) : Int) < (Ls.length : Int) := by omega
            have hj4 : (0 : Int) ≤ ((m1 - 1 : Nat) : Int) := by omega
            have hj5 : ((m1 - 1 : Nat) : Int) < (m1 : Int) := by omega
            have hj6 : (0 : Int) < (k : Int) := by omega
            clear hqm hq0 hq3 hgq hcq hoq HPN
            go_upto_region 23 with (at_builtin; refine Lib.wpList_append_run _ rfl _ _ _ _ rfl _ _ rfl rfl _ _ HR1.out ?_)
            clear HR1
            go_wp2_with (at_builtin; refine Lib.wpList_append_run _ rfl _ _ _ _ rfl _ _ rfl rfl _ _ HR2.out ?_)
            refine region_v (α := Wb W6) Wc.W (by kernel_rfl) (by kernel_rfl) ⟨_, below_drw⟩ rfl ?_
            repeat (go_big_quiet_step (fail))
            refine wpQuiet_nil ?_
            intro W7 hw'
            have hW : Below W6.heap.size W6 W7 := by obtain ⟨p, rfl⟩ := hw'; exact p.h
            have HN7 := hide (HN.out.low hW)
            have HS7 := hide (HS3.out.low HN7.out.bel)
            have y2 := HS7.out.cells.2.2.1
            have y3 := HS7.out.cells.2.2.2.1
            clear hw' hW ne q1 q2 q3 q4 HBX HR2 HR0 HN
            have hlp : (Ls.length : Int) ≤ 300 := by have := HLP.out; omega
            by_cases ha : 0 ≤ av
            · have hag : decide (0 ≤ av) = true := decide_eq_true ha
              by_cases hb : 0 ≤ bv
              · have hbg : decide (0 ≤ bv) = true := decide_eq_true hb
                have hu1 : IntKind.u8.wrap av = av := by have := HA2.out; rw [IntKind.wrap_u8]; omega
                have hu2 : IntKind.u8.wrap bv = bv := by have := HB2.out; rw [IntKind.wrap_u8]; omega
                have KC := hide (Wf.Bq.rcuts_any (c1 := c4) (c2 := c5) HS7.out.dv.rc HS7.out.dv.rj (by have := HS7.out.dv.l4; omega) (by have := HS7.out.dv.l5; omega) av bv ⟨ha, by have := HA2.out; omega⟩ ⟨hb, by have := HB2.out; omega⟩)
                have HCT := hide (HEG.out ha hb)
                clear HEG
                go_wp2_with fail
                refine (unhide KC).mono ?_
                rintro e W8 ⟨rfl, hb8⟩
                have HN8 := hide (HN7.out.low hb8)
                have hct : Wf.Bq.cutP s.classes s.joins av bv = true := HCT.out
                rw [hct]
                clear hb8 hct KC y2 y3
                go_wp2
                first
                  | exact ⟨⟨i + 1, _, _, _, _, _, _, rfl, rfl, by go_num, by omega, HN8⟩, by simp [intOf]; omega⟩
                  | (go_roundw
                     case rel => exact ⟨i + 1, _, _, _, _, _, _, rfl, rfl, by go_num, by omega, HN8⟩
                     case measure => simp [intOf]; omega)
              · have hbg : decide (0 ≤ bv) = false := decide_eq_false hb
                clear HEG
                go_wp2
                first
                  | exact ⟨⟨i + 1, _, _, _, _, _, _, rfl, rfl, by go_num, by omega, HN7⟩, by simp [intOf]; omega⟩
                  | (go_roundw
                     case rel => exact ⟨i + 1, _, _, _, _, _, _, rfl, rfl, by go_num, by omega, HN7⟩
                     case measure => simp [intOf]; omega)
            · have hag : decide (0 ≤ av) = false := decide_eq_false ha
              clear HEG
              go_wp2
              first
                | exact ⟨⟨i + 1, _, _, _, _, _, _, rfl, rfl, by go_num, by omega, HN7⟩, by simp [intOf]; omega⟩
                | (go_roundw
                   case rel => exact ⟨i + 1, _, _, _, _, _, _, rfl, rfl, by go_num, by omega, HN7⟩
                   case measure => simp [intOf]; omega)
          · have hki : ¬ (0 : Int) < (i : Int) := by omega
            have hkd : decide ((0 : Int) < (i : Int)) = false := decide_eq_false hki
            have hkd2 : decide (0 < i) = false := decide_eq_false h0
            clear HPN
            go_upto_region 23 with (at_builtin; refine Lib.wpList_append_run _ rfl _ _ _ _ rfl _ _ rfl rfl _ _ HR1.out ?_)
            clear HR1
            go_wp2_with (at_builtin; refine Lib.wpList_append_run _ rfl _ _ _ _ rfl _ _ rfl rfl _ _ HR2.out ?_)
            first
              | exact ⟨⟨i + 1, _, _, _, _, _, _, rfl, rfl, by go_num, by omega, HN⟩, by simp [intOf]; omega⟩
              | (go_roundw
                 case rel => exact ⟨i + 1, _, _, _, _, _, _, rfl, rfl, by go_num, by omega, HN⟩
                 case measure => simp [intOf]; omega)
    · obtain rfl : i = Ls.length := by omega
      have HSR := hide (HS3.out.low HPI.out.bel)
      have hr1 := HPI.out.r1
      have hr2 := HPI.out.r2
      have he1 := HPI.out.e1
      have he2 := HPI.out.e2
      rw [List.take_length, HFL.out] at hr1 he1
      rw [List.take_length, HEN.out] at hr2 he2
      have HRL := hide hr1
      have HRM := hide hr2
      have HEL := hide he1
      have HEM := hide he2
      have HRI5 := hide (row_keptB HRI.out HPI.out.bel)
      have HLM : Hid ((enS s I).length ≤ 300) := hide (by
        have h1 : (enS s I).length ≤ I.length := encG_len (q := cuE s) (mgT s) (tE s) s.specials I
        have := HLI.out
        omega)
      have HBW := hide (below_step (below_step HS3.out.bel HPI.out.bel) (Below.refl _ _))
      have KI := hide (eitems_any (ci := ci) HSR.out.ve HOB.out HV.out HL.out (Mk.RdI.of_row HRI5.out) HCI.out (by have := HLI.out; omega) (fun j hj => by have := HOI.out j hj; unfold okE at this; have := HL.out; unfold Mk.wfI; omega))
      clear hr1 hr2 he1 he2 HPI
      go_wp2_with fail
      refine (unhide KI).mono ?_
      rintro e W4 ⟨hE, hb⟩
      have hX : ∃ ax cx, e = .returned (.tuple #[.slice ax (enS s I).length cx, .int .i64 (I.length : Int), .int .i64 0]) ∧ W4.ownsRow wr.heap.size 3 1 (.slice ax (enS s I).length cx) (enS s I).length (Mk.iv (enS s I)) := by
        rcases hE with ⟨h1, _⟩ | ⟨_, k, hk, _, hno, _⟩ | ⟨_, _, ax, cx, h1, h2⟩
        · have := HLI.out
          omega
        · exact absurd (HOI.out k hk) hno
        · exact ⟨ax, cx, h1, h2⟩
      obtain ⟨ax, cx, rfl, hx⟩ := hX
      have HXO := hide hx
      have HB4 := hide hb
      have KA := hide (Mk.ints_same W4 _ _ (.slice a1 n1 k1) (.slice ai I.length ci) I (by have := row_keptB HRL.out HB4.out; rw [HEL.out] at this; rw [HEL.out]; exact this) (row_keptB HRI5.out HB4.out) (by have := HLI.out; omega))
      clear hx hb hE KI
      go_wp2_with fail
      refine (unhide KA).mono ?_
      rintro e W5 ⟨rfl, hb⟩
      have HB5 := hide (below_step HB4.out hb)
      have KB := hide (Mk.ints_same W5 _ _ (.slice a2 n2 k2) (.slice ax (enS s I).length cx) (enS s I) (by have := row_keptB HRM.out HB5.out; rw [HEM.out] at this; rw [HEM.out]; exact this) (row_keptB HXO.out hb) (by have := HLM.out; omega))
      clear hb KA
      go_wp2_with fail
      refine (unhide KB).mono ?_
      rintro e W6 ⟨rfl, hb⟩
      have HB6 := hide (below_step HBW.out (below_step HB5.out hb))
      clear hb KB HB5
      go_wp2
      (try simp only [Exit.inBlock, Exit.then])
      first
        | (go_ret
           exact ⟨rfl, HB6.out⟩)
        | (refine bodyPost_ret (v := .bool true) (by simp [results, Tryz.results3, go_sem]) rfl ?_
           exact ⟨rfl, HB6.out⟩)
end Go.Proofs.YtdpmjaelbjjanaaGreat
