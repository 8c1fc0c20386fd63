/- Contract: the reader's take, classes and joins. -/
import Derived.Test.YteiinkhdgppgbaaGreatDoorSpTa
namespace Go.Proofs.YteiinkhdgppgbaaGreatDoor
open Go.RowKit
set_option linter.unusedVariables false
set_option linter.unusedSimpArgs false

set_option maxHeartbeats 8000000 in
set_option maxRecDepth 20000 in
theorem take4_any (w0 : World) (p : Nat) (x : Sv) (s : Sp) (n k0 : Nat) (W : World) (h : RAt w0 p x s n k0 W) (hE : Env W) (ao : Option Addr) (m cap : Nat) (ws : List ByteArray) (hR : ReadsS W ao m ws) (hws : ∀ s ∈ ws, s.size ≤ 1000000) :
    Calls Tryz.prog 56 #[.pointer (some ⟨p, 0, none⟩), .int .i64 4, .slice ao m cap] W (TakeP w0 p n k0 (takeL s 4 (bl ws))) := by
  have K := numbersW_any ao m cap ws 3 W hE hR hws (by omega)
  have HH := hide h
  have HL := hide (show (bl ws).length = m by unfold bl; rw [List.length_map, hR.1])
  have HWL := hide hR.1
  clear h hE hR hws
  go_enter Tryz.func56, Tryz.ntmps56
  go_wp2_with fail
  refine K.mono ?_
  clear K
  rintro e w1 ⟨hb1, hcase⟩
  have HR1 := hide (HH.out.low hb1)
  have HB1 := hide hb1
  rcases hcase with ⟨hm, hall, rfl, hRd, hgl⟩ | ⟨hno, rfl⟩
  case inr =>
    have HT := hide (take4_none s (bl ws) (fun e => hno ⟨by rw [← HL.out]; exact e.1, e.2⟩))
    clear hno hb1 HB1 HH
    go_wp2
    go_quiet (fail)
    go_wp2
    go_ret
    exact TakeP.no HT.out (HR1.out.low (low_drewN _ _))
  subst hm
  obtain ⟨a, b, c, rfl⟩ := three_words HWL.out
  have hpW : p < W.heap.size := HH.out.lt
  have HAP := hide (HH.out.m4.apart (Nat.le_refl W.heap.size))
  obtain ⟨gb, goff, hge, hgc⟩ := hRd.at (show 0 < 3 by omega)
  simp only [Option.some.injEq, Addr.mk.injEq, and_true] at hge
  obtain ⟨rfl, rfl⟩ := hge
  have y0 : w1.drew.cell? ⟨W.heap.size, 0, none⟩ = some (.int .i64 (parseS a.data.toList maxId).1) := hgc 0 (by omega)
  have y1 : w1.drew.cell? ⟨W.heap.size, 1, none⟩ = some (.int .i64 (parseS b.data.toList maxId).1) := hgc 1 (by omega)
  have y2 : w1.drew.cell? ⟨W.heap.size, 2, none⟩ = some (.int .i64 (parseS c.data.toList maxId).1) := hgc 2 (by omega)
  have HT : Hid (takeL s 4 (bl [a, b, c]) = if allN [a.data.toList, b.data.toList, c.data.toList] = true ∧ s.classes.length < 64 ∧ okC ((parseS a.data.toList maxId).1, (parseS b.data.toList maxId).1, (parseS c.data.toList maxId).1) = true then some { s with classes := s.classes ++ [((parseS a.data.toList maxId).1, (parseS b.data.toList maxId).1, (parseS c.data.toList maxId).1)] } else none) := hide rfl
  have HALL := hide hall
  have HRD := hide (HR1.out.low (below_drew (Below.refl _ _)))
  have HKR := hide (rroom_any w0 p x s n k0 _ HRD.out 4)
  have hN : x.n4 = s.classes.length := HR1.out.m4.len.symm
  generalize (parseS a.data.toList maxId).1 = za at y0 HT
  generalize (parseS b.data.toList maxId).1 = zb at y1 HT
  generalize (parseS c.data.toList maxId).1 = zc at y2 HT
  by_cases hok : (x.n4 : Int) < roomI 4 s.ranked ∧ okC (za, zb, zc) = true
  · have HK := hide (addClass_yes w0 p x s n k0 _ HRD.out (roomI 4 s.ranked) (za, zb, zc) hok.1 (roomI_le _ _) hok.2)
    have HF := hide (show takeL s 4 (bl [a, b, c]) = some { s with classes := s.classes ++ [(za, zb, zc)] } by rw [HT.out, if_pos ⟨HALL.out, by rw [← hN]; exact (room_nat4 s x.n4).1 hok.1, hok.2⟩])
    generalize roomI 4 s.ranked = rm at HKR HK
    clear hok hb1 hall hRd hgc HH HT
    go_wp2
    go_region_held3 (fun W' => W'.cell? ⟨W.heap.size, 0, none⟩ = some (.int .i64 za) ∧ W'.cell? ⟨W.heap.size, 1, none⟩ = some (.int .i64 zb) ∧ W'.cell? ⟨W.heap.size, 2, none⟩ = some (.int .i64 zc)) (first | exact ⟨y0, y1, y2⟩ | go_keep) (first
      | (go_at_call 69; refine HKR.out.mono ?_; rintro e W1 ⟨rfl, rfl⟩)
      | (go_at_call 74; refine HK.out.mono ?_; rintro e W2 ⟨rfl, hx, hfr⟩; have hsame := hfr W.heap.size hgl (by omega) HAP.out; replace y0 := (cell_same hsame 0).trans y0; replace y1 := (cell_same hsame 1).trans y1; replace y2 := (cell_same hsame 2).trans y2; have HX := hide hx; clear hx hfr hsame))
    all_goals
      go_wp2
      go_ret
      obtain ⟨x', hx'⟩ := HX.out
      exact TakeP.yes HF.out hx'
  · have HK := hide (addClass_no w0 p x s n k0 _ HRD.out (roomI 4 s.ranked) (za, zb, zc) hok)
    have HF := hide (show takeL s 4 (bl [a, b, c]) = none by rw [HT.out, if_neg (fun e => hok ⟨(room_nat4 s x.n4).2 (by rw [hN]; exact e.2.1), e.2.2⟩)])
    generalize roomI 4 s.ranked = rm at HKR HK
    clear hok hb1 hall hRd hgc HH HT
    go_wp2
    go_region_held3 (fun W' => W'.cell? ⟨W.heap.size, 0, none⟩ = some (.int .i64 za) ∧ W'.cell? ⟨W.heap.size, 1, none⟩ = some (.int .i64 zb) ∧ W'.cell? ⟨W.heap.size, 2, none⟩ = some (.int .i64 zc)) (first | exact ⟨y0, y1, y2⟩ | go_keep) (first
      | (go_at_call 69; refine HKR.out.mono ?_; rintro e W1 ⟨rfl, rfl⟩)
      | (go_at_call 74; refine HK.out.mono ?_; rintro e W2 ⟨rfl, hx, hfr⟩; have hsame := hfr.block W.heap.size hgl; replace y0 := (cell_same hsame 0).trans y0; replace y1 := (cell_same hsame 1).trans y1; replace y2 := (cell_same hsame 2).trans y2; have HX := hide hx; clear hx hfr hsame))
    all_goals
      go_wp2
      go_ret
      exact TakeP.no HF.out HX.out

set_option maxHeartbeats 8000000 in
set_option maxRecDepth 20000 in
theorem take5_any (w0 : World) (p : Nat) (x : Sv) (s : Sp) (n k0 : Nat) (W : World) (h : RAt w0 p x s n k0 W) (hE : Env W) (ao : Option Addr) (m cap : Nat) (ws : List ByteArray) (hR : ReadsS W ao m ws) (hws : ∀ s ∈ ws, s.size ≤ 1000000) :
    Calls Tryz.prog 56 #[.pointer (some ⟨p, 0, none⟩), .int .i64 5, .slice ao m cap] W (TakeP w0 p n k0 (takeL s 5 (bl ws))) := by
  have K := numbersW_any ao m cap ws 2 W hE hR hws (by omega)
  have HH := hide h
  have HL := hide (show (bl ws).length = m by unfold bl; rw [List.length_map, hR.1])
  have HWL := hide hR.1
  clear h hE hR hws
  go_enter Tryz.func56, Tryz.ntmps56
  go_wp2_with fail
  refine K.mono ?_
  clear K
  rintro e w1 ⟨hb1, hcase⟩
  have HR1 := hide (HH.out.low hb1)
  have HB1 := hide hb1
  rcases hcase with ⟨hm, hall, rfl, hRd, hgl⟩ | ⟨hno, rfl⟩
  case inr =>
    have HT := hide (take5_none s (bl ws) (fun e => hno ⟨by rw [← HL.out]; exact e.1, e.2⟩))
    clear hno hb1 HB1 HH
    go_wp2
    go_quiet (fail)
    go_wp2
    go_ret
    exact TakeP.no HT.out (HR1.out.low (low_drewN _ _))
  subst hm
  obtain ⟨a, b, rfl⟩ := two_words HWL.out
  have hpW : p < W.heap.size := HH.out.lt
  have HAP := hide (HH.out.m5.apart (Nat.le_refl W.heap.size))
  obtain ⟨gb, goff, hge, hgc⟩ := hRd.at (show 0 < 2 by omega)
  simp only [Option.some.injEq, Addr.mk.injEq, and_true] at hge
  obtain ⟨rfl, rfl⟩ := hge
  have y0 : w1.drew.cell? ⟨W.heap.size, 0, none⟩ = some (.int .i64 (parseS a.data.toList maxId).1) := hgc 0 (by omega)
  have y1 : w1.drew.cell? ⟨W.heap.size, 1, none⟩ = some (.int .i64 (parseS b.data.toList maxId).1) := hgc 1 (by omega)
  have HT : Hid (takeL s 5 (bl [a, b]) = if allN [a.data.toList, b.data.toList] = true ∧ s.joins.length < 64 ∧ okJ ((parseS a.data.toList maxId).1, (parseS b.data.toList maxId).1) = true then some { s with joins := s.joins ++ [((parseS a.data.toList maxId).1, (parseS b.data.toList maxId).1)] } else none) := hide rfl
  have HALL := hide hall
  have HRD := hide (HR1.out.low (below_drew (Below.refl _ _)))
  have HKR := hide (rroom_any w0 p x s n k0 _ HRD.out 5)
  have hN : x.n5 = s.joins.length := HR1.out.m5.len.symm
  generalize (parseS a.data.toList maxId).1 = za at y0 HT
  generalize (parseS b.data.toList maxId).1 = zb at y1 HT
  by_cases hok : (x.n5 : Int) < roomI 5 s.ranked ∧ okJ (za, zb) = true
  · have HK := hide (addJoin_yes w0 p x s n k0 _ HRD.out (roomI 5 s.ranked) (za, zb) hok.1 (roomI_le _ _) hok.2)
    have HF := hide (show takeL s 5 (bl [a, b]) = some { s with joins := s.joins ++ [(za, zb)] } by rw [HT.out, if_pos ⟨HALL.out, by rw [← hN]; exact (room_nat5 s x.n5).1 hok.1, hok.2⟩])
    generalize roomI 5 s.ranked = rm at HKR HK
    clear hok hb1 hall hRd hgc HH HT
    go_wp2
    go_region_held3 (fun W' => W'.cell? ⟨W.heap.size, 0, none⟩ = some (.int .i64 za) ∧ W'.cell? ⟨W.heap.size, 1, none⟩ = some (.int .i64 zb)) (first | exact ⟨y0, y1⟩ | go_keep) (first
      | (go_at_call 69; refine HKR.out.mono ?_; rintro e W1 ⟨rfl, rfl⟩)
      | (go_at_call 75; refine HK.out.mono ?_; rintro e W2 ⟨rfl, hx, hfr⟩; have hsame := hfr W.heap.size hgl (by omega) HAP.out; replace y0 := (cell_same hsame 0).trans y0; replace y1 := (cell_same hsame 1).trans y1; have HX := hide hx; clear hx hfr hsame))
    all_goals
      go_wp2
      go_ret
      obtain ⟨x', hx'⟩ := HX.out
      exact TakeP.yes HF.out hx'
  · have HK := hide (addJoin_no w0 p x s n k0 _ HRD.out (roomI 5 s.ranked) (za, zb) hok)
    have HF := hide (show takeL s 5 (bl [a, b]) = none by rw [HT.out, if_neg (fun e => hok ⟨(room_nat5 s x.n5).2 (by rw [hN]; exact e.2.1), e.2.2⟩)])
    generalize roomI 5 s.ranked = rm at HKR HK
    clear hok hb1 hall hRd hgc HH HT
    go_wp2
    go_region_held3 (fun W' => W'.cell? ⟨W.heap.size, 0, none⟩ = some (.int .i64 za) ∧ W'.cell? ⟨W.heap.size, 1, none⟩ = some (.int .i64 zb)) (first | exact ⟨y0, y1⟩ | go_keep) (first
      | (go_at_call 69; refine HKR.out.mono ?_; rintro e W1 ⟨rfl, rfl⟩)
      | (go_at_call 75; refine HK.out.mono ?_; rintro e W2 ⟨rfl, hx, hfr⟩; have hsame := hfr.block W.heap.size hgl; replace y0 := (cell_same hsame 0).trans y0; replace y1 := (cell_same hsame 1).trans y1; have HX := hide hx; clear hx hfr hsame))
    all_goals
      go_wp2
      go_ret
      exact TakeP.no HF.out HX.out
end Go.Proofs.YteiinkhdgppgbaaGreatDoor
