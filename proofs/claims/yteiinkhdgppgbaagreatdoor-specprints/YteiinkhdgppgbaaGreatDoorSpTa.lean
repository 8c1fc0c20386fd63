/- Contract: the reader's take. -/
import Derived.Test.YteiinkhdgppgbaaGreatDoorSpRd
import Derived.Deep.RegionHeld3
namespace Go.Proofs.YteiinkhdgppgbaaGreatDoor
open Go.RowKit
set_option linter.unusedVariables false
set_option linter.unusedSimpArgs false

theorem low_drewN (w : World) (n : Nat) : Below w.heap.size w (w.drewN n) := ⟨rfl, rfl, rfl, Nat.le_refl _, fun _ _ => rfl⟩
theorem cell_same {W w' : World} {g : Nat} (h : w'.heap[g]? = W.heap[g]?) (j : Nat) : w'.cell? ⟨g, j, none⟩ = W.cell? ⟨g, j, none⟩ := by
  simp [World.cell?, h]
theorem Row.apart {α : Type} {B E k : Nat} {e : α → List Value} {ao : Option Addr} {n cap : Nat} {l : List α} {W : World} (h : Row B E k e ao n cap l W) {g : Nat} (hg : W.heap.size ≤ g) : some g ≠ (Value.slice ao n cap).ownBlock := fun e => by
  have := (h.own.lt g e.symm).2
  omega
theorem roomI_small (k : Int) (r : Bool) : roomI k r ≤ 1000 := roomI_le k r
theorem take1_none (s : Sp) (ws : List (List UInt8)) (h : ¬ (ws.length = 2 ∧ allN ws = true)) : takeL s 1 ws = none := by
  match ws with
  | [] => rfl
  | [_] => rfl
  | [a, b] =>
    unfold takeL
    simp only
    rw [if_neg (fun e => h ⟨rfl, e.1⟩)]
  | _ :: _ :: _ :: _ => rfl
theorem take5_none (s : Sp) (ws : List (List UInt8)) (h : ¬ (ws.length = 2 ∧ allN ws = true)) : takeL s 5 ws = none := by
  match ws with
  | [] => rfl
  | [_] => rfl
  | [a, b] =>
    unfold takeL
    simp only
    rw [if_neg (fun e => h ⟨rfl, e.1⟩)]
  | _ :: _ :: _ :: _ => rfl
theorem take4_none (s : Sp) (ws : List (List UInt8)) (h : ¬ (ws.length = 3 ∧ allN ws = true)) : takeL s 4 ws = none := by
  match ws with
  | [] => rfl
  | [_] => rfl
  | [_, _] => rfl
  | [a, b, c] =>
    unfold takeL
    simp only
    rw [if_neg (fun e => h ⟨rfl, e.1⟩)]
  | _ :: _ :: _ :: _ :: _ => rfl
theorem take2_len (s : Sp) (ws : List (List UInt8)) (h : ws.length ≠ 1) : takeL s 2 ws = none := by
  match ws with
  | [] => rfl
  | [_] => exact absurd rfl h
  | _ :: _ :: _ => rfl
theorem take3_len (s : Sp) (ws : List (List UInt8)) (h : ws.length ≠ 2) : takeL s 3 ws = none := by
  match ws with
  | [] => rfl
  | [_] => rfl
  | [_, _] => exact absurd rfl h
  | _ :: _ :: _ :: _ => rfl
theorem three_words {ws : List ByteArray} (h : ws.length = 3) : ∃ s t u, ws = [s, t, u] := by
  match ws, h with
  | [s, t, u], _ => exact ⟨s, t, u, rfl⟩
theorem room_nat1 (s : Sp) (n : Nat) : ((n : Int) < roomI 1 s.ranked) ↔ n < roomM s.ranked := by
  unfold roomI roomM
  cases s.ranked <;> simp <;> omega
theorem room_nat2 (s : Sp) (n : Nat) : ((n : Int) < roomI 2 s.ranked) ↔ n < roomT s.ranked := by
  unfold roomI roomT
  cases s.ranked <;> simp <;> omega
theorem room_nat3 (s : Sp) (n : Nat) : ((n : Int) < roomI 3 s.ranked) ↔ n < 32 := by
  unfold roomI
  simp
  omega
theorem room_nat4 (s : Sp) (n : Nat) : ((n : Int) < roomI 4 s.ranked) ↔ n < 64 := by
  unfold roomI
  simp
  omega
theorem room_nat5 (s : Sp) (n : Nat) : ((n : Int) < roomI 5 s.ranked) ↔ n < 64 := by
  unfold roomI
  simp
  omega

set_option maxHeartbeats 8000000 in
set_option maxRecDepth 20000 in
theorem take1_any (w0 : World) (p : Nat) (x : Sv) (s : Sp) (n k0 : Nat) (W : World) (h : RAt w0 p x s n k0 W) (hE : Env W) (ao : Option Addr) (m cap : Nat) (ws : List ByteArray) (hR : ReadsS W ao m ws) (hws : ∀ s ∈ ws, s.size ≤ 1000000) :
    Calls Tryz.prog 56 #[.pointer (some ⟨p, 0, none⟩), .int .i64 1, .slice ao m cap] W (TakeP w0 p n k0 (takeL s 1 (bl ws))) := by
  have K := numbersW_any ao m cap ws 2 W hE hR hws (by omega)
  have HH := hide h
  have HL := hide (show (bl ws).length = m by unfold bl; rw [List.length_map, hR.1])
  have HWL := hide hR.1
  clear h hE hR hws
  go_enter Tryz.func56, Tryz.ntmps56
  go_wp2_with fail
  refine K.mono ?_
  clear K
  rintro e w1 ⟨hb1, hcase⟩
  have HR1 := hide (HH.out.low hb1)
  have HB1 := hide hb1
  rcases hcase with ⟨hm, hall, rfl, hRd, hgl⟩ | ⟨hno, rfl⟩
  case inr =>
    have HT := hide (take1_none s (bl ws) (fun e => hno ⟨by rw [← HL.out]; exact e.1, e.2⟩))
    clear hno hb1 HB1 HH
    go_wp2
    go_quiet (fail)
    go_wp2
    go_ret
    exact TakeP.no HT.out (HR1.out.low (low_drewN _ _))
  subst hm
  obtain ⟨a, b, rfl⟩ := two_words HWL.out
  have hpW : p < W.heap.size := HH.out.lt
  have HAP := hide (HH.out.m1.apart (Nat.le_refl W.heap.size))
  obtain ⟨gb, goff, hge, hgc⟩ := hRd.at (show 0 < 2 by omega)
  simp only [Option.some.injEq, Addr.mk.injEq, and_true] at hge
  obtain ⟨rfl, rfl⟩ := hge
  have y0 : w1.drew.cell? ⟨W.heap.size, 0, none⟩ = some (.int .i64 (parseS a.data.toList maxId).1) := hgc 0 (by omega)
  have y1 : w1.drew.cell? ⟨W.heap.size, 1, none⟩ = some (.int .i64 (parseS b.data.toList maxId).1) := hgc 1 (by omega)
  have HT : Hid (takeL s 1 (bl [a, b]) = if allN [a.data.toList, b.data.toList] = true ∧ s.merges.length < roomM s.ranked ∧ okM ((parseS a.data.toList maxId).1, (parseS b.data.toList maxId).1) = true then some { s with merges := s.merges ++ [((parseS a.data.toList maxId).1, (parseS b.data.toList maxId).1)] } else none) := hide rfl
  have HALL := hide hall
  have HRD := hide (HR1.out.low (below_drew (Below.refl _ _)))
  have HKR := hide (rroom_any w0 p x s n k0 _ HRD.out 1)
  have hN : x.n1 = s.merges.length := HR1.out.m1.len.symm
  generalize (parseS a.data.toList maxId).1 = za at y0 HT
  generalize (parseS b.data.toList maxId).1 = zb at y1 HT
  by_cases hok : (x.n1 : Int) < roomI 1 s.ranked ∧ okM (za, zb) = true
  · have HK := hide (addMerge_yes w0 p x s n k0 _ HRD.out (roomI 1 s.ranked) (za, zb) hok.1 (roomI_le _ _) hok.2)
    have HF := hide (show takeL s 1 (bl [a, b]) = some { s with merges := s.merges ++ [(za, zb)] } by rw [HT.out, if_pos ⟨HALL.out, by rw [← hN]; exact (room_nat1 s x.n1).1 hok.1, hok.2⟩])
    generalize roomI 1 s.ranked = rm at HKR HK
    clear hok hb1 hall hRd hgc HH HT
    go_wp2
    go_region_held3 (fun W' => W'.cell? ⟨W.heap.size, 0, none⟩ = some (.int .i64 za) ∧ W'.cell? ⟨W.heap.size, 1, none⟩ = some (.int .i64 zb)) (first | exact ⟨y0, y1⟩ | go_keep) (first
      | (go_at_call 69; refine HKR.out.mono ?_; rintro e W1 ⟨rfl, rfl⟩)
      | (go_at_call 68; refine HK.out.mono ?_; rintro e W2 ⟨rfl, hx, hfr⟩; have hsame := hfr W.heap.size hgl (by omega) HAP.out; replace y0 := (cell_same hsame 0).trans y0; replace y1 := (cell_same hsame 1).trans y1; have HX := hide hx; clear hx hfr hsame))
    all_goals
      go_wp2
      go_ret
      obtain ⟨x', hx'⟩ := HX.out
      exact TakeP.yes HF.out hx'
  · have HK := hide (addMerge_no w0 p x s n k0 _ HRD.out (roomI 1 s.ranked) (za, zb) hok)
    have HF := hide (show takeL s 1 (bl [a, b]) = none by rw [HT.out, if_neg (fun e => hok ⟨(room_nat1 s x.n1).2 (by rw [hN]; exact e.2.1), e.2.2⟩)])
    generalize roomI 1 s.ranked = rm at HKR HK
    clear hok hb1 hall hRd hgc HH HT
    go_wp2
    go_region_held3 (fun W' => W'.cell? ⟨W.heap.size, 0, none⟩ = some (.int .i64 za) ∧ W'.cell? ⟨W.heap.size, 1, none⟩ = some (.int .i64 zb)) (first | exact ⟨y0, y1⟩ | go_keep) (first
      | (go_at_call 69; refine HKR.out.mono ?_; rintro e W1 ⟨rfl, rfl⟩)
      | (go_at_call 68; refine HK.out.mono ?_; rintro e W2 ⟨rfl, hx, hfr⟩; have hsame := hfr.block W.heap.size hgl; replace y0 := (cell_same hsame 0).trans y0; replace y1 := (cell_same hsame 1).trans y1; have HX := hide hx; clear hx hfr hsame))
    all_goals
      go_wp2
      go_ret
      exact TakeP.no HF.out HX.out
end Go.Proofs.YteiinkhdgppgbaaGreatDoor
