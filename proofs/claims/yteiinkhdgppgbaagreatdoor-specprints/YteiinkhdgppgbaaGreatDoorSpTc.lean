/- Contract: the reader's take: tokens, special tokens, the first line, none. -/
import Derived.Test.YteiinkhdgppgbaaGreatDoorSpTa
namespace Go.Proofs.YteiinkhdgppgbaaGreatDoor
open Go.RowKit
set_option linter.unusedVariables false
set_option linter.unusedSimpArgs false

set_option maxHeartbeats 8000000 in
set_option maxRecDepth 20000 in
theorem take2_any (w0 : World) (p : Nat) (x : Sv) (s : Sp) (n k0 : Nat) (W : World) (h : RAt w0 p x s n k0 W) (hE : Env W) (ao : Option Addr) (m cap : Nat) (ws : List ByteArray) (hR : ReadsS W ao m ws) (hws : ∀ s ∈ ws, s.size ≤ 1000000) :
    Calls Tryz.prog 56 #[.pointer (some ⟨p, 0, none⟩), .int .i64 2, .slice ao m cap] W (TakeP w0 p n k0 (takeL s 2 (bl ws))) := by
  have K := tokenW_any ao m cap ws W hR hws
  have HH := hide h
  have HL := hide (show (bl ws).length = m by unfold bl; rw [List.length_map, hR.1])
  clear h hE hR hws
  go_enter Tryz.func56, Tryz.ntmps56
  go_wp2_with fail
  refine K.mono ?_
  clear K
  rintro e w1 ⟨hb1, hcase⟩
  have HR1 := hide (HH.out.low hb1)
  clear hb1 HH
  rcases hcase with ⟨t, rfl, rfl⟩ | ⟨hno, rfl⟩
  case inr =>
    have HT := hide (take2_len s (bl ws) (by rw [HL.out]; exact hno))
    clear hno
    go_wp2
    go_quiet (fail)
    go_wp2
    go_ret
    exact TakeP.no HT.out (HR1.out.low (low_drewN _ _))
  have HT : Hid (takeL s 2 (bl [t]) = if (unhexS t).2 = true ∧ s.tokens.length < roomT s.ranked ∧ okT (unhexS t).1 = true then some { s with tokens := s.tokens ++ [(unhexS t).1] } else none) := hide rfl
  obtain ⟨u, hu⟩ : ∃ u, unhexS t = u := ⟨_, rfl⟩
  rw [hu] at HT ⊢
  clear hu
  obtain ⟨us, uo⟩ := u
  cases uo with
  | false =>
    have HF := hide (show takeL s 2 (bl [t]) = none by rw [HT.out, if_neg (fun e => by cases e.1)])
    clear HT
    go_wp2
    go_quiet (fail)
    go_wp2
    go_ret
    exact TakeP.no HF.out (HR1.out.low (low_drewN _ _))
  | true =>
    have HRD := hide (HR1.out.low (below_drew (Below.refl _ _)))
    have HKR := hide (rroom_any w0 p x s n k0 _ HRD.out 2)
    have hN : x.n2 = s.tokens.length := HR1.out.m2.len.symm
    by_cases hok : (x.n2 : Int) < roomI 2 s.ranked ∧ okT us = true
    · have HK := hide (addToken_yes w0 p x s n k0 _ HRD.out (roomI 2 s.ranked) us hok.1 (roomI_le _ _) hok.2)
      have HF := hide (show takeL s 2 (bl [t]) = some { s with tokens := s.tokens ++ [us] } by rw [HT.out, if_pos ⟨rfl, by rw [← hN]; exact (room_nat2 s x.n2).1 hok.1, hok.2⟩])
      generalize roomI 2 s.ranked = rm at HKR HK
      clear hok HT
      go_wp2
      go_region_held3 (fun W' => True) (trivial) (first
        | (go_at_call 69; refine HKR.out.mono ?_; rintro e W1 ⟨rfl, rfl⟩)
        | (go_at_call 71; refine HK.out.mono ?_; rintro e W2 ⟨rfl, hx, hfr⟩; have HX := hide hx; clear hx hfr))
      all_goals
        go_wp2
        go_ret
        obtain ⟨x', hx'⟩ := HX.out
        exact TakeP.yes HF.out hx'
    · have HK := hide (addToken_no w0 p x s n k0 _ HRD.out (roomI 2 s.ranked) us hok)
      have HF := hide (show takeL s 2 (bl [t]) = none by rw [HT.out, if_neg (fun e => hok ⟨(room_nat2 s x.n2).2 (by rw [hN]; exact e.2.1), e.2.2⟩)])
      generalize roomI 2 s.ranked = rm at HKR HK
      clear hok HT
      go_wp2
      go_region_held3 (fun W' => True) (trivial) (first
        | (go_at_call 69; refine HKR.out.mono ?_; rintro e W1 ⟨rfl, rfl⟩)
        | (go_at_call 71; refine HK.out.mono ?_; rintro e W2 ⟨rfl, hx, hfr⟩; have HX := hide hx; clear hx hfr))
      all_goals
        go_wp2
        go_ret
        exact TakeP.no HF.out HX.out

set_option maxHeartbeats 8000000 in
set_option maxRecDepth 20000 in
theorem take3_any (w0 : World) (p : Nat) (x : Sv) (s : Sp) (n k0 : Nat) (W : World) (h : RAt w0 p x s n k0 W) (hE : Env W) (ao : Option Addr) (m cap : Nat) (ws : List ByteArray) (hR : ReadsS W ao m ws) (hws : ∀ s ∈ ws, s.size ≤ 1000000) :
    Calls Tryz.prog 56 #[.pointer (some ⟨p, 0, none⟩), .int .i64 3, .slice ao m cap] W (TakeP w0 p n k0 (takeL s 3 (bl ws))) := by
  have K := specialW_any ao m cap ws W hE hR hws
  have HH := hide h
  have HL := hide (show (bl ws).length = m by unfold bl; rw [List.length_map, hR.1])
  clear h hE hR hws
  go_enter Tryz.func56, Tryz.ntmps56
  go_wp2_with fail
  refine K.mono ?_
  clear K
  rintro e w1 ⟨hb1, hcase⟩
  have HR1 := hide (HH.out.low hb1)
  clear hb1 HH
  rcases hcase with ⟨a, t, rfl, rfl⟩ | ⟨hno, rfl⟩
  case inr =>
    have HT := hide (take3_len s (bl ws) (by rw [HL.out]; exact hno))
    have HR2 := hide (HR1.out.low (low_alloc w1 (.cells #[.int .i64 0, .string ⟨#[]⟩] 43)))
    clear hno
    go_wp2
    generalize w1.alloc (.cells #[.int .i64 0, .string ⟨#[]⟩] 43) = w2 at HR2 ⊢
    go_quiet (fail)
    go_wp2
    go_ret
    exact TakeP.no HT.out (HR2.out.low (low_drewN _ _))
  have HT : Hid (takeL s 3 (bl [a, t]) = if ((parseS a.data.toList maxId).2 = true ∧ (unhexS t).2 = true) ∧ s.specials.length < 32 ∧ okS ((parseS a.data.toList maxId).1, (unhexS t).1) = true then some { s with specials := s.specials ++ [((parseS a.data.toList maxId).1, (unhexS t).1)] } else none) := hide rfl
  obtain ⟨u, hu⟩ : ∃ u, unhexS t = u := ⟨_, rfl⟩
  obtain ⟨q, hq⟩ : ∃ q, parseS a.data.toList maxId = q := ⟨_, rfl⟩
  rw [hu, hq] at HT ⊢
  clear hu hq
  obtain ⟨us, uo⟩ := u
  obtain ⟨z, zo⟩ := q
  have HR2 := hide (HR1.out.low (low_alloc w1 (.cells #[.int .i64 z, .string us] 43)))
  have hpw : p < w1.heap.size := HR1.out.lt
  have HAP := hide (HR1.out.m3.apart (Nat.le_refl w1.heap.size))
  have hblk : (w1.alloc (.cells #[.int .i64 z, .string us] 43)).heap[w1.heap.size]? = some (.cells #[.int .i64 z, .string us] 43 (0, 0)) := heap_alloc_new w1 _
  have hgl : w1.heap.size < (w1.alloc (.cells #[.int .i64 z, .string us] 43)).heap.size := by simp
  simp only at HT ⊢
  cases hzz : (zo && uo) with
  | false =>
    have HF := hide (show takeL s 3 (bl [a, t]) = none by rw [HT.out, if_neg (fun e => by rw [e.1.1, e.1.2] at hzz; cases hzz)])
    clear HT hzz hblk hgl
    go_wp2
    generalize w1.alloc (.cells #[.int .i64 z, .string us] 43) = w2 at HR2 ⊢
    go_quiet (fail)
    go_wp2
    go_ret
    exact TakeP.no HF.out (HR2.out.low (low_drewN _ _))
  | true =>
    have HZ := hide (show zo = true ∧ uo = true by cases zo <;> cases uo <;> simp at hzz ⊢)
    clear hzz
    have HRD := hide (HR2.out.low (below_drew (Below.refl _ _)))
    have HKR := hide (rroom_any w0 p x s n k0 _ HRD.out 3)
    have hN : x.n3 = s.specials.length := HR1.out.m3.len.symm
    have y0 : (w1.alloc (.cells #[.int .i64 z, .string us] 43)).drew.cell? ⟨w1.heap.size, 0, none⟩ = some (.int .i64 z) := by
      show (w1.alloc _).cell? _ = _
      rw [Lib.cell_of_heap hblk]; rfl
    have y1 : (w1.alloc (.cells #[.int .i64 z, .string us] 43)).drew.cell? ⟨w1.heap.size, 1, none⟩ = some (.string us) := by
      show (w1.alloc _).cell? _ = _
      rw [Lib.cell_of_heap hblk]; rfl
    by_cases hok : (x.n3 : Int) < roomI 3 s.ranked ∧ okS (z, us) = true
    · have HK := hide (addSpecial_yes w0 p x s n k0 _ HRD.out (roomI 3 s.ranked) (z, us) hok.1 (roomI_le _ _) hok.2)
      have HF := hide (show takeL s 3 (bl [a, t]) = some { s with specials := s.specials ++ [(z, us)] } by rw [HT.out, if_pos ⟨HZ.out, by rw [← hN]; exact (room_nat3 s x.n3).1 hok.1, hok.2⟩])
      generalize roomI 3 s.ranked = rm at HKR HK
      clear hok HT hblk
      go_wp2
      generalize w1.alloc (.cells #[.int .i64 z, .string us] 43) = w2 at HR2 HRD HKR HK y0 y1 hgl ⊢
      go_region_held3 (fun W' => W'.cell? ⟨w1.heap.size, 0, none⟩ = some (.int .i64 z) ∧ W'.cell? ⟨w1.heap.size, 1, none⟩ = some (.string us)) (first | exact ⟨y0, y1⟩ | go_keep) (first
        | (go_at_call 69; refine HKR.out.mono ?_; rintro e W1 ⟨rfl, rfl⟩)
        | (go_at_call 73; refine HK.out.mono ?_; rintro e W2 ⟨rfl, hx, hfr⟩; have hsame := hfr w1.heap.size hgl (by omega) HAP.out; replace y0 := (cell_same hsame 0).trans y0; replace y1 := (cell_same hsame 1).trans y1; have HX := hide hx; clear hx hfr hsame))
      all_goals
        go_wp2
        go_ret
        obtain ⟨x', hx'⟩ := HX.out
        exact TakeP.yes HF.out hx'
    · have HK := hide (addSpecial_no w0 p x s n k0 _ HRD.out (roomI 3 s.ranked) (z, us) hok)
      have HF := hide (show takeL s 3 (bl [a, t]) = none by rw [HT.out, if_neg (fun e => hok ⟨(room_nat3 s x.n3).2 (by rw [hN]; exact e.2.1), e.2.2⟩)])
      generalize roomI 3 s.ranked = rm at HKR HK
      clear hok HT hblk
      go_wp2
      generalize w1.alloc (.cells #[.int .i64 z, .string us] 43) = w2 at HR2 HRD HKR HK y0 y1 hgl ⊢
      go_region_held3 (fun W' => W'.cell? ⟨w1.heap.size, 0, none⟩ = some (.int .i64 z) ∧ W'.cell? ⟨w1.heap.size, 1, none⟩ = some (.string us)) (first | exact ⟨y0, y1⟩ | go_keep) (first
        | (go_at_call 69; refine HKR.out.mono ?_; rintro e W1 ⟨rfl, rfl⟩)
        | (go_at_call 73; refine HK.out.mono ?_; rintro e W2 ⟨rfl, hx, hfr⟩; have hsame := hfr.block w1.heap.size hgl; replace y0 := (cell_same hsame 0).trans y0; replace y1 := (cell_same hsame 1).trans y1; have HX := hide hx; clear hx hfr hsame))
      all_goals
        go_wp2
        go_ret
        exact TakeP.no HF.out HX.out

set_option maxHeartbeats 8000000 in
set_option maxRecDepth 20000 in
theorem take0_any (w0 : World) (p : Nat) (x : Sv) (s : Sp) (n k0 : Nat) (W : World) (h : RAt w0 p x s n k0 W) (ao : Option Addr) (m cap : Nat) (ws : List ByteArray) (hR : ReadsS W ao m ws) (hbp : ∀ b off, ao = some ⟨b, off, none⟩ → b ≠ p) :
    Calls Tryz.prog 56 #[.pointer (some ⟨p, 0, none⟩), .int .i64 0, .slice ao m cap] W (TakeP w0 p n k0 (takeL s 0 (bl ws))) := by
  have K := rhead_any w0 p x s n k0 W h ao m cap ws hR hbp
  clear h hR hbp
  obtain ⟨res, hres⟩ : ∃ res, takeL s 0 (bl ws) = res := ⟨_, rfl⟩
  rw [hres] at K ⊢
  clear hres
  go_enter Tryz.func56, Tryz.ntmps56
  go_wp2_with fail
  refine K.mono ?_
  clear K
  intro e w1 ht
  cases res with
  | none =>
    obtain ⟨rfl, ht⟩ := ht
    have HT := hide ht
    clear ht
    go_wp2
    go_ret
    exact ⟨rfl, HT.out⟩
  | some s' =>
    obtain ⟨rfl, ht⟩ := ht
    have HT := hide ht
    clear ht
    go_wp2
    go_ret
    exact ⟨rfl, HT.out⟩
set_option maxRecDepth 20000 in
theorem take6_any (w0 : World) (p : Nat) (x : Sv) (s : Sp) (n k0 : Nat) (W : World) (h : RAt w0 p x s n k0 W) (ao : Option Addr) (m cap : Nat) (ws : List ByteArray) :
    Calls Tryz.prog 56 #[.pointer (some ⟨p, 0, none⟩), .int .i64 6, .slice ao m cap] W (TakeP w0 p n k0 (takeL s 6 (bl ws))) := by
  have HF := hide (show takeL s 6 (bl ws) = none by unfold takeL; rfl)
  have HH := hide h
  clear h
  go_enter Tryz.func56, Tryz.ntmps56
  go_wp2
  go_ret
  exact TakeP.no HF.out HH.out
end Go.Proofs.YteiinkhdgppgbaaGreatDoor
