/- Rows of ints; contracts of package chain: ids, Below, Encode, Steps. -/
import Derived.Test.YtdpmjaelbjjanaaGreatZQa19
import Derived.Lib.AppendZeros
import Derived.Deep.Onto
namespace Go.Proofs.YtdpmjaelbjjanaaGreat
open Go.RowKit Go.Maps
set_option linter.unusedVariables false
set_option linter.unusedSimpArgs false
attribute [local go_sem ↓] Go.wp_at_zero Go.wp_at_succ

theorem info_int : (Tryz.prog.info? 3).map (fun i => (i.zero, i.size, i.bytes)) = some (some (.int .i64 0), 1, 8) := by kernel_rfl
/-- Numbers as cells. -/
def iv (l : List Int) : List Value := l.map (Value.int .i64)
theorem iv_len (l : List Int) : (iv l).length = l.length := by simp [iv]
theorem iv_append (l m : List Int) : iv (l ++ m) = iv l ++ iv m := by simp [iv]

theorem run_ints (w : World) (c : Int) (n : Nat) (hc : c = n) (hn : n ≤ 1000000) : Sem.run Tryz.prog (Instr.makeSlice 41 (.int .i64 0) (.int .i64 c)) w = .ok (.slice (some ⟨w.heap.size, 0, none⟩) 0 n) (w.alloc (.cells (madeCells #[.int .i64 0] n) 3)) := by
  subst hc
  obtain ⟨i0, hi, hz0, hz1, hz2⟩ := info_parts info_int
  have := run_make (P := Tryz.prog) w 41 3 i0 _ Tryz.underlying41 hi hz0 .i64 .i64 0 n (by omega) (by omega) (by rw [hz2]; omega) (by omega)
  rw [hz1] at this
  have e : (Value.int .i64 0).cells = #[.int .i64 0] := rfl
  rw [e] at this
  simpa using this
theorem made_ints (w : World) (base n : Nat) (hn : n ≤ 1000000) (hb : base ≤ w.heap.size) : (w.alloc (.cells (madeCells #[.int .i64 0] n) 3)).ownsRow base 3 1 (.slice (some ⟨w.heap.size, 0, none⟩) 0 n) 0 (iv []) :=
  World.ownsRow_made w _ n hb (by unfold maxLen; omega) (by rw [size_madeCells]; omega)

/-- A number is put behind others. -/
theorem app_int (w : World) (base : Nat) (ao : Option Addr) (n cap : Nat) (l : List Int) (x : Int) (h : w.ownsRow base 3 1 (.slice ao n cap) n (iv l)) (hn : n ≤ 1000000) (hb : base ≤ w.heap.size) :
    ∃ g cap1 w1, (Builtin.append_ #[41, 41] 41 #[.slice ao n cap, .slice (some ⟨w.heap.size, 0, none⟩) 1 1]).run Tryz.prog (w.alloc (.cells #[.int .i64 x] 3)) = .ok (.slice (some ⟨g, 0, none⟩) (n + 1) cap1) w1 ∧ w1.ownsRow base 3 1 (.slice (some ⟨g, 0, none⟩) (n + 1) cap1) (n + 1) (iv (l ++ [x])) ∧ Below base w w1 := by
  obtain ⟨i0, hi, hz0, hz1, hz2⟩ := info_parts info_int
  obtain ⟨g, cap1, w1, hrun, hown, hgrow, _, _⟩ := run_append_lies (P := Tryz.prog) (w.alloc (.cells #[.int .i64 x] 3)) 41 41 base 3 i0 _ 1 8 Tryz.underlying41 hi hz0 hz1 hz2 rfl (by omega) (.slice ao n cap) n (iv l) (h.alloc _) ⟨w.heap.size, 0, none⟩ 1 1 [.int .i64 x] rfl (World.news_of_block (heap_alloc_new w _)) (by simp [Value.oneCell']) (by omega) (by unfold maxLen; omega) (by omega) (by simp; omega) (w.heap.size + 1) (by simp)
  refine ⟨g, cap1, w1, hrun, by rw [iv_append]; exact hown, ?_⟩
  have h1 : Below base w (w.alloc (.cells #[.int .i64 x] 3)) := (low1 w _).mono hb
  exact h1.trans ⟨hgrow.os, hgrow.tape, hgrow.output, hgrow.size, fun k hk => hgrow.block k (by simp; omega) (fun e => by have := (h.lt k e.symm).1; omega)⟩

theorem Lay.one {tx : List ByteArray} {ps : List Pt} {E : Nat} (x : Int) (v : List Int) : ∀ (u : List Int) (ah : Int) (at_ : Nat), Lay tx ps E ah at_ (u ++ x :: v) → (gp ps (at_ + pos tx u)).id = x ∧ (gp ps (at_ + pos tx u)).af = ((at_ + pos tx (u ++ [x]) : Nat) : Int) ∧ at_ + pos tx u < E ∧ 0 < sz tx x ∧ (0 ≤ x ∧ x < tx.length)
  | [], ah, at_, h => by
    obtain ⟨g1, g2, g3, g4, g5, g6⟩ := h
    simp only [pos, Nat.add_zero, List.nil_append]
    rw [g4]
    exact ⟨rfl, rfl, by omega, g2, g1⟩
  | y :: u, ah, at_, h => by
    obtain ⟨g1, g2, g3, g4, g5, g6⟩ := h
    have := Lay.one x v u _ _ g6
    simp only [pos, List.cons_append]
    rw [show at_ + (sz tx y + pos tx u) = at_ + sz tx y + pos tx u by omega, show at_ + (sz tx y + pos tx (u ++ [x])) = at_ + sz tx y + pos tx (u ++ [x]) by omega]
    exact this

section
variable {base : Nat} {F : List Nat} {pT : Nat} {v0 v1 : Value} {b2 b3 : Nat} {tx : List ByteArray} {mg : List (Int × Int)} {q : Nat} {bl : Int} {vp : Value} {h : Nat}

set_option maxRecDepth 20000 in
set_option maxHeartbeats 8000000 in
theorem ids_any {N : Nat} {X : List Int} {w0 w : World} {ps : List Pt} {hv : Value} {tn : Int} {l : List Hq.It} {st : Int} {T : List Int} (hN : N ≤ 100000) (I : SeI base F pT v0 v1 b2 b3 tx mg q bl vp h N X w0 ps hv tn l st T w) :
    Calls Tryz.prog 147 #[.pointer (some ⟨q, 0, none⟩)] w fun e w' => (∃ v, e = .returned v ∧ w'.ownsRow w.heap.size 3 1 v T.length (iv T)) ∧ Below w.heap.size w w' := by
  obtain ⟨ao, cap, hvp⟩ := row_form I.r.prow
  subst hvp
  obtain ⟨q0, q1, q2, q3, q4, qf⟩ := I.r.cs
  have hst := I.st1
  have hst0 := I.st0
  have hlen := I.len
  have HMK := fun w => run_ints w ((ps.length : Int) - st) T.length (by omega) (by omega)
  have hb1 : (ps.length : Int) ≤ 100000 := by omega
  have hb2 : st ≤ 100000 := by omega
  have HI := hide I
  have HT := hide (show T.length ≤ 100000 by omega)
  clear I hst hlen
  go_enter Tryz.func147, Tryz.ntmps147
  go_wp2
  go_region
  have HB0 : Hid (Below w.heap.size w (w.alloc (.cells (madeCells #[.int .i64 0] T.length) 3)).drew) := hide (low1 w _).drew
  have HR0 : Hid ((w.alloc (.cells (madeCells #[.int .i64 0] T.length) 3)).drew.ownsRow w.heap.size 3 1 (.slice (some ⟨w.heap.size, 0, none⟩) 0 T.length) 0 (iv [])) := hide (made_ints w w.heap.size T.length (by have := HT.out; omega) (Nat.le_refl _))
  generalize (w.alloc (.cells (madeCells #[.int .i64 0] T.length) 3)).drew = W0 at *
  clear HMK q0 q1 q2 q3 q4 qf hst0 hb2
  go_wp2
  go_loopw [3, 4] (fun a i wr => ∃ (u v : List Int) (ao : Option Addr) (cap : Nat), a = .slice ao u.length cap ∧ i = .int .i64 (pos tx u) ∧ Hid (T = u ++ v) ∧ Hid (wr.ownsRow w.heap.size 3 1 (.slice ao u.length cap) u.length (iv u)) ∧ Hid (Below w.heap.size w wr)) (fun _ i _ => N - (intOf i).toNat)
  case atStart => exact ⟨[], T, _, _, rfl, rfl, hide rfl, HR0, HB0⟩
  case round =>
    obtain ⟨u, v, ao1, cap1, rfl, rfl, HTu, HRu, HBu⟩ := hrel
    clear HR0 HB0
    have r := HI.out.r.kept HBu.out
    obtain ⟨q0, q1, q2, q3, q4, qf⟩ := r.cs
    have hlay := HI.out.s.lay
    have hlen := HI.out.len
    rw [HTu.out] at hlay
    have hpn : pos tx (u ++ v) = ps.length := by have := Lay.len _ _ _ hlay; omega
    rw [pos_append] at hpn
    cases v with
    | nil =>
      have hp : pos tx u = ps.length := by simpa [pos] using hpn
      have hlt : ¬ ((pos tx u : Int) < (ps.length : Int)) := by omega
      have HFIN : Hid (u = T) := hide (by rw [HTu.out]; simp)
      clear hlay hpn hlen r hp
      go_wp2
      go_ret
      refine ⟨⟨_, rfl, ?_⟩, HBu.out⟩
      rw [← HFIN.out]
      exact HRu.out
    | cons x v =>
      have hone := Lay.one x v u _ _ hlay
      simp only [Nat.zero_add] at hone
      obtain ⟨o1, o2, o3, o4, o5⟩ := hone
      obtain ⟨g, cg, hvg, hgl, c0, c1, c2⟩ := r.part o3
      simp only [Value.slice.injEq] at hvg
      obtain ⟨rfl, _, rfl⟩ := hvg
      rw [o1] at c0
      rw [o2] at c2
      have hp0 : (0 : Int) ≤ (pos tx u : Int) := by omega
      have hp1 : (pos tx u : Int) < (ps.length : Int) := by omega
      have hul : u.length ≤ 100000 := by have h1 := HT.out; rw [HTu.out] at h1; simp at h1; omega
      obtain ⟨g1, cap2, w1, hrun, hown, hB1⟩ := app_int wr w.heap.size ao1 u.length cap1 u x HRu.out (by omega) HBu.out.size
      have HRUN := hide hrun
      have HB2 := hide (HBu.out.trans hB1)
      have HR2 : Hid (w1.ownsRow w.heap.size 3 1 (.slice (some ⟨g1, 0, none⟩) (u ++ [x]).length cap2) (u ++ [x]).length (iv (u ++ [x]))) := hide (by simpa using hown)
      have r1 := HI.out.r.kept HB2.out
      obtain ⟨p0, p1, p2, p3, p4, pf⟩ := r1.cs
      obtain ⟨g', cg', hvg, hgl', d0, d1, d2⟩ := r1.part o3
      simp only [Value.slice.injEq, Option.some.injEq, Addr.mk.injEq, and_true, true_and] at hvg
      obtain ⟨rfl, rfl⟩ := hvg
      rw [o2] at d2
      have HTu2 : Hid (T = (u ++ [x]) ++ v) := hide (by rw [HTu.out]; simp)
      have HSZ := hide (show pos tx (u ++ [x]) = pos tx u + sz tx x by rw [pos_append]; simp [pos])
      have HO := hide (And.intro o3 (And.intro o4 hlen))
      clear hrun hown hB1 hlay hpn r r1 o1 o2 o3 o4 o5 c1 d0 d1 hlen
      go_wp2_with (at_builtin; refine Lib.wpList_append_run _ rfl _ _ _ _ rfl _ _ rfl rfl _ _ HRUN.out ?_)
      exact ⟨⟨u ++ [x], v, _, cap2, by simp, rfl, HTu2, HR2, HB2⟩, by have h1 := HSZ.out; have h2 := HO.out; simp [intOf]; omega⟩
end

section
variable {F : List Nat} {pT : Nat} {v0 v1 : Value} {b2 b3 : Nat} {tx : List ByteArray} {mg : List (Int × Int)}

/-- What is made of bytes by the tokens below a number. -/
def made (mg : List (Int × Int)) (bl : Int) (s : ByteArray) : List Int := enc mg (rnds mg bl) (bys s s.size)

theorem SeI.fin {base : Nat} {q : Nat} {bl : Int} {vp : Value} {h : Nat} {N : Nat} {X : List Int} {w wr : World} {ps : List Pt} {hv : Value} {tn : Int} {st : Int} {T : List Int} (I : SeI base F pT v0 v1 b2 b3 tx mg q bl vp h N X w ps hv tn [] st T wr) : T = X := by
  rw [← I.e]
  exact I.s.done.symm

set_option maxRecDepth 20000 in
set_option maxHeartbeats 4000000 in
theorem below_any (w : World) (hT : TAt F pT v0 v1 b2 b3 tx mg (lgs tx) w) (hk : Tok tx mg) (s : ByteArray) (hs : s.size ≤ 100000) (bl : Int) :
    Calls Tryz.prog 118 #[.pointer (some ⟨pT, 0, none⟩), .string s, .int .i64 bl] w fun e w' => (∃ v, e = .returned v ∧ w'.ownsRow w.heap.size 3 1 v (made mg bl s).length (iv (made mg bl s))) ∧ Below w.heap.size w w' := by
  have HR := hide (rowOf_any w hT hk s hs bl)
  clear hT
  go_enter Tryz.func118, Tryz.ntmps118
  go_wp2_with fail
  refine (unhide HR).mono ?_
  rintro e w1 ⟨q, vp, h, ps, hv, tn, l, rfl, hI, hb1⟩
  have HS := hide (settle_any s.size _ w1 hk hs hI)
  clear hI
  go_wp2_with fail
  refine (unhide HS).mono ?_
  rintro e w2 ⟨rfl, ps2, hv2, tn2, st2, T2, hI2⟩
  have hfin := hI2.fin
  subst hfin
  have HD := hide (ids_any hs hI2)
  have hb2 := hb1.trans hI2.B
  clear hI2
  go_wp2_with fail
  refine (unhide HD).mono ?_
  rintro e w3 ⟨⟨v, rfl, hv3⟩, hb3⟩
  obtain ⟨ao, cap, hvv⟩ := row_form hv3
  subst hvv
  go_wp2
  go_ret
  exact ⟨⟨_, rfl, World.ownsRow.mono hv3 hb2.size⟩, hb2.trans (hb3.mono hb2.size)⟩

set_option maxRecDepth 20000 in
set_option maxHeartbeats 4000000 in
theorem encode_any (w : World) (hT : TAt F pT v0 v1 b2 b3 tx mg (lgs tx) w) (hk : Tok tx mg) (s : ByteArray) (hs : s.size ≤ 100000) :
    Calls Tryz.prog 78 #[.pointer (some ⟨pT, 0, none⟩), .string s] w fun e w' => (∃ v, e = .returned v ∧ w'.ownsRow w.heap.size 3 1 v (made mg tx.length s).length (iv (made mg tx.length s))) ∧ Below w.heap.size w w' := by
  have HL := hide (tlen_any hT)
  have HB := hide (below_any w hT hk s hs tx.length)
  clear hT
  go_enter Tryz.func78, Tryz.ntmps78
  go_wp2_with fail
  refine (unhide HL).mono ?_
  rintro e w1 ⟨rfl, hw⟩
  have hw2 := hw.symm
  subst hw2
  go_wp2_with fail
  refine (unhide HB).mono ?_
  rintro e w3 ⟨⟨v, rfl, hv3⟩, hb3⟩
  obtain ⟨ao, cap, hvv⟩ := row_form hv3
  subst hvv
  go_wp2
  go_ret
  exact ⟨⟨_, rfl, hv3⟩, hb3⟩

end

end Go.Proofs.YtdpmjaelbjjanaaGreat
