/- The document's Same, of two specs that are the same. -/
import Derived.Test.YtoihocbnhoniaaaGreatDoorQl8
import Derived.Test.YtoihocbnhoniaaaGreatDoorQl7
import Derived.Laws.StructEq
namespace Go.Proofs.YtoihocbnhoniaaaGreatDoor.Wf
open Go.RowKit
set_option linter.unusedVariables false
set_option linter.unusedSimpArgs false

theorem neqM (a b : Int) (w : World) : (binOp .neq 70 (.agg #[.int .i64 a, .int .i64 b]) (.agg #[.int .i64 a, .int .i64 b])).run Tryz.prog w = .ok (.bool false) w := by
  have u3 := Tryz.underlying3
  have a3 := Tryz.isAgg3
  have z3 := Tryz.sizeOf3
  have hS : Tryz.prog.underlying 70 = some (.struct (Tryz.prog.fieldsOf 70)) := by kernel_rfl
  have hp : Tryz.prog.stoodInHeld 70 = false := by kernel_rfl
  rw [run_neq_struct, show (10000 : Nat) = 9999 + 1 from rfl, run_equalIn_agg w 9999 70 _ _ hS hp]
  simp only [Program.fieldsOf, Tryz.underlying70]
  go_simp
theorem neqJ (a b : Int) (w : World) : (binOp .neq 93 (.agg #[.int .i64 a, .int .i64 b]) (.agg #[.int .i64 a, .int .i64 b])).run Tryz.prog w = .ok (.bool false) w := by
  have u3 := Tryz.underlying3
  have a3 := Tryz.isAgg3
  have z3 := Tryz.sizeOf3
  have hS : Tryz.prog.underlying 93 = some (.struct (Tryz.prog.fieldsOf 93)) := by kernel_rfl
  have hp : Tryz.prog.stoodInHeld 93 = false := by kernel_rfl
  rw [run_neq_struct, show (10000 : Nat) = 9999 + 1 from rfl, run_equalIn_agg w 9999 93 _ _ hS hp]
  simp only [Program.fieldsOf, Tryz.underlying93]
  go_simp
theorem neqC (a b c : Int) (w : World) : (binOp .neq 72 (.agg #[.int .i64 a, .int .i64 b, .int .i64 c]) (.agg #[.int .i64 a, .int .i64 b, .int .i64 c])).run Tryz.prog w = .ok (.bool false) w := by
  have u3 := Tryz.underlying3
  have a3 := Tryz.isAgg3
  have z3 := Tryz.sizeOf3
  have hS : Tryz.prog.underlying 72 = some (.struct (Tryz.prog.fieldsOf 72)) := by kernel_rfl
  have hp : Tryz.prog.stoodInHeld 72 = false := by kernel_rfl
  rw [run_neq_struct, show (10000 : Nat) = 9999 + 1 from rfl, run_equalIn_agg w 9999 72 _ _ hS hp]
  simp only [Program.fieldsOf, Tryz.underlying72]
  go_simp
theorem neqS (a : Int) (b : ByteArray) (w : World) : (binOp .neq 67 (.agg #[.int .i64 a, .string b]) (.agg #[.int .i64 a, .string b])).run Tryz.prog w = .ok (.bool false) w := by
  have u3 := Tryz.underlying3
  have a3 := Tryz.isAgg3
  have z3 := Tryz.sizeOf3
  have u9 := Tryz.underlying9
  have a9 := Tryz.isAgg9
  have z9 := Tryz.sizeOf9
  have hS : Tryz.prog.underlying 67 = some (.struct (Tryz.prog.fieldsOf 67)) := by kernel_rfl
  have hp : Tryz.prog.stoodInHeld 67 = false := by kernel_rfl
  rw [run_neq_struct, show (10000 : Nat) = 9999 + 1 from rfl, run_equalIn_agg w 9999 67 _ _ hS hp]
  simp only [Program.fieldsOf, Tryz.underlying67]
  go_simp

/-- Two specs that are the same, in two boxes. -/
structure SmI (w : World) (q1 q2 : Nat) (x y : Sv) (s : Sp) (W : World) : Prop where
  sx : SpAt W x s
  sy : SpAt W y s
  bx : BxS q1 x W
  bz : BxS q2 y W
  l1 : q1 < W.heap.size
  l2 : q2 < W.heap.size
  bel : Below w.heap.size w W
theorem SmI.next {w : World} {q1 q2 : Nat} {x y : Sv} {s : Sp} {W W' : World} (h : SmI w q1 q2 x y s W) (hb : Below W.heap.size W W') : SmI w q1 q2 x y s W' :=
  ⟨h.sx.kept hb, h.sy.kept hb, h.bx.kept h.l1 hb, h.bz.kept h.l2 hb, Nat.lt_of_lt_of_le h.l1 hb.size, Nat.lt_of_lt_of_le h.l2 hb.size, h.bel.trans (hb.mono h.bel.size)⟩
theorem SmI.new {w : World} {x y : Sv} {s : Sp} (hx : SpAt w x s) (hy : SpAt w y s) (T : TypeId) : SmI w w.heap.size (w.heap.size + 1) x y s ((w.alloc (.cells x.cs T)).alloc (.cells y.cs T)) := by
  have h1 := low_alloc w (.cells x.cs T)
  have h2 := low_alloc (w.alloc (.cells x.cs T)) (.cells y.cs T)
  have hs : (w.alloc (.cells x.cs T)).heap.size = w.heap.size + 1 := alloc_size _ _
  have hb := BxS.new (w.alloc (.cells x.cs T)) y T
  rw [hs] at hb
  exact ⟨(hx.kept h1).kept h2, (hy.kept h1).kept h2, (BxS.new w x T).kept (by simp) h2, hb, by simp; omega, by simp, h1.trans (h2.mono h1.size)⟩
theorem low_drewN2 (w : World) (n : Nat) : Below w.heap.size w (w.drewN n) := ⟨rfl, rfl, rfl, Nat.le_refl _, fun _ _ => rfl⟩

set_option maxHeartbeats 16000000 in
set_option maxRecDepth 20000 in
theorem same_any (x y : Sv) (s : Sp) (w : World) (hx : SpAt w x s) (hy : SpAt w y s) (hn1 : x.n1 ≤ 1000) (hn2 : x.n2 ≤ 1000) (hn3 : x.n3 ≤ 1000) (hn4 : x.n4 ≤ 1000) (hn5 : x.n5 ≤ 1000) :
    Calls Tryz.prog 16 #[.agg x.cs, .agg y.cs] w fun e w' => e = .returned (.bool true) ∧ Below w.heap.size w w' := by
  have HI := hide (SmI.new hx hy 28)
  have e0 : y.r = x.r := hy.r.trans hx.r.symm
  have e1 : y.n1 = x.n1 := hy.ms.1.symm.trans hx.ms.1
  have e2 : y.n2 = x.n2 := hy.ts.1.symm.trans hx.ts.1
  have e3 : y.n3 = x.n3 := hy.ss.1.symm.trans hx.ss.1
  have e4 : y.n4 = x.n4 := hy.cs.1.symm.trans hx.cs.1
  have e5 : y.n5 = x.n5 := hy.js.1.symm.trans hx.js.1
  have HEQ := hide (And.intro e0 (And.intro e1 (And.intro e2 (And.intro e3 (And.intro e4 e5)))))
  clear hx hy
  have FB : Hid (∀ W, SmI w w.heap.size (w.heap.size + 1) x y s W → W.cell? ⟨w.heap.size + 1, 0, none⟩ = some (.bool x.r) ∧ W.cell? ⟨w.heap.size + 1, 1, none⟩ = some (.slice y.a1 x.n1 y.c1) ∧ W.cell? ⟨w.heap.size + 1, 2, none⟩ = some (.slice y.a2 x.n2 y.c2) ∧ W.cell? ⟨w.heap.size + 1, 3, none⟩ = some (.slice y.a3 x.n3 y.c3) ∧ W.cell? ⟨w.heap.size + 1, 4, none⟩ = some (.slice y.a4 x.n4 y.c4) ∧ W.cell? ⟨w.heap.size + 1, 5, none⟩ = some (.slice y.a5 x.n5 y.c5)) := by
    refine hide fun W hW => ?_
    obtain ⟨z0, z1, z2, z3, z4, z5⟩ := hW.bz
    rw [e0] at z0; rw [e1] at z1; rw [e2] at z2; rw [e3] at z3; rw [e4] at z4; rw [e5] at z5
    exact ⟨z0, z1, z2, z3, z4, z5⟩
  have HT : Hid (∀ W, SmI w w.heap.size (w.heap.size + 1) x y s W → Calls Tryz.prog 45 #[.slice x.a2 x.n2 x.c2, .slice y.a2 x.n2 y.c2] W fun e w' => e = .returned (.bool true) ∧ Below W.heap.size W w') := by
    refine hide fun W hW => ?_
    have h2 := hW.sy.ts
    rw [e2] at h2
    exact texts_same W _ _ _ _ _ _ hW.sx.ts h2 (by omega)
  clear e0 e1 e2 e3 e4 e5
  obtain ⟨y0, y1, y2, y3, y4, y5⟩ := HI.out.bx
  obtain ⟨z0, z1, z2, z3, z4, z5⟩ := FB.out _ HI.out
  go_enter Tryz.func16, Tryz.ntmps16
  go_wp2_with fail
  refine (HT.out _ HI.out).mono ?_
  clear y0 y1 y2 y3 y4 y5 z0 z1 z2 z3 z4 z5 HT
  rintro e w1 ⟨rfl, hb1⟩
  replace HI := hide (HI.out.next hb1)
  clear hb1
  obtain ⟨y0, y1, y2, y3, y4, y5⟩ := HI.out.bx
  obtain ⟨z0, z1, z2, z3, z4, z5⟩ := FB.out _ HI.out
  go_wp2
  go_loopw [5] (fun i wr => ∃ (k : Nat), i = .int .i64 k ∧ k ≤ x.n1 ∧ Hid (SmI w w.heap.size (w.heap.size + 1) x y s wr)) (fun i _ => x.n1 - (intOf i).toNat)
  case atStart => exact ⟨0, rfl, Nat.zero_le _, HI⟩
  case round =>
    clear HI y0 y1 y2 y3 y4 y5 z0 z1 z2 z3 z4 z5
    obtain ⟨k, rfl, hk, HI⟩ := hrel
    obtain ⟨y0, y1, y2, y3, y4, y5⟩ := HI.out.bx
    obtain ⟨z0, z1, z2, z3, z4, z5⟩ := FB.out _ HI.out
    by_cases hlt : k < x.n1
    · have hk0 : (0 : Int) ≤ (k : Int) := by omega
      have hk1 : (k : Int) < (x.n1 : Int) := by omega
      rcases HI.out.sx.ms.2 with h0 | ⟨b, off, hao, hbl, hc⟩
      · omega
      rcases HI.out.sy.ms.2 with h0 | ⟨b', off', hao', hbl', hc'⟩
      · have := HEQ.out.2.1; omega
      obtain ⟨c0, c1⟩ := hc k hlt
      obtain ⟨d0, d1⟩ := hc' k (by have := HEQ.out.2.1; omega)
      clear hc hc'
      generalize gM s.merges k = m at c0 c1 d0 d1
      rw [hao] at y1
      rw [hao'] at z1
      have hneq := neqM m.1 m.2
      go_wp2
      go_quiet (fail)
      have HI2 := hide (HI.out.next (low_drewN2 wr nq))
      go_wp2
      first
        | exact ⟨⟨k + 1, by go_num, by omega, HI2⟩, by simp [intOf]; omega⟩
        | (go_roundw
           case rel => exact ⟨k + 1, by go_num, by omega, HI2⟩
           case measure => simp [intOf]; omega)
    · have hkn : k = x.n1 := by omega
      subst hkn
      clear hlt hk
      go_wp2
      go_loopw [6] (fun i wr => ∃ (k : Nat), i = .int .i64 k ∧ k ≤ x.n3 ∧ Hid (SmI w w.heap.size (w.heap.size + 1) x y s wr)) (fun i _ => x.n3 - (intOf i).toNat)
      case atStart => exact ⟨0, rfl, Nat.zero_le _, HI⟩
      case round =>
        clear HI y0 y1 y2 y3 y4 y5 z0 z1 z2 z3 z4 z5
        obtain ⟨k, rfl, hk, HI⟩ := hrel
        obtain ⟨y0, y1, y2, y3, y4, y5⟩ := HI.out.bx
        obtain ⟨z0, z1, z2, z3, z4, z5⟩ := FB.out _ HI.out
        by_cases hlt : k < x.n3
        · have hk0 : (0 : Int) ≤ (k : Int) := by omega
          have hk1 : (k : Int) < (x.n3 : Int) := by omega
          rcases HI.out.sx.ss.2 with h0 | ⟨b, off, hao, hbl, hc⟩
          · omega
          rcases HI.out.sy.ss.2 with h0 | ⟨b', off', hao', hbl', hc'⟩
          · have := HEQ.out.2.2.2.1; omega
          obtain ⟨c0, c1⟩ := hc k hlt
          obtain ⟨d0, d1⟩ := hc' k (by have := HEQ.out.2.2.2.1; omega)
          clear hc hc'
          generalize gS s.specials k = m at c0 c1 d0 d1
          rw [hao] at y3
          rw [hao'] at z3
          have hneq := neqS m.1 m.2
          go_wp2
          go_quiet (fail)
          have HI2 := hide (HI.out.next (low_drewN2 wr nq))
          go_wp2
          first
            | exact ⟨⟨k + 1, by go_num, by omega, HI2⟩, by simp [intOf]; omega⟩
            | (go_roundw
               case rel => exact ⟨k + 1, by go_num, by omega, HI2⟩
               case measure => simp [intOf]; omega)
        · have hkn : k = x.n3 := by omega
          subst hkn
          clear hlt hk
          go_wp2
          go_loopw [7] (fun i wr => ∃ (k : Nat), i = .int .i64 k ∧ k ≤ x.n4 ∧ Hid (SmI w w.heap.size (w.heap.size + 1) x y s wr)) (fun i _ => x.n4 - (intOf i).toNat)
          case atStart => exact ⟨0, rfl, Nat.zero_le _, HI⟩
          case round =>
            clear HI y0 y1 y2 y3 y4 y5 z0 z1 z2 z3 z4 z5
            obtain ⟨k, rfl, hk, HI⟩ := hrel
            obtain ⟨y0, y1, y2, y3, y4, y5⟩ := HI.out.bx
            obtain ⟨z0, z1, z2, z3, z4, z5⟩ := FB.out _ HI.out
            by_cases hlt : k < x.n4
            · have hk0 : (0 : Int) ≤ (k : Int) := by omega
              have hk1 : (k : Int) < (x.n4 : Int) := by omega
              rcases HI.out.sx.cs.2 with h0 | ⟨b, off, hao, hbl, hc⟩
              · omega
              rcases HI.out.sy.cs.2 with h0 | ⟨b', off', hao', hbl', hc'⟩
              · have := HEQ.out.2.2.2.2.1; omega
              obtain ⟨c0, c1, c2⟩ := hc k hlt
              obtain ⟨d0, d1, d2⟩ := hc' k (by have := HEQ.out.2.2.2.2.1; omega)
              clear hc hc'
              generalize gC s.classes k = m at c0 c1 c2 d0 d1 d2
              rw [hao] at y4
              rw [hao'] at z4
              have hneq := neqC m.1 m.2.1 m.2.2
              go_wp2
              go_quiet (fail)
              have HI2 := hide (HI.out.next (low_drewN2 wr nq))
              go_wp2
              first
                | exact ⟨⟨k + 1, by go_num, by omega, HI2⟩, by simp [intOf]; omega⟩
                | (go_roundw
                   case rel => exact ⟨k + 1, by go_num, by omega, HI2⟩
                   case measure => simp [intOf]; omega)
            · have hkn : k = x.n4 := by omega
              subst hkn
              clear hlt hk
              go_wp2
              go_loopw [8] (fun i wr => ∃ (k : Nat), i = .int .i64 k ∧ k ≤ x.n5 ∧ Hid (SmI w w.heap.size (w.heap.size + 1) x y s wr)) (fun i _ => x.n5 - (intOf i).toNat)
              case atStart => exact ⟨0, rfl, Nat.zero_le _, HI⟩
              case round =>
                clear HI y0 y1 y2 y3 y4 y5 z0 z1 z2 z3 z4 z5
                obtain ⟨k, rfl, hk, HI⟩ := hrel
                obtain ⟨y0, y1, y2, y3, y4, y5⟩ := HI.out.bx
                obtain ⟨z0, z1, z2, z3, z4, z5⟩ := FB.out _ HI.out
                by_cases hlt : k < x.n5
                · have hk0 : (0 : Int) ≤ (k : Int) := by omega
                  have hk1 : (k : Int) < (x.n5 : Int) := by omega
                  rcases HI.out.sx.js.2 with h0 | ⟨b, off, hao, hbl, hc⟩
                  · omega
                  rcases HI.out.sy.js.2 with h0 | ⟨b', off', hao', hbl', hc'⟩
                  · have := HEQ.out.2.2.2.2.2; omega
                  obtain ⟨c0, c1⟩ := hc k hlt
                  obtain ⟨d0, d1⟩ := hc' k (by have := HEQ.out.2.2.2.2.2; omega)
                  clear hc hc'
                  generalize gM s.joins k = m at c0 c1 d0 d1
                  rw [hao] at y5
                  rw [hao'] at z5
                  have hneq := neqJ m.1 m.2
                  go_wp2
                  go_quiet (fail)
                  have HI2 := hide (HI.out.next (low_drewN2 wr nq))
                  go_wp2
                  first
                    | exact ⟨⟨k + 1, by go_num, by omega, HI2⟩, by simp [intOf]; omega⟩
                    | (go_roundw
                       case rel => exact ⟨k + 1, by go_num, by omega, HI2⟩
                       case measure => simp [intOf]; omega)
                · have hkn : k = x.n5 := by omega
                  subst hkn
                  clear hlt hk
                  go_wp2
                  go_ret
                  exact ⟨rfl, HI.out.bel⟩
end Go.Proofs.YtoihocbnhoniaaaGreatDoor.Wf
