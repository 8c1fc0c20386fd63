/- BoundTables: the walk. -/
import Derived.Test.YtlfffalfnnmliaaBdI
namespace Go.Proofs.Ytlfffalfnnmliaa
open Go.RowKit
set_option linter.unusedVariables false
set_option linter.unusedSimpArgs false

theorem byteU {a : Int} (h : 0 ≤ a ∧ a ≤ 255) : ∃ x : UInt8, a = (x.toNat : Int) := ⟨UInt8.ofNat a.toNat, by simp; omega⟩
/-- The program's table, and the document's in a box. -/
structure BtI (w : World) (p : Nat) (q : Nat) (ao : Option Addr) (n c1 : Nat) (C : List (Int × Int × Int)) (bo : Option Addr) (m c2 : Nat) (J : List (Int × Int)) (W : World) : Prop where
  b : RbI w q ao n c1 C bo m c2 J W
  t : BAt p (fun b => cls C b) (fun a b => decide (((a : Int), (b : Int)) ∈ J)) W
theorem BtI.next {w : World} {p q : Nat} {ao : Option Addr} {n c1 : Nat} {C : List (Int × Int × Int)} {bo : Option Addr} {m c2 : Nat} {J : List (Int × Int)} {W W' : World} (h : BtI w p q ao n c1 C bo m c2 J W) (hb : Below W.heap.size W W') : BtI w p q ao n c1 C bo m c2 J W' := ⟨h.b.next hb, h.t.kept hb⟩

theorem BtI.drew {w : World} {p q : Nat} {ao : Option Addr} {n c1 : Nat} {C : List (Int × Int × Int)} {bo : Option Addr} {m c2 : Nat} {J : List (Int × Int)} {W : World} (h : BtI w p q ao n c1 C bo m c2 J W) : BtI w p q ao n c1 C bo m c2 J W.drew := h.next ⟨rfl, rfl, rfl, Nat.le_refl _, fun _ _ => rfl⟩

set_option maxRecDepth 20000 in
set_option maxHeartbeats 8000000 in
theorem btables_walk (ao : Option Addr) (n c1 : Nat) (C : List (Int × Int × Int)) (bo : Option Addr) (m c2 : Nat) (J : List (Int × Int)) (a b : Int) (w : World) (hC : RdC w ao n C) (hn : n ≤ 9223372036854775807) (hJ : RdJ w bo m J) (hm : m ≤ 9223372036854775807) (ha : 0 ≤ a ∧ a ≤ 255) (hb : 0 ≤ b ∧ b ≤ 255) :
    Calls Try.prog 7 #[.slice ao n c1, .slice bo m c2, .int .u8 a, .int .u8 b] w fun e w' => e = .returned (.bool true) ∧ Below w.heap.size w w' := by
  obtain ⟨x, rfl⟩ := byteU ha
  obtain ⟨y, rfl⟩ := byteU hb
  clear ha hb
  go_enter Try.func7, Try.ntmps7
  by_cases hb1 : 100 < n
  · have hd : (100 : Int) < (n : Int) := by omega
    go_wp2_with fail
    refine (awake8_any _).mono ?_
    rintro e w1 ⟨rfl, hb1⟩
    go_wp2
    go_ret
    exact ⟨rfl, hb1⟩
  have hd1 : ¬ (100 : Int) < (n : Int) := by omega
  by_cases hb2 : 100 < m
  · have hd : (100 : Int) < (m : Int) := by omega
    go_wp2_with fail
    refine (awake8_any _).mono ?_
    rintro e w1 ⟨rfl, hb1⟩
    go_wp2
    go_ret
    exact ⟨rfl, hb1⟩
  have hd2 : ¬ (100 : Int) < (m : Int) := by omega
  have HN := hide (bnew_any ao n c1 C bo m c2 J w hC hJ (by omega) (by omega))
  have HC := hide hC
  have HJ := hide hJ
  clear hC hJ
  go_wp2_with fail
  refine (unhide HN).mono ?_
  rintro e w1 ⟨hP, hb1⟩
  have HB1 := hide hb1
  have HI := hide (RbI.new (HC.out.kept hb1) (HJ.out.kept hb1) c1 c2)
  clear hb1 HN
  rcases hP with ⟨hno, rfl⟩ | ⟨hok, p, rfl, hB⟩
  · have HR := hide (rright8_any (c1 := c1) (c2 := c2) HI.out.c HI.out.j (by omega) (by omega))
    have HNO := hide hno
    clear hno
    go_wp2_with fail
    generalize w1.alloc (.cells #[.slice ao n c1, .slice bo m c2] 59) = w2 at *
    refine (unhide HR).mono ?_
    rintro e w3 ⟨hRG, hb3⟩
    have HB3 := hide (HI.out.next hb3).B
    rcases hRG with ⟨rfl, hok⟩ | ⟨rfl, -⟩
    · exact absurd hok HNO.out
    clear HR hb3 HI
    go_wp2_with fail
    refine (awake8_any _).mono ?_
    rintro e w4 ⟨rfl, hb4⟩
    go_wp2
    go_ret
    exact ⟨rfl, HB1.out.trans ((HB3.out.trans (hb4.mono HB3.out.size)).mono HB1.out.size)⟩
  · have HT0 := hide (hB.kept (low8 w1 (.cells #[.slice ao n c1, .slice bo m c2] 59)))
    have HOK := hide hok
    have HR := hide (rright8_any (c1 := c1) (c2 := c2) HI.out.c HI.out.j (by omega) (by omega))
    clear hB hok
    go_wp2_with fail
    generalize w1.alloc (.cells #[.slice ao n c1, .slice bo m c2] 59) = w2 at *
    refine (unhide HR).mono ?_
    rintro e w3 ⟨hRG, hb3⟩
    have HI3 : Hid (BtI w1 p w1.heap.size ao n c1 C bo m c2 J w3) := hide ⟨HI.out.next hb3, HT0.out.kept hb3⟩
    rcases hRG with ⟨rfl, -⟩ | ⟨rfl, hno⟩
    rotate_left
    · exact absurd HOK.out hno
    clear HR hb3 HI HT0
    have K : Hid (∀ W W', BtI w1 p w1.heap.size ao n c1 C bo m c2 J W → Below W.heap.size W W' → BtI w1 p w1.heap.size ao n c1 C bo m c2 J W') := hide (fun _ _ h hb => h.next hb)
    have HK1 := hide (fun (P : Wd (BtI w1 p w1.heap.size ao n c1 C bo m c2 J)) (z : UInt8) => Calls.toW K.out P ((class_any P.h.t z.toNat z.toNat_lt).mono fun e w' ⟨he, hw⟩ => ⟨he, hw ▸ Below.refl _ _⟩))
    have HK2 := hide (fun (P : Wd (BtI w1 p w1.heap.size ao n c1 C bo m c2 J)) (z : UInt8) => Calls.toW K.out P (rclass_any (c1 := c1) (c2 := c2) P.h.b.c P.h.b.j (by omega) (z.toNat : Int) (by have := z.toNat_lt; omega)))
    have HK3 := hide (fun (P : Wd (BtI w1 p w1.heap.size ao n c1 C bo m c2 J)) (y z : UInt8) => Calls.toW K.out P ((cutsT (P.h.t.tb HOK.out.1) y z).mono fun e w' ⟨he, hw⟩ => ⟨he, hw ▸ Below.refl _ _⟩))
    have HK4 := hide (fun (P : Wd (BtI w1 p w1.heap.size ao n c1 C bo m c2 J)) (y z : UInt8) => Calls.toW K.out P (rcuts_any (c1 := c1) (c2 := c2) P.h.b.c P.h.b.j (by omega) (by omega) (y.toNat : Int) (z.toNat : Int) (by have := y.toNat_lt; omega) (by have := z.toNat_lt; omega)))
    have HK5 := hide (fun (P : Wd (BtI w1 p w1.heap.size ao n c1 C bo m c2 J)) => Calls.toW K.out P (awake8_any P.W))
    have hcaa : cutP C J (x.toNat : Int) (x.toNat : Int) = false := by simp [cutP]
    have e0 : ∀ P : Wd (BtI w1 p w1.heap.size ao n c1 C bo m c2 J), P.W.cell? ⟨w1.heap.size, 0, none⟩ = some (.slice ao n c1) := fun P => P.h.b.b0
    have e1 : ∀ P : Wd (BtI w1 p w1.heap.size ao n c1 C bo m c2 J), P.W.cell? ⟨w1.heap.size, 1, none⟩ = some (.slice bo m c2) := fun P => P.h.b.b1
    have ne : Nonempty (Wd (BtI w1 p w1.heap.size ao n c1 C bo m c2 J)) := ⟨⟨_, HI3.out⟩⟩
    go_wp2
    refine region_class (α := Wd (BtI w1 p w1.heap.size ao n c1 C bo m c2 J)) Wd.W (by kernel_rfl) (by kernel_rfl) ⟨_, HI3.out.drew⟩ rfl ?_
    repeat (go_big_quiet_step (first
      | (go_at_call 28; exact HK1.out _ _)
      | (go_at_call 29; exact HK2.out _ _)
      | (go_at_call 30; exact HK3.out _ _ _)
      | (go_at_call 31; exact HK4.out _ _ _)
      | (go_at_call 25; exact HK5.out _)))
    refine wpQuiet_nil ?_
    intro wq hw'
    obtain ⟨⟨W, hW⟩, rfl⟩ := hw'
    have HF := hide hW.b.B
    clear hW e0 e1 ne HK1 HK2 HK3 HK4 HK5
    go_wp2
    go_ret
    exact ⟨by first | rfl | simp, HB1.out.trans (HF.out.mono HB1.out.size)⟩

end Go.Proofs.Ytlfffalfnnmliaa
