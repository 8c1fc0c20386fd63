/- The document's Lines: a spec's lines. The document's Lines: a spec's lines. -/
import Derived.Test.YtoihocbnhoniaaaGreatDoorQo8
import Derived.Test.YtoihocbnhoniaaaGreatDoorQo4
import Derived.Test.YtoihocbnhoniaaaGreatDoorQo11
import Derived.Test.YtoihocbnhoniaaaGreatDoorQo7
import Derived.Laws.OwnMore
import Derived.Lib.ItoaLen
import Derived.Deep.RegionHeld3
import Derived.Laws.Concat
namespace Go.Proofs.YtoihocbnhoniaaaGreatDoor.Wf
open Go.RowKit
set_option linter.unusedVariables false
set_option linter.unusedSimpArgs false

theorem step_app_run {P : Program} {w : World} {ops : Array Oper} {o : Oper} {a : Act} {K : Act → World → Prop} {Q : Exit → Act → World → Prop} {E : Prop} (hgd : o.guard = none) (s x : Operand) (t tn : TypeId)
    (ho : o.op = .call { callee := .builtin .append, args := #[s, x], argTypes := #[t, tn] }) (vs vx : Value) (hs : a.eval s = vs) (hx : a.eval x = vx)
    (v' : Value) (w' : World) (hr : (Builtin.append_ #[t, tn] o.type #[vs, vx]).run P w = .ok v' w') (h : K (a.put o.dst v') w') :
    if Region.wanted o (yielded ops a.tmps) = true then Oper.wp P o a w K Q else E := by
  have hw : Region.wanted o (yielded ops a.tmps) = true := by simp [Region.wanted, hgd]
  rw [if_pos hw]
  exact Lib.wp_append_run w s x t tn ho vs vx hs hx v' w' hr h

/-- Ints within the machine's. -/
def I64 (n : Int) : Prop := -9223372036854775808 ≤ n ∧ n ≤ 9223372036854775807
structure LnB (x : Sv) (s : Sp) : Prop where
  m : ∀ k, k < x.n1 → I64 (gM s.merges k).1 ∧ I64 (gM s.merges k).2
  t : ∀ k, k < x.n2 → (gT s.tokens k).size ≤ 100000
  sp : ∀ k, k < x.n3 → I64 (gS s.specials k).1 ∧ (gS s.specials k).2.size ≤ 100000
  c : ∀ k, k < x.n4 → I64 (gC s.classes k).1 ∧ I64 (gC s.classes k).2.1 ∧ I64 (gC s.classes k).2.2
  j : ∀ k, k < x.n5 → I64 (gM s.joins k).1 ∧ I64 (gM s.joins k).2
  n : x.n1 ≤ 100000 ∧ x.n2 ≤ 100000 ∧ x.n3 ≤ 100000 ∧ x.n4 ≤ 100000 ∧ x.n5 ≤ 100000
theorem take_gM {l : List (Int × Int)} {k : Nat} (h : k < l.length) : l.take (k + 1) = l.take k ++ [gM l k] := by
  rw [List.take_succ_eq_append_getElem h]; unfold gM; rw [List.getD_eq_getElem?_getD, List.getElem?_eq_getElem h]; rfl
/-- The lines so far. -/
structure LnI (w : World) (W0 : World) (x : Sv) (s : Sp) (ls : List (List UInt8)) (ao : Option Addr) (n cap : Nat) (W : World) : Prop where
  i : SpI w w.heap.size x s W
  b : Below W0.heap.size W0 W
  o : W.ownsRow W0.heap.size 9 1 (.slice ao n cap) n (tv ls)
  l : ls.length = n
theorem row_low {B : Nat} {W W' : World} {t : TypeId} {v : Value} {n : Nat} {us : List Value} (h : W.ownsRow B t 1 v n us) (hb : Below W.heap.size W W') : W'.ownsRow B t 1 v n us := 
  h.kept (row := none) ⟨hb.os, hb.tape, hb.output, hb.size, fun k hk _ => hb.block k hk⟩ (by cases v.ownBlock <;> simp)
theorem LnI.next {w W0 : World} {x : Sv} {s : Sp} {ls : List (List UInt8)} {ao : Option Addr} {n cap : Nat} {W W' : World} (h : LnI w W0 x s ls ao n cap W) (hb : Below W.heap.size W W') : LnI w W0 x s ls ao n cap W' :=
  ⟨h.i.next hb, h.b.trans (hb.mono h.b.size), row_low h.o hb, h.l⟩
theorem LnI.app {w W0 : World} {x : Sv} {s : Sp} {ls : List (List UInt8)} {ao : Option Addr} {n cap : Nat} {W : World} (h0 : SpI w w.heap.size x s W0) (h : LnI w W0 x s ls ao n cap W) (t : ByteArray) (hn : n ≤ 1000000) :
    ∃ g cap1 W1, (Builtin.append_ #[23, 23] 23 #[.slice ao n cap, .slice (some ⟨W.heap.size, 0, none⟩) 1 1]).run Tryz.prog (W.alloc (.cells #[.string t] 9)) = .ok (.slice (some ⟨g, 0, none⟩) (n + 1) cap1) W1 ∧ LnI w W0 x s (ls ++ [t.data.toList]) (some ⟨g, 0, none⟩) (n + 1) cap1 W1 := by
  obtain ⟨g, cap1, w1, hrun, hown, hb⟩ := app_text W W0.heap.size ao n cap ls t h.o hn h.b.size
  refine ⟨g, cap1, w1, hrun, ⟨h0.next (h.b.trans hb), h.b.trans hb, hown, ?_⟩⟩
  rw [List.length_append, h.l]
  rfl
theorem LnI.new {w : World} {x : Sv} {s : Sp} {W0 W : World} (h0 : SpI w w.heap.size x s W0) (hb : Below W0.heap.size W0 W) (t : ByteArray) : LnI w W0 x s [t.data.toList] (some ⟨W.heap.size, 0, none⟩) 1 1 (W.alloc (.cells #[.string t] 9)) :=
  ⟨(h0.next hb).next (low_alloc _ _), hb.trans ((low_alloc W _).mono hb.size), World.ownsRow_lit W #[.string t] 1 hb.size (by unfold maxLen; omega) rfl, rfl⟩
end Go.Proofs.YtoihocbnhoniaaaGreatDoor.Wf

namespace Go.Proofs.YtoihocbnhoniaaaGreatDoor.Wf
open Go.RowKit
set_option linter.unusedVariables false
set_option linter.unusedSimpArgs false

/-- A text of a number, within 21 letters. -/
def numT (n : Int) : ByteArray := ⟨(Lib.itoa n).toArray⟩
theorem numT_size {n : Int} (h : I64 n) : (numT n).size ≤ 21 := by have := Lib.itoa_length_le n h.1 h.2; simpa [numT, ByteArray.size] using this
theorem num_call (n : Int) (w : World) (h : I64 n) : Calls Tryz.prog 86 #[.int .i64 n] w fun e w' => e = .returned (.string (numT n)) ∧ Below w.heap.size w w' := refNumber_any n w h.1 h.2
theorem hexS_le {s : ByteArray} (h : s.size ≤ 100000) : (hexS s).size ≤ 200001 := by
  unfold hexS
  split
  · simp [ByteArray.size]
  · have h1 := hexL_length s.data.toList
    have h2 : s.data.toList.length = s.size := Array.length_toList
    simp only [ByteArray.size, List.size_toArray]
    omega
theorem take_gT {l : List ByteArray} {k : Nat} (h : k < l.length) : l.take (k + 1) = l.take k ++ [gT l k] := by
  rw [List.take_succ_eq_append_getElem h]; unfold gT; rw [List.getD_eq_getElem?_getD, List.getElem?_eq_getElem h]; rfl
theorem take_gS2 {l : List (Int × ByteArray)} {k : Nat} (h : k < l.length) : l.take (k + 1) = l.take k ++ [gS l k] := by
  rw [List.take_succ_eq_append_getElem h]; unfold gS; rw [List.getD_eq_getElem?_getD, List.getElem?_eq_getElem h]; rfl
theorem take_gC {l : List (Int × Int × Int)} {k : Nat} (h : k < l.length) : l.take (k + 1) = l.take k ++ [gC l k] := by
  rw [List.take_succ_eq_append_getElem h]; unfold gC; rw [List.getD_eq_getElem?_getD, List.getElem?_eq_getElem h]; rfl
/-- What Lines answers. -/
def LinP (w : World) (s : Sp) (e : Ending) (w' : World) : Prop := (∃ ao cap, e = .returned (.slice ao s.lines.length cap) ∧ w'.ownsRow w.heap.size 9 1 (.slice ao s.lines.length cap) s.lines.length (tv s.lines)) ∧ Below w.heap.size w w'
theorem LnI.fin {w W0 : World} {x : Sv} {s : Sp} {ls : List (List UInt8)} {ao : Option Addr} {n cap : Nat} {W : World} (h : LnI w W0 x s ls ao n cap W) (hW : w.heap.size ≤ W0.heap.size) (he : ls = s.lines) : LinP w s (.returned (.slice ao n cap)) W := by
  subst he
  have hn := h.l
  subst hn
  refine ⟨⟨ao, cap, rfl, ?_⟩, h.i.bel⟩
  have := h.o
  refine ⟨this.1, ?_⟩
  rcases this.2 with h0 | ⟨g, c, cur, hv, hg, rest⟩
  · exact Or.inl h0
  · exact Or.inr ⟨g, c, cur, hv, Nat.le_trans hW hg, rest⟩
set_option maxRecDepth 20000 in
set_option maxHeartbeats 16000000 in
theorem rlines_true (x : Sv) (s : Sp) (w : World) (h : SpAt w x s) (hb : LnB x s) (hxr : x.r = true) :
    Calls Tryz.prog 44 #[.agg x.cs] w fun e w' => LinP w s e w' := by
  have HRK := hide (show s.ranked = true by rw [← h.r]; exact hxr)
  have HS := hide (SpI.new h 28)
  have HB := hide hb
  obtain ⟨bn1, bn2, bn3, bn4, bn5⟩ := hb.n
  clear h hb
  go_enter Tryz.func44, Tryz.ntmps44
  have hxr2 : (w.alloc (.cells x.cs 28)).cell? ⟨w.heap.size, 0, none⟩ = some (.bool true) := by rw [← hxr]; exact HS.out.box.1
  have hxr3 : ((w.alloc (.cells x.cs 28)).alloc (.cells #[.string ⟨#[118, 111, 99, 97, 98, 32, 109, 101, 114, 103, 101, 115]⟩] 9)).cell? ⟨w.heap.size, 0, none⟩ = some (.bool true) := (bcell (low_alloc _ _) HS.out.lt).trans hxr2
  have hW0 : (w.alloc (.cells x.cs 28)).heap.size = w.heap.size + 1 := by simp
  have HN := hide (LnI.new HS.out (low_alloc _ (.cells #[.string ⟨#[118, 111, 99, 97, 98, 32, 109, 101, 114, 103, 101, 115]⟩] 9)) ⟨#[118, 111, 99, 97, 98, 32, 114, 97, 110, 107, 115]⟩)
  go_wp2
  generalize w.alloc (.cells x.cs 28) = W0 at *
  have HW0 := hide hW0
  clear hxr2 hxr3 hW0
  have HI : Hid (LnI w W0 x s [lV true] (some ⟨(W0.alloc (.cells #[.string ⟨#[118, 111, 99, 97, 98, 32, 109, 101, 114, 103, 101, 115]⟩] 9)).heap.size, 0, none⟩) 1 1 ((W0.alloc (.cells #[.string ⟨#[118, 111, 99, 97, 98, 32, 109, 101, 114, 103, 101, 115]⟩] 9)).alloc (.cells #[.string ⟨#[118, 111, 99, 97, 98, 32, 114, 97, 110, 107, 115]⟩] 9))) := HN
  clear HN
  have hsz : (W0.alloc (.cells #[.string ⟨#[118, 111, 99, 97, 98, 32, 109, 101, 114, 103, 101, 115]⟩] 9)).heap.size = w.heap.size + 1 + 1 := by simp [HW0.out]
  rw [hsz] at HI
  clear hsz
  go_loopw [3, 4] (fun a i wr => ∃ (k : Nat) (ao : Option Addr) (cap : Nat), a = .slice ao (1 + k) cap ∧ i = .int .i64 k ∧ k ≤ x.n1 ∧ Hid (LnI w W0 x s ([lV true] ++ (s.merges.take k).map lM) ao (1 + k) cap wr)) (fun _ i _ => x.n1 - (intOf i).toNat)
  case atStart => exact ⟨0, _, _, rfl, rfl, Nat.zero_le _, hide (by have := HI.out; simpa using this)⟩
  case round =>
    obtain ⟨k, ao, cap, rfl, rfl, hk, HI⟩ := hrel
    have ybx := HI.out.i.box.2.1
    by_cases hlt : k < x.n1
    · have hk0 : (0 : Int) ≤ (k : Int) := by omega
      have hk1 : (k : Int) < (x.n1 : Int) := by omega
      rcases HS.out.sp.ms.2 with h0 | ⟨b, off, hao, hbl, hc⟩
      · omega
      obtain ⟨e1, e2⟩ := hc k hlt
      rw [hao] at ybx
      have HAO := hide hao
      have HX := HB.out.m k hlt
      have hsa := numT_size HX.1
      have hsb := numT_size HX.2
      have I1 := hide HX.1
      have I2 := hide HX.2
      have HTK : Hid (s.merges.take (k + 1) = s.merges.take k ++ [(gM s.merges k)]) := hide (take_gM (by have := HS.out.sp.ms.1; omega))
      have HLM : Hid ((⟨#[109, 101, 114, 103, 101, 32]⟩ ++ numT (gM s.merges k).1 ++ ⟨#[32]⟩ ++ numT (gM s.merges k).2 : ByteArray).data.toList = lM (gM s.merges k)) := hide (by simp [numT, hexb, lM, ln, wMerge, ByteArray.data_append])
      clear HX
      generalize (gM s.merges k).1 = z1 at *
      generalize (gM s.merges k).2 = z2 at *
      have s1 : ¬ 9223372036854775807 < 6 + (numT z1).size := by omega
      have s2 : ¬ 9223372036854775807 < 6 + (numT z1).size + 1 := by omega
      have s3 : ¬ 9223372036854775807 < 6 + (numT z1).size + 1 + (numT z2).size := by omega
      have HE1 := hide e1
      have HE2 := hide e2
      have y2 : wr.drew.cell? ⟨b, off + k * 2, none⟩ = some (.int .i64 z1) := (bcell HI.out.b hbl).trans e1
      have y3 : wr.drew.cell? ⟨b, off + k * 2 + 1, none⟩ = some (.int .i64 z2) := (bcell HI.out.b hbl).trans e2
      have HI : Hid (LnI w W0 x s ([lV true] ++ (s.merges.take k).map lM) ao (1 + k) cap wr.drew) := hide (HI.out.next (below_drew (Below.refl _ _)))
      have y1 : wr.drew.cell? ⟨w.heap.size, 1, none⟩ = some (.slice (some ⟨b, off, none⟩) x.n1 x.c1) := by have := HI.out.i.box.2.1; rw [hao] at this; exact this
      have q1 := HI.out.i.lt
      have q2 : b < wr.drew.heap.size := Nat.lt_of_lt_of_le hbl HI.out.b.size
      clear hc e1 e2
      go_wp2
      clear ybx
      go_region_held3 (fun W => W.cell? ⟨w.heap.size, 1, none⟩ = some (.slice (some ⟨b, off, none⟩) x.n1 x.c1) ∧ W.cell? ⟨b, off + k * 2, none⟩ = some (.int .i64 z1) ∧ W.cell? ⟨b, off + k * 2 + 1, none⟩ = some (.int .i64 z2)) (first | exact ⟨y1, y2, y3⟩ | exact ⟨(bcell (low_alloc _ _) q1).trans y1, (bcell (low_alloc _ _) q2).trans y2, (bcell (low_alloc _ _) q2).trans y3⟩) (first
        | (go_at_call 86; refine (num_call _ _ (by first | exact I1.out | exact I2.out)).mono ?_; rintro e W1 ⟨rfl, hb⟩; replace y1 := (bcell hb q1).trans y1; replace y2 := (bcell hb q2).trans y2; replace y3 := (bcell hb q2).trans y3; replace q1 := Nat.lt_of_lt_of_le q1 hb.size; replace q2 := Nat.lt_of_lt_of_le q2 hb.size; replace HI := hide (HI.out.next hb); clear hb)
        | (obtain ⟨g, cap1, W2, hrun, hL⟩ := LnI.app HS.out HI.out (⟨#[109, 101, 114, 103, 101, 32]⟩ ++ numT z1 ++ ⟨#[32]⟩ ++ numT z2) (by omega); refine step_app_run (by rfl) _ _ _ _ (by rfl) _ _ (by rfl) (by rfl) _ _ hrun ?_; replace HI := hide hL; replace y1 : W2.cell? ⟨w.heap.size, 1, none⟩ = some (.slice (some ⟨b, off, none⟩) x.n1 x.c1) := (by have := HI.out.i.box.2.1; rw [HAO.out] at this; exact this); replace y2 := (bcell HI.out.b hbl).trans HE1.out; replace y3 := (bcell HI.out.b hbl).trans HE2.out; clear hrun hL))
      clear y1 y2 y3 q1 q2
      rw [HLM.out] at HI
      have HI2 : Hid (LnI w W0 x s ([lV true] ++ (s.merges.take (k + 1)).map lM) (some ⟨g, 0, none⟩) (1 + (k + 1)) cap1 W2) := hide (by have := HI.out; rw [HTK.out]; simpa [Nat.add_assoc] using this)
      clear HI
      go_wp2
      exact ⟨⟨k + 1, _, cap1, rfl, by go_num, by omega, HI2⟩, by simp [intOf]; omega⟩
    · obtain rfl : k = x.n1 := by omega
      have HI : Hid (LnI w W0 x s ([lV true] ++ s.merges.map lM) ao (1 + x.n1) cap wr) := hide (by have := HI.out; rw [List.take_of_length_le (by rw [HS.out.sp.ms.1]; exact Nat.le_refl _)] at this; exact this)
      go_wp2
      go_loopw [3, 5] (fun a i wr => ∃ (k : Nat) (ao : Option Addr) (cap : Nat), a = .slice ao (1 + x.n1 + k) cap ∧ i = .int .i64 k ∧ k ≤ x.n2 ∧ Hid (LnI w W0 x s ([lV true] ++ s.merges.map lM ++ (s.tokens.take k).map lT) ao (1 + x.n1 + k) cap wr)) (fun _ i _ => x.n2 - (intOf i).toNat)
      case atStart => exact ⟨0, _, _, rfl, rfl, Nat.zero_le _, hide (by have := HI.out; simpa using this)⟩
      case round =>
        obtain ⟨k, ao, cap, rfl, rfl, hk, HI⟩ := hrel
        have ybx := HI.out.i.box.2.2.1
        by_cases hlt : k < x.n2
        · have hk0 : (0 : Int) ≤ (k : Int) := by omega
          have hk1 : (k : Int) < (x.n2 : Int) := by omega
          rcases HS.out.sp.ts.2 with h0 | ⟨b, off, hao, hbl, hc⟩
          · omega
          have e1 := hc k hlt
          rw [hao] at ybx
          have HAO := hide hao
          have HX := HB.out.t k hlt
          have hsz := hexS_le HX
          have I1 := hide HX
          have HTK : Hid (s.tokens.take (k + 1) = s.tokens.take k ++ [(gT s.tokens k)]) := hide (take_gT (by have := HS.out.sp.ts.1; omega))
          have HLM : Hid ((⟨#[116, 111, 107, 101, 110, 32]⟩ ++ hexS (gT s.tokens k) : ByteArray).data.toList = lT (gT s.tokens k)) := hide (by simp [numT, hexb, lT, ln, wToken, ByteArray.data_append])
          clear HX
          generalize gT s.tokens k = z1 at *
          have s1 : ¬ 9223372036854775807 < 6 + (hexS z1).size := by omega
          have HE1 := hide e1
          have ye := (bcell HI.out.b hbl (o := off + k)).trans e1
          clear hc e1
          go_wp2_with fail
          refine (refHex_any _ _ (by have := I1.out; omega)).mono ?_
          rintro e W1 ⟨rfl, hb⟩
          clear ybx ye
          have HI := hide (HI.out.next hb)
          clear hb
          obtain ⟨g, cap1, W2, hrun, hL⟩ := LnI.app HS.out HI.out (⟨#[116, 111, 107, 101, 110, 32]⟩ ++ hexS z1) (by omega)
          have HRUN := hide hrun
          have HI := hide hL
          clear hrun hL
          go_wp2_with (at_builtin; refine Lib.wpList_append_run _ rfl _ _ _ _ rfl _ _ rfl rfl _ _ HRUN.out ?_)
          rw [HLM.out] at HI
          have HI2 : Hid (LnI w W0 x s ([lV true] ++ s.merges.map lM ++ (s.tokens.take (k + 1)).map lT) (some ⟨g, 0, none⟩) (1 + x.n1 + (k + 1)) cap1 W2) := hide (by have := HI.out; rw [HTK.out]; simpa [Nat.add_assoc] using this)
          clear HI
          exact ⟨⟨k + 1, _, cap1, rfl, by go_num, by omega, HI2⟩, by simp [intOf]; omega⟩
        · obtain rfl : k = x.n2 := by omega
          have HI : Hid (LnI w W0 x s ([lV true] ++ s.merges.map lM ++ s.tokens.map lT) ao (1 + x.n1 + x.n2) cap wr) := hide (by have := HI.out; rw [List.take_of_length_le (by rw [HS.out.sp.ts.1]; exact Nat.le_refl _)] at this; exact this)
          go_wp2
          go_loopw [3, 6] (fun a i wr => ∃ (k : Nat) (ao : Option Addr) (cap : Nat), a = .slice ao (1 + x.n1 + x.n2 + k) cap ∧ i = .int .i64 k ∧ k ≤ x.n3 ∧ Hid (LnI w W0 x s ([lV true] ++ s.merges.map lM ++ s.tokens.map lT ++ (s.specials.take k).map lS) ao (1 + x.n1 + x.n2 + k) cap wr)) (fun _ i _ => x.n3 - (intOf i).toNat)
          case atStart => exact ⟨0, _, _, rfl, rfl, Nat.zero_le _, hide (by have := HI.out; simpa using this)⟩
          case round =>
            obtain ⟨k, ao, cap, rfl, rfl, hk, HI⟩ := hrel
            have ybx := HI.out.i.box.2.2.2.1
            by_cases hlt : k < x.n3
            · have hk0 : (0 : Int) ≤ (k : Int) := by omega
              have hk1 : (k : Int) < (x.n3 : Int) := by omega
              rcases HS.out.sp.ss.2 with h0 | ⟨b, off, hao, hbl, hc⟩
              · omega
              obtain ⟨e1, e2⟩ := hc k hlt
              rw [hao] at ybx
              have HAO := hide hao
              have HX := HB.out.sp k hlt
              have hsa := numT_size HX.1
              have hsz := hexS_le HX.2
              have I1 := hide HX.1
              have I2 := hide HX.2
              have HTK : Hid (s.specials.take (k + 1) = s.specials.take k ++ [(gS s.specials k)]) := hide (take_gS2 (by have := HS.out.sp.ss.1; omega))
              have HLM : Hid ((⟨#[115, 112, 101, 99, 105, 97, 108, 32]⟩ ++ numT (gS s.specials k).1 ++ ⟨#[32]⟩ ++ hexS (gS s.specials k).2 : ByteArray).data.toList = lS (gS s.specials k)) := hide (by simp [numT, hexb, lS, ln, wSpecial, ByteArray.data_append])
              clear HX
              generalize (gS s.specials k).1 = z1 at *
              generalize (gS s.specials k).2 = z2 at *
              have s1 : ¬ 9223372036854775807 < 8 + (numT z1).size := by omega
              have s2 : ¬ 9223372036854775807 < 8 + (numT z1).size + 1 := by omega
              have s3 : ¬ 9223372036854775807 < 8 + (numT z1).size + 1 + (hexS z2).size := by omega
              have HE1 := hide e1
              have HE2 := hide e2
              have y2 : wr.drew.cell? ⟨b, off + k * 2, none⟩ = some (.int .i64 z1) := (bcell HI.out.b hbl).trans e1
              have y3 : wr.drew.cell? ⟨b, off + k * 2 + 1, none⟩ = some (.string z2) := (bcell HI.out.b hbl).trans e2
              have HI : Hid (LnI w W0 x s ([lV true] ++ s.merges.map lM ++ s.tokens.map lT ++ (s.specials.take k).map lS) ao (1 + x.n1 + x.n2 + k) cap wr.drew) := hide (HI.out.next (below_drew (Below.refl _ _)))
              have y1 : wr.drew.cell? ⟨w.heap.size, 3, none⟩ = some (.slice (some ⟨b, off, none⟩) x.n3 x.c3) := by have := HI.out.i.box.2.2.2.1; rw [hao] at this; exact this
              have q1 := HI.out.i.lt
              have q2 : b < wr.drew.heap.size := Nat.lt_of_lt_of_le hbl HI.out.b.size
              clear hc e1 e2
              go_wp2
              clear ybx
              go_region_held3 (fun W => W.cell? ⟨w.heap.size, 3, none⟩ = some (.slice (some ⟨b, off, none⟩) x.n3 x.c3) ∧ W.cell? ⟨b, off + k * 2, none⟩ = some (.int .i64 z1) ∧ W.cell? ⟨b, off + k * 2 + 1, none⟩ = some (.string z2)) (first | exact ⟨y1, y2, y3⟩ | exact ⟨(bcell (low_alloc _ _) q1).trans y1, (bcell (low_alloc _ _) q2).trans y2, (bcell (low_alloc _ _) q2).trans y3⟩) (first
                | (go_at_call 86; refine (num_call _ _ (by first | exact I1.out)).mono ?_; rintro e W1 ⟨rfl, hb⟩; replace y1 := (bcell hb q1).trans y1; replace y2 := (bcell hb q2).trans y2; replace y3 := (bcell hb q2).trans y3; replace q1 := Nat.lt_of_lt_of_le q1 hb.size; replace q2 := Nat.lt_of_lt_of_le q2 hb.size; replace HI := hide (HI.out.next hb); clear hb)
                | (go_at_call 87; refine (refHex_any _ _ (by have := I2.out; omega)).mono ?_; rintro e W1 ⟨rfl, hb⟩; replace y1 := (bcell hb q1).trans y1; replace y2 := (bcell hb q2).trans y2; replace y3 := (bcell hb q2).trans y3; replace q1 := Nat.lt_of_lt_of_le q1 hb.size; replace q2 := Nat.lt_of_lt_of_le q2 hb.size; replace HI := hide (HI.out.next hb); clear hb)
                | (obtain ⟨g, cap1, W2, hrun, hL⟩ := LnI.app HS.out HI.out (⟨#[115, 112, 101, 99, 105, 97, 108, 32]⟩ ++ numT z1 ++ ⟨#[32]⟩ ++ hexS z2) (by omega); refine step_app_run (by rfl) _ _ _ _ (by rfl) _ _ (by rfl) (by rfl) _ _ hrun ?_; replace HI := hide hL; replace y1 : W2.cell? ⟨w.heap.size, 3, none⟩ = some (.slice (some ⟨b, off, none⟩) x.n3 x.c3) := (by have := HI.out.i.box.2.2.2.1; rw [HAO.out] at this; exact this); replace y2 := (bcell HI.out.b hbl).trans HE1.out; replace y3 := (bcell HI.out.b hbl).trans HE2.out; clear hrun hL))
              clear y1 y2 y3 q1 q2
              rw [HLM.out] at HI
              have HI2 : Hid (LnI w W0 x s ([lV true] ++ s.merges.map lM ++ s.tokens.map lT ++ (s.specials.take (k + 1)).map lS) (some ⟨g, 0, none⟩) (1 + x.n1 + x.n2 + (k + 1)) cap1 W2) := hide (by have := HI.out; rw [HTK.out]; simpa [Nat.add_assoc] using this)
              clear HI
              go_wp2
              exact ⟨⟨k + 1, _, cap1, rfl, by go_num, by omega, HI2⟩, by simp [intOf]; omega⟩
            · obtain rfl : k = x.n3 := by omega
              have HI : Hid (LnI w W0 x s ([lV true] ++ s.merges.map lM ++ s.tokens.map lT ++ s.specials.map lS) ao (1 + x.n1 + x.n2 + x.n3) cap wr) := hide (by have := HI.out; rw [List.take_of_length_le (by rw [HS.out.sp.ss.1]; exact Nat.le_refl _)] at this; exact this)
              go_wp2
              go_loopw [3, 7] (fun a i wr => ∃ (k : Nat) (ao : Option Addr) (cap : Nat), a = .slice ao (1 + x.n1 + x.n2 + x.n3 + k) cap ∧ i = .int .i64 k ∧ k ≤ x.n4 ∧ Hid (LnI w W0 x s ([lV true] ++ s.merges.map lM ++ s.tokens.map lT ++ s.specials.map lS ++ (s.classes.take k).map lC) ao (1 + x.n1 + x.n2 + x.n3 + k) cap wr)) (fun _ i _ => x.n4 - (intOf i).toNat)
              case atStart => exact ⟨0, _, _, rfl, rfl, Nat.zero_le _, hide (by have := HI.out; simpa using this)⟩
              case round =>
                obtain ⟨k, ao, cap, rfl, rfl, hk, HI⟩ := hrel
                have ybx := HI.out.i.box.2.2.2.2.1
                by_cases hlt : k < x.n4
                · have hk0 : (0 : Int) ≤ (k : Int) := by omega
                  have hk1 : (k : Int) < (x.n4 : Int) := by omega
                  rcases HS.out.sp.cs.2 with h0 | ⟨b, off, hao, hbl, hc⟩
                  · omega
                  obtain ⟨e1, e2, e3⟩ := hc k hlt
                  rw [hao] at ybx
                  have HAO := hide hao
                  have HX := HB.out.c k hlt
                  have hsa := numT_size HX.1
                  have hsb := numT_size HX.2.1
                  have hsc := numT_size HX.2.2
                  have I1 := hide HX.1
                  have I2 := hide HX.2.1
                  have I3 := hide HX.2.2
                  have HTK : Hid (s.classes.take (k + 1) = s.classes.take k ++ [(gC s.classes k)]) := hide (take_gC (by have := HS.out.sp.cs.1; omega))
                  have HLM : Hid ((⟨#[99, 108, 97, 115, 115, 32]⟩ ++ numT (gC s.classes k).1 ++ ⟨#[32]⟩ ++ numT (gC s.classes k).2.1 ++ ⟨#[32]⟩ ++ numT (gC s.classes k).2.2 : ByteArray).data.toList = lC (gC s.classes k)) := hide (by simp [numT, hexb, lC, ln, wClass, ByteArray.data_append])
                  clear HX
                  generalize (gC s.classes k).1 = z1 at *
                  generalize (gC s.classes k).2.1 = z2 at *
                  generalize (gC s.classes k).2.2 = z3 at *
                  have s1 : ¬ 9223372036854775807 < 6 + (numT z1).size := by omega
                  have s2 : ¬ 9223372036854775807 < 6 + (numT z1).size + 1 := by omega
                  have s3 : ¬ 9223372036854775807 < 6 + (numT z1).size + 1 + (numT z2).size := by omega
                  have s4 : ¬ 9223372036854775807 < 6 + (numT z1).size + 1 + (numT z2).size + 1 := by omega
                  have s5 : ¬ 9223372036854775807 < 6 + (numT z1).size + 1 + (numT z2).size + 1 + (numT z3).size := by omega
                  have HE1 := hide e1
                  have HE2 := hide e2
                  have HE3 := hide e3
                  have y2 : wr.drew.cell? ⟨b, off + k * 3, none⟩ = some (.int .i64 z1) := (bcell HI.out.b hbl).trans e1
                  have y3 : wr.drew.cell? ⟨b, off + k * 3 + 1, none⟩ = some (.int .i64 z2) := (bcell HI.out.b hbl).trans e2
                  have y4 : wr.drew.cell? ⟨b, off + k * 3 + 2, none⟩ = some (.int .i64 z3) := (bcell HI.out.b hbl).trans e3
                  have HI : Hid (LnI w W0 x s ([lV true] ++ s.merges.map lM ++ s.tokens.map lT ++ s.specials.map lS ++ (s.classes.take k).map lC) ao (1 + x.n1 + x.n2 + x.n3 + k) cap wr.drew) := hide (HI.out.next (below_drew (Below.refl _ _)))
                  have y1 : wr.drew.cell? ⟨w.heap.size, 4, none⟩ = some (.slice (some ⟨b, off, none⟩) x.n4 x.c4) := by have := HI.out.i.box.2.2.2.2.1; rw [hao] at this; exact this
                  have q1 := HI.out.i.lt
                  have q2 : b < wr.drew.heap.size := Nat.lt_of_lt_of_le hbl HI.out.b.size
                  clear hc e1 e2 e3
                  go_wp2
                  clear ybx
                  go_region_held3 (fun W => W.cell? ⟨w.heap.size, 4, none⟩ = some (.slice (some ⟨b, off, none⟩) x.n4 x.c4) ∧ W.cell? ⟨b, off + k * 3, none⟩ = some (.int .i64 z1) ∧ W.cell? ⟨b, off + k * 3 + 1, none⟩ = some (.int .i64 z2) ∧ W.cell? ⟨b, off + k * 3 + 2, none⟩ = some (.int .i64 z3)) (first | exact ⟨y1, y2, y3, y4⟩ | exact ⟨(bcell (low_alloc _ _) q1).trans y1, (bcell (low_alloc _ _) q2).trans y2, (bcell (low_alloc _ _) q2).trans y3, (bcell (low_alloc _ _) q2).trans y4⟩) (first
                    | (go_at_call 86; refine (num_call _ _ (by first | exact I1.out | exact I2.out | exact I3.out)).mono ?_; rintro e W1 ⟨rfl, hb⟩; replace y1 := (bcell hb q1).trans y1; replace y2 := (bcell hb q2).trans y2; replace y3 := (bcell hb q2).trans y3; replace y4 := (bcell hb q2).trans y4; replace q1 := Nat.lt_of_lt_of_le q1 hb.size; replace q2 := Nat.lt_of_lt_of_le q2 hb.size; replace HI := hide (HI.out.next hb); clear hb)
                    | (obtain ⟨g, cap1, W2, hrun, hL⟩ := LnI.app HS.out HI.out (⟨#[99, 108, 97, 115, 115, 32]⟩ ++ numT z1 ++ ⟨#[32]⟩ ++ numT z2 ++ ⟨#[32]⟩ ++ numT z3) (by omega); refine step_app_run (by rfl) _ _ _ _ (by rfl) _ _ (by rfl) (by rfl) _ _ hrun ?_; replace HI := hide hL; replace y1 : W2.cell? ⟨w.heap.size, 4, none⟩ = some (.slice (some ⟨b, off, none⟩) x.n4 x.c4) := (by have := HI.out.i.box.2.2.2.2.1; rw [HAO.out] at this; exact this); replace y2 := (bcell HI.out.b hbl).trans HE1.out; replace y3 := (bcell HI.out.b hbl).trans HE2.out; replace y4 := (bcell HI.out.b hbl).trans HE3.out; clear hrun hL))
                  clear y1 y2 y3 y4 q1 q2
                  rw [HLM.out] at HI
                  have HI2 : Hid (LnI w W0 x s ([lV true] ++ s.merges.map lM ++ s.tokens.map lT ++ s.specials.map lS ++ (s.classes.take (k + 1)).map lC) (some ⟨g, 0, none⟩) (1 + x.n1 + x.n2 + x.n3 + (k + 1)) cap1 W2) := hide (by have := HI.out; rw [HTK.out]; simpa [Nat.add_assoc] using this)
                  clear HI
                  go_wp2
                  exact ⟨⟨k + 1, _, cap1, rfl, by go_num, by omega, HI2⟩, by simp [intOf]; omega⟩
                · obtain rfl : k = x.n4 := by omega
                  have HI : Hid (LnI w W0 x s ([lV true] ++ s.merges.map lM ++ s.tokens.map lT ++ s.specials.map lS ++ s.classes.map lC) ao (1 + x.n1 + x.n2 + x.n3 + x.n4) cap wr) := hide (by have := HI.out; rw [List.take_of_length_le (by rw [HS.out.sp.cs.1]; exact Nat.le_refl _)] at this; exact this)
                  go_wp2
                  go_loopw [3, 8] (fun a i wr => ∃ (k : Nat) (ao : Option Addr) (cap : Nat), a = .slice ao (1 + x.n1 + x.n2 + x.n3 + x.n4 + k) cap ∧ i = .int .i64 k ∧ k ≤ x.n5 ∧ Hid (LnI w W0 x s ([lV true] ++ s.merges.map lM ++ s.tokens.map lT ++ s.specials.map lS ++ s.classes.map lC ++ (s.joins.take k).map lJ) ao (1 + x.n1 + x.n2 + x.n3 + x.n4 + k) cap wr)) (fun _ i _ => x.n5 - (intOf i).toNat)
                  case atStart => exact ⟨0, _, _, rfl, rfl, Nat.zero_le _, hide (by have := HI.out; simpa using this)⟩
                  case round =>
                    obtain ⟨k, ao, cap, rfl, rfl, hk, HI⟩ := hrel
                    have ybx := HI.out.i.box.2.2.2.2.2
                    by_cases hlt : k < x.n5
                    · have hk0 : (0 : Int) ≤ (k : Int) := by omega
                      have hk1 : (k : Int) < (x.n5 : Int) := by omega
                      rcases HS.out.sp.js.2 with h0 | ⟨b, off, hao, hbl, hc⟩
                      · omega
                      obtain ⟨e1, e2⟩ := hc k hlt
                      rw [hao] at ybx
                      have HAO := hide hao
                      have HX := HB.out.j k hlt
                      have hsa := numT_size HX.1
                      have hsb := numT_size HX.2
                      have I1 := hide HX.1
                      have I2 := hide HX.2
                      have HTK : Hid (s.joins.take (k + 1) = s.joins.take k ++ [(gM s.joins k)]) := hide (take_gM (by have := HS.out.sp.js.1; omega))
                      have HLM : Hid ((⟨#[106, 111, 105, 110, 32]⟩ ++ numT (gM s.joins k).1 ++ ⟨#[32]⟩ ++ numT (gM s.joins k).2 : ByteArray).data.toList = lJ (gM s.joins k)) := hide (by simp [numT, hexb, lJ, ln, wJoin, ByteArray.data_append])
                      clear HX
                      generalize (gM s.joins k).1 = z1 at *
                      generalize (gM s.joins k).2 = z2 at *
                      have s1 : ¬ 9223372036854775807 < 5 + (numT z1).size := by omega
                      have s2 : ¬ 9223372036854775807 < 5 + (numT z1).size + 1 := by omega
                      have s3 : ¬ 9223372036854775807 < 5 + (numT z1).size + 1 + (numT z2).size := by omega
                      have HE1 := hide e1
                      have HE2 := hide e2
                      have y2 : wr.drew.cell? ⟨b, off + k * 2, none⟩ = some (.int .i64 z1) := (bcell HI.out.b hbl).trans e1
                      have y3 : wr.drew.cell? ⟨b, off + k * 2 + 1, none⟩ = some (.int .i64 z2) := (bcell HI.out.b hbl).trans e2
                      have HI : Hid (LnI w W0 x s ([lV true] ++ s.merges.map lM ++ s.tokens.map lT ++ s.specials.map lS ++ s.classes.map lC ++ (s.joins.take k).map lJ) ao (1 + x.n1 + x.n2 + x.n3 + x.n4 + k) cap wr.drew) := hide (HI.out.next (below_drew (Below.refl _ _)))
                      have y1 : wr.drew.cell? ⟨w.heap.size, 5, none⟩ = some (.slice (some ⟨b, off, none⟩) x.n5 x.c5) := by have := HI.out.i.box.2.2.2.2.2; rw [hao] at this; exact this
                      have q1 := HI.out.i.lt
                      have q2 : b < wr.drew.heap.size := Nat.lt_of_lt_of_le hbl HI.out.b.size
                      clear hc e1 e2
                      go_wp2
                      clear ybx
                      go_region_held3 (fun W => W.cell? ⟨w.heap.size, 5, none⟩ = some (.slice (some ⟨b, off, none⟩) x.n5 x.c5) ∧ W.cell? ⟨b, off + k * 2, none⟩ = some (.int .i64 z1) ∧ W.cell? ⟨b, off + k * 2 + 1, none⟩ = some (.int .i64 z2)) (first | exact ⟨y1, y2, y3⟩ | exact ⟨(bcell (low_alloc _ _) q1).trans y1, (bcell (low_alloc _ _) q2).trans y2, (bcell (low_alloc _ _) q2).trans y3⟩) (first
                        | (go_at_call 86; refine (num_call _ _ (by first | exact I1.out | exact I2.out)).mono ?_; rintro e W1 ⟨rfl, hb⟩; replace y1 := (bcell hb q1).trans y1; replace y2 := (bcell hb q2).trans y2; replace y3 := (bcell hb q2).trans y3; replace q1 := Nat.lt_of_lt_of_le q1 hb.size; replace q2 := Nat.lt_of_lt_of_le q2 hb.size; replace HI := hide (HI.out.next hb); clear hb)
                        | (obtain ⟨g, cap1, W2, hrun, hL⟩ := LnI.app HS.out HI.out (⟨#[106, 111, 105, 110, 32]⟩ ++ numT z1 ++ ⟨#[32]⟩ ++ numT z2) (by omega); refine step_app_run (by rfl) _ _ _ _ (by rfl) _ _ (by rfl) (by rfl) _ _ hrun ?_; replace HI := hide hL; replace y1 : W2.cell? ⟨w.heap.size, 5, none⟩ = some (.slice (some ⟨b, off, none⟩) x.n5 x.c5) := (by have := HI.out.i.box.2.2.2.2.2; rw [HAO.out] at this; exact this); replace y2 := (bcell HI.out.b hbl).trans HE1.out; replace y3 := (bcell HI.out.b hbl).trans HE2.out; clear hrun hL))
                      clear y1 y2 y3 q1 q2
                      rw [HLM.out] at HI
                      have HI2 : Hid (LnI w W0 x s ([lV true] ++ s.merges.map lM ++ s.tokens.map lT ++ s.specials.map lS ++ s.classes.map lC ++ (s.joins.take (k + 1)).map lJ) (some ⟨g, 0, none⟩) (1 + x.n1 + x.n2 + x.n3 + x.n4 + (k + 1)) cap1 W2) := hide (by have := HI.out; rw [HTK.out]; simpa [Nat.add_assoc] using this)
                      clear HI
                      go_wp2
                      exact ⟨⟨k + 1, _, cap1, rfl, by go_num, by omega, HI2⟩, by simp [intOf]; omega⟩
                    · obtain rfl : k = x.n5 := by omega
                      have HI : Hid (LnI w W0 x s ([lV true] ++ s.merges.map lM ++ s.tokens.map lT ++ s.specials.map lS ++ s.classes.map lC ++ s.joins.map lJ) ao (1 + x.n1 + x.n2 + x.n3 + x.n4 + x.n5) cap wr) := hide (by have := HI.out; rw [List.take_of_length_le (by rw [HS.out.sp.js.1]; exact Nat.le_refl _)] at this; exact this)
                      go_wp2
                      go_ret
                      exact LnI.fin HI.out (by rw [HW0.out]; omega) (by simp [Sp.lines, Sp.body, HRK.out])

set_option maxRecDepth 20000 in
set_option maxHeartbeats 16000000 in
theorem rlines_false (x : Sv) (s : Sp) (w : World) (h : SpAt w x s) (hb : LnB x s) (hxr : x.r = false) :
    Calls Tryz.prog 44 #[.agg x.cs] w fun e w' => LinP w s e w' := by
  have HRK := hide (show s.ranked = false by rw [← h.r]; exact hxr)
  have HS := hide (SpI.new h 28)
  have HB := hide hb
  obtain ⟨bn1, bn2, bn3, bn4, bn5⟩ := hb.n
  clear h hb
  go_enter Tryz.func44, Tryz.ntmps44
  have hxr2 : (w.alloc (.cells x.cs 28)).cell? ⟨w.heap.size, 0, none⟩ = some (.bool false) := by rw [← hxr]; exact HS.out.box.1
  have hxr3 : ((w.alloc (.cells x.cs 28)).alloc (.cells #[.string ⟨#[118, 111, 99, 97, 98, 32, 109, 101, 114, 103, 101, 115]⟩] 9)).cell? ⟨w.heap.size, 0, none⟩ = some (.bool false) := (bcell (low_alloc _ _) HS.out.lt).trans hxr2
  have hW0 : (w.alloc (.cells x.cs 28)).heap.size = w.heap.size + 1 := by simp
  have HN := hide (LnI.new HS.out (Below.refl _ _) ⟨#[118, 111, 99, 97, 98, 32, 109, 101, 114, 103, 101, 115]⟩)
  go_wp2
  generalize w.alloc (.cells x.cs 28) = W0 at *
  have HW0 := hide hW0
  clear hxr2 hxr3 hW0
  have HI : Hid (LnI w W0 x s [lV false] (some ⟨W0.heap.size, 0, none⟩) 1 1 (W0.alloc (.cells #[.string ⟨#[118, 111, 99, 97, 98, 32, 109, 101, 114, 103, 101, 115]⟩] 9))) := HN
  clear HN
  rw [HW0.out] at HI
  go_loopw [3, 4] (fun a i wr => ∃ (k : Nat) (ao : Option Addr) (cap : Nat), a = .slice ao (1 + k) cap ∧ i = .int .i64 k ∧ k ≤ x.n1 ∧ Hid (LnI w W0 x s ([lV false] ++ (s.merges.take k).map lM) ao (1 + k) cap wr)) (fun _ i _ => x.n1 - (intOf i).toNat)
  case atStart => exact ⟨0, _, _, rfl, rfl, Nat.zero_le _, hide (by have := HI.out; simpa using this)⟩
  case round =>
    obtain ⟨k, ao, cap, rfl, rfl, hk, HI⟩ := hrel
    have ybx := HI.out.i.box.2.1
    by_cases hlt : k < x.n1
    · have hk0 : (0 : Int) ≤ (k : Int) := by omega
      have hk1 : (k : Int) < (x.n1 : Int) := by omega
      rcases HS.out.sp.ms.2 with h0 | ⟨b, off, hao, hbl, hc⟩
      · omega
      obtain ⟨e1, e2⟩ := hc k hlt
      rw [hao] at ybx
      have HAO := hide hao
      have HX := HB.out.m k hlt
      have hsa := numT_size HX.1
      have hsb := numT_size HX.2
      have I1 := hide HX.1
      have I2 := hide HX.2
      have HTK : Hid (s.merges.take (k + 1) = s.merges.take k ++ [(gM s.merges k)]) := hide (take_gM (by have := HS.out.sp.ms.1; omega))
      have HLM : Hid ((⟨#[109, 101, 114, 103, 101, 32]⟩ ++ numT (gM s.merges k).1 ++ ⟨#[32]⟩ ++ numT (gM s.merges k).2 : ByteArray).data.toList = lM (gM s.merges k)) := hide (by simp [numT, hexb, lM, ln, wMerge, ByteArray.data_append])
      clear HX
      generalize (gM s.merges k).1 = z1 at *
      generalize (gM s.merges k).2 = z2 at *
      have s1 : ¬ 9223372036854775807 < 6 + (numT z1).size := by omega
      have s2 : ¬ 9223372036854775807 < 6 + (numT z1).size + 1 := by omega
      have s3 : ¬ 9223372036854775807 < 6 + (numT z1).size + 1 + (numT z2).size := by omega
      have HE1 := hide e1
      have HE2 := hide e2
      have y2 : wr.drew.cell? ⟨b, off + k * 2, none⟩ = some (.int .i64 z1) := (bcell HI.out.b hbl).trans e1
      have y3 : wr.drew.cell? ⟨b, off + k * 2 + 1, none⟩ = some (.int .i64 z2) := (bcell HI.out.b hbl).trans e2
      have HI : Hid (LnI w W0 x s ([lV false] ++ (s.merges.take k).map lM) ao (1 + k) cap wr.drew) := hide (HI.out.next (below_drew (Below.refl _ _)))
      have y1 : wr.drew.cell? ⟨w.heap.size, 1, none⟩ = some (.slice (some ⟨b, off, none⟩) x.n1 x.c1) := by have := HI.out.i.box.2.1; rw [hao] at this; exact this
      have q1 := HI.out.i.lt
      have q2 : b < wr.drew.heap.size := Nat.lt_of_lt_of_le hbl HI.out.b.size
      clear hc e1 e2
      go_wp2
      clear ybx
      go_region_held3 (fun W => W.cell? ⟨w.heap.size, 1, none⟩ = some (.slice (some ⟨b, off, none⟩) x.n1 x.c1) ∧ W.cell? ⟨b, off + k * 2, none⟩ = some (.int .i64 z1) ∧ W.cell? ⟨b, off + k * 2 + 1, none⟩ = some (.int .i64 z2)) (first | exact ⟨y1, y2, y3⟩ | exact ⟨(bcell (low_alloc _ _) q1).trans y1, (bcell (low_alloc _ _) q2).trans y2, (bcell (low_alloc _ _) q2).trans y3⟩) (first
        | (go_at_call 86; refine (num_call _ _ (by first | exact I1.out | exact I2.out)).mono ?_; rintro e W1 ⟨rfl, hb⟩; replace y1 := (bcell hb q1).trans y1; replace y2 := (bcell hb q2).trans y2; replace y3 := (bcell hb q2).trans y3; replace q1 := Nat.lt_of_lt_of_le q1 hb.size; replace q2 := Nat.lt_of_lt_of_le q2 hb.size; replace HI := hide (HI.out.next hb); clear hb)
        | (obtain ⟨g, cap1, W2, hrun, hL⟩ := LnI.app HS.out HI.out (⟨#[109, 101, 114, 103, 101, 32]⟩ ++ numT z1 ++ ⟨#[32]⟩ ++ numT z2) (by omega); refine step_app_run (by rfl) _ _ _ _ (by rfl) _ _ (by rfl) (by rfl) _ _ hrun ?_; replace HI := hide hL; replace y1 : W2.cell? ⟨w.heap.size, 1, none⟩ = some (.slice (some ⟨b, off, none⟩) x.n1 x.c1) := (by have := HI.out.i.box.2.1; rw [HAO.out] at this; exact this); replace y2 := (bcell HI.out.b hbl).trans HE1.out; replace y3 := (bcell HI.out.b hbl).trans HE2.out; clear hrun hL))
      clear y1 y2 y3 q1 q2
      rw [HLM.out] at HI
      have HI2 : Hid (LnI w W0 x s ([lV false] ++ (s.merges.take (k + 1)).map lM) (some ⟨g, 0, none⟩) (1 + (k + 1)) cap1 W2) := hide (by have := HI.out; rw [HTK.out]; simpa [Nat.add_assoc] using this)
      clear HI
      go_wp2
      exact ⟨⟨k + 1, _, cap1, rfl, by go_num, by omega, HI2⟩, by simp [intOf]; omega⟩
    · obtain rfl : k = x.n1 := by omega
      have HI : Hid (LnI w W0 x s ([lV false] ++ s.merges.map lM) ao (1 + x.n1) cap wr) := hide (by have := HI.out; rw [List.take_of_length_le (by rw [HS.out.sp.ms.1]; exact Nat.le_refl _)] at this; exact this)
      go_wp2
      go_loopw [3, 5] (fun a i wr => ∃ (k : Nat) (ao : Option Addr) (cap : Nat), a = .slice ao (1 + x.n1 + k) cap ∧ i = .int .i64 k ∧ k ≤ x.n2 ∧ Hid (LnI w W0 x s ([lV false] ++ s.merges.map lM ++ (s.tokens.take k).map lT) ao (1 + x.n1 + k) cap wr)) (fun _ i _ => x.n2 - (intOf i).toNat)
      case atStart => exact ⟨0, _, _, rfl, rfl, Nat.zero_le _, hide (by have := HI.out; simpa using this)⟩
      case round =>
        obtain ⟨k, ao, cap, rfl, rfl, hk, HI⟩ := hrel
        have ybx := HI.out.i.box.2.2.1
        by_cases hlt : k < x.n2
        · have hk0 : (0 : Int) ≤ (k : Int) := by omega
          have hk1 : (k : Int) < (x.n2 : Int) := by omega
          rcases HS.out.sp.ts.2 with h0 | ⟨b, off, hao, hbl, hc⟩
          · omega
          have e1 := hc k hlt
          rw [hao] at ybx
          have HAO := hide hao
          have HX := HB.out.t k hlt
          have hsz := hexS_le HX
          have I1 := hide HX
          have HTK : Hid (s.tokens.take (k + 1) = s.tokens.take k ++ [(gT s.tokens k)]) := hide (take_gT (by have := HS.out.sp.ts.1; omega))
          have HLM : Hid ((⟨#[116, 111, 107, 101, 110, 32]⟩ ++ hexS (gT s.tokens k) : ByteArray).data.toList = lT (gT s.tokens k)) := hide (by simp [numT, hexb, lT, ln, wToken, ByteArray.data_append])
          clear HX
          generalize gT s.tokens k = z1 at *
          have s1 : ¬ 9223372036854775807 < 6 + (hexS z1).size := by omega
          have HE1 := hide e1
          have ye := (bcell HI.out.b hbl (o := off + k)).trans e1
          clear hc e1
          go_wp2_with fail
          refine (refHex_any _ _ (by have := I1.out; omega)).mono ?_
          rintro e W1 ⟨rfl, hb⟩
          clear ybx ye
          have HI := hide (HI.out.next hb)
          clear hb
          obtain ⟨g, cap1, W2, hrun, hL⟩ := LnI.app HS.out HI.out (⟨#[116, 111, 107, 101, 110, 32]⟩ ++ hexS z1) (by omega)
          have HRUN := hide hrun
          have HI := hide hL
          clear hrun hL
          go_wp2_with (at_builtin; refine Lib.wpList_append_run _ rfl _ _ _ _ rfl _ _ rfl rfl _ _ HRUN.out ?_)
          rw [HLM.out] at HI
          have HI2 : Hid (LnI w W0 x s ([lV false] ++ s.merges.map lM ++ (s.tokens.take (k + 1)).map lT) (some ⟨g, 0, none⟩) (1 + x.n1 + (k + 1)) cap1 W2) := hide (by have := HI.out; rw [HTK.out]; simpa [Nat.add_assoc] using this)
          clear HI
          exact ⟨⟨k + 1, _, cap1, rfl, by go_num, by omega, HI2⟩, by simp [intOf]; omega⟩
        · obtain rfl : k = x.n2 := by omega
          have HI : Hid (LnI w W0 x s ([lV false] ++ s.merges.map lM ++ s.tokens.map lT) ao (1 + x.n1 + x.n2) cap wr) := hide (by have := HI.out; rw [List.take_of_length_le (by rw [HS.out.sp.ts.1]; exact Nat.le_refl _)] at this; exact this)
          go_wp2
          go_loopw [3, 6] (fun a i wr => ∃ (k : Nat) (ao : Option Addr) (cap : Nat), a = .slice ao (1 + x.n1 + x.n2 + k) cap ∧ i = .int .i64 k ∧ k ≤ x.n3 ∧ Hid (LnI w W0 x s ([lV false] ++ s.merges.map lM ++ s.tokens.map lT ++ (s.specials.take k).map lS) ao (1 + x.n1 + x.n2 + k) cap wr)) (fun _ i _ => x.n3 - (intOf i).toNat)
          case atStart => exact ⟨0, _, _, rfl, rfl, Nat.zero_le _, hide (by have := HI.out; simpa using this)⟩
          case round =>
            obtain ⟨k, ao, cap, rfl, rfl, hk, HI⟩ := hrel
            have ybx := HI.out.i.box.2.2.2.1
            by_cases hlt : k < x.n3
            · have hk0 : (0 : Int) ≤ (k : Int) := by omega
              have hk1 : (k : Int) < (x.n3 : Int) := by omega
              rcases HS.out.sp.ss.2 with h0 | ⟨b, off, hao, hbl, hc⟩
              · omega
              obtain ⟨e1, e2⟩ := hc k hlt
              rw [hao] at ybx
              have HAO := hide hao
              have HX := HB.out.sp k hlt
              have hsa := numT_size HX.1
              have hsz := hexS_le HX.2
              have I1 := hide HX.1
              have I2 := hide HX.2
              have HTK : Hid (s.specials.take (k + 1) = s.specials.take k ++ [(gS s.specials k)]) := hide (take_gS2 (by have := HS.out.sp.ss.1; omega))
              have HLM : Hid ((⟨#[115, 112, 101, 99, 105, 97, 108, 32]⟩ ++ numT (gS s.specials k).1 ++ ⟨#[32]⟩ ++ hexS (gS s.specials k).2 : ByteArray).data.toList = lS (gS s.specials k)) := hide (by simp [numT, hexb, lS, ln, wSpecial, ByteArray.data_append])
              clear HX
              generalize (gS s.specials k).1 = z1 at *
              generalize (gS s.specials k).2 = z2 at *
              have s1 : ¬ 9223372036854775807 < 8 + (numT z1).size := by omega
              have s2 : ¬ 9223372036854775807 < 8 + (numT z1).size + 1 := by omega
              have s3 : ¬ 9223372036854775807 < 8 + (numT z1).size + 1 + (hexS z2).size := by omega
              have HE1 := hide e1
              have HE2 := hide e2
              have y2 : wr.drew.cell? ⟨b, off + k * 2, none⟩ = some (.int .i64 z1) := (bcell HI.out.b hbl).trans e1
              have y3 : wr.drew.cell? ⟨b, off + k * 2 + 1, none⟩ = some (.string z2) := (bcell HI.out.b hbl).trans e2
              have HI : Hid (LnI w W0 x s ([lV false] ++ s.merges.map lM ++ s.tokens.map lT ++ (s.specials.take k).map lS) ao (1 + x.n1 + x.n2 + k) cap wr.drew) := hide (HI.out.next (below_drew (Below.refl _ _)))
              have y1 : wr.drew.cell? ⟨w.heap.size, 3, none⟩ = some (.slice (some ⟨b, off, none⟩) x.n3 x.c3) := by have := HI.out.i.box.2.2.2.1; rw [hao] at this; exact this
              have q1 := HI.out.i.lt
              have q2 : b < wr.drew.heap.size := Nat.lt_of_lt_of_le hbl HI.out.b.size
              clear hc e1 e2
              go_wp2
              clear ybx
              go_region_held3 (fun W => W.cell? ⟨w.heap.size, 3, none⟩ = some (.slice (some ⟨b, off, none⟩) x.n3 x.c3) ∧ W.cell? ⟨b, off + k * 2, none⟩ = some (.int .i64 z1) ∧ W.cell? ⟨b, off + k * 2 + 1, none⟩ = some (.string z2)) (first | exact ⟨y1, y2, y3⟩ | exact ⟨(bcell (low_alloc _ _) q1).trans y1, (bcell (low_alloc _ _) q2).trans y2, (bcell (low_alloc _ _) q2).trans y3⟩) (first
                | (go_at_call 86; refine (num_call _ _ (by first | exact I1.out)).mono ?_; rintro e W1 ⟨rfl, hb⟩; replace y1 := (bcell hb q1).trans y1; replace y2 := (bcell hb q2).trans y2; replace y3 := (bcell hb q2).trans y3; replace q1 := Nat.lt_of_lt_of_le q1 hb.size; replace q2 := Nat.lt_of_lt_of_le q2 hb.size; replace HI := hide (HI.out.next hb); clear hb)
                | (go_at_call 87; refine (refHex_any _ _ (by have := I2.out; omega)).mono ?_; rintro e W1 ⟨rfl, hb⟩; replace y1 := (bcell hb q1).trans y1; replace y2 := (bcell hb q2).trans y2; replace y3 := (bcell hb q2).trans y3; replace q1 := Nat.lt_of_lt_of_le q1 hb.size; replace q2 := Nat.lt_of_lt_of_le q2 hb.size; replace HI := hide (HI.out.next hb); clear hb)
                | (obtain ⟨g, cap1, W2, hrun, hL⟩ := LnI.app HS.out HI.out (⟨#[115, 112, 101, 99, 105, 97, 108, 32]⟩ ++ numT z1 ++ ⟨#[32]⟩ ++ hexS z2) (by omega); refine step_app_run (by rfl) _ _ _ _ (by rfl) _ _ (by rfl) (by rfl) _ _ hrun ?_; replace HI := hide hL; replace y1 : W2.cell? ⟨w.heap.size, 3, none⟩ = some (.slice (some ⟨b, off, none⟩) x.n3 x.c3) := (by have := HI.out.i.box.2.2.2.1; rw [HAO.out] at this; exact this); replace y2 := (bcell HI.out.b hbl).trans HE1.out; replace y3 := (bcell HI.out.b hbl).trans HE2.out; clear hrun hL))
              clear y1 y2 y3 q1 q2
              rw [HLM.out] at HI
              have HI2 : Hid (LnI w W0 x s ([lV false] ++ s.merges.map lM ++ s.tokens.map lT ++ (s.specials.take (k + 1)).map lS) (some ⟨g, 0, none⟩) (1 + x.n1 + x.n2 + (k + 1)) cap1 W2) := hide (by have := HI.out; rw [HTK.out]; simpa [Nat.add_assoc] using this)
              clear HI
              go_wp2
              exact ⟨⟨k + 1, _, cap1, rfl, by go_num, by omega, HI2⟩, by simp [intOf]; omega⟩
            · obtain rfl : k = x.n3 := by omega
              have HI : Hid (LnI w W0 x s ([lV false] ++ s.merges.map lM ++ s.tokens.map lT ++ s.specials.map lS) ao (1 + x.n1 + x.n2 + x.n3) cap wr) := hide (by have := HI.out; rw [List.take_of_length_le (by rw [HS.out.sp.ss.1]; exact Nat.le_refl _)] at this; exact this)
              go_wp2
              go_loopw [3, 7] (fun a i wr => ∃ (k : Nat) (ao : Option Addr) (cap : Nat), a = .slice ao (1 + x.n1 + x.n2 + x.n3 + k) cap ∧ i = .int .i64 k ∧ k ≤ x.n4 ∧ Hid (LnI w W0 x s ([lV false] ++ s.merges.map lM ++ s.tokens.map lT ++ s.specials.map lS ++ (s.classes.take k).map lC) ao (1 + x.n1 + x.n2 + x.n3 + k) cap wr)) (fun _ i _ => x.n4 - (intOf i).toNat)
              case atStart => exact ⟨0, _, _, rfl, rfl, Nat.zero_le _, hide (by have := HI.out; simpa using this)⟩
              case round =>
                obtain ⟨k, ao, cap, rfl, rfl, hk, HI⟩ := hrel
                have ybx := HI.out.i.box.2.2.2.2.1
                by_cases hlt : k < x.n4
                · have hk0 : (0 : Int) ≤ (k : Int) := by omega
                  have hk1 : (k : Int) < (x.n4 : Int) := by omega
                  rcases HS.out.sp.cs.2 with h0 | ⟨b, off, hao, hbl, hc⟩
                  · omega
                  obtain ⟨e1, e2, e3⟩ := hc k hlt
                  rw [hao] at ybx
                  have HAO := hide hao
                  have HX := HB.out.c k hlt
                  have hsa := numT_size HX.1
                  have hsb := numT_size HX.2.1
                  have hsc := numT_size HX.2.2
                  have I1 := hide HX.1
                  have I2 := hide HX.2.1
                  have I3 := hide HX.2.2
                  have HTK : Hid (s.classes.take (k + 1) = s.classes.take k ++ [(gC s.classes k)]) := hide (take_gC (by have := HS.out.sp.cs.1; omega))
                  have HLM : Hid ((⟨#[99, 108, 97, 115, 115, 32]⟩ ++ numT (gC s.classes k).1 ++ ⟨#[32]⟩ ++ numT (gC s.classes k).2.1 ++ ⟨#[32]⟩ ++ numT (gC s.classes k).2.2 : ByteArray).data.toList = lC (gC s.classes k)) := hide (by simp [numT, hexb, lC, ln, wClass, ByteArray.data_append])
                  clear HX
                  generalize (gC s.classes k).1 = z1 at *
                  generalize (gC s.classes k).2.1 = z2 at *
                  generalize (gC s.classes k).2.2 = z3 at *
                  have s1 : ¬ 9223372036854775807 < 6 + (numT z1).size := by omega
                  have s2 : ¬ 9223372036854775807 < 6 + (numT z1).size + 1 := by omega
                  have s3 : ¬ 9223372036854775807 < 6 + (numT z1).size + 1 + (numT z2).size := by omega
                  have s4 : ¬ 9223372036854775807 < 6 + (numT z1).size + 1 + (numT z2).size + 1 := by omega
                  have s5 : ¬ 9223372036854775807 < 6 + (numT z1).size + 1 + (numT z2).size + 1 + (numT z3).size := by omega
                  have HE1 := hide e1
                  have HE2 := hide e2
                  have HE3 := hide e3
                  have y2 : wr.drew.cell? ⟨b, off + k * 3, none⟩ = some (.int .i64 z1) := (bcell HI.out.b hbl).trans e1
                  have y3 : wr.drew.cell? ⟨b, off + k * 3 + 1, none⟩ = some (.int .i64 z2) := (bcell HI.out.b hbl).trans e2
                  have y4 : wr.drew.cell? ⟨b, off + k * 3 + 2, none⟩ = some (.int .i64 z3) := (bcell HI.out.b hbl).trans e3
                  have HI : Hid (LnI w W0 x s ([lV false] ++ s.merges.map lM ++ s.tokens.map lT ++ s.specials.map lS ++ (s.classes.take k).map lC) ao (1 + x.n1 + x.n2 + x.n3 + k) cap wr.drew) := hide (HI.out.next (below_drew (Below.refl _ _)))
                  have y1 : wr.drew.cell? ⟨w.heap.size, 4, none⟩ = some (.slice (some ⟨b, off, none⟩) x.n4 x.c4) := by have := HI.out.i.box.2.2.2.2.1; rw [hao] at this; exact this
                  have q1 := HI.out.i.lt
                  have q2 : b < wr.drew.heap.size := Nat.lt_of_lt_of_le hbl HI.out.b.size
                  clear hc e1 e2 e3
                  go_wp2
                  clear ybx
                  go_region_held3 (fun W => W.cell? ⟨w.heap.size, 4, none⟩ = some (.slice (some ⟨b, off, none⟩) x.n4 x.c4) ∧ W.cell? ⟨b, off + k * 3, none⟩ = some (.int .i64 z1) ∧ W.cell? ⟨b, off + k * 3 + 1, none⟩ = some (.int .i64 z2) ∧ W.cell? ⟨b, off + k * 3 + 2, none⟩ = some (.int .i64 z3)) (first | exact ⟨y1, y2, y3, y4⟩ | exact ⟨(bcell (low_alloc _ _) q1).trans y1, (bcell (low_alloc _ _) q2).trans y2, (bcell (low_alloc _ _) q2).trans y3, (bcell (low_alloc _ _) q2).trans y4⟩) (first
                    | (go_at_call 86; refine (num_call _ _ (by first | exact I1.out | exact I2.out | exact I3.out)).mono ?_; rintro e W1 ⟨rfl, hb⟩; replace y1 := (bcell hb q1).trans y1; replace y2 := (bcell hb q2).trans y2; replace y3 := (bcell hb q2).trans y3; replace y4 := (bcell hb q2).trans y4; replace q1 := Nat.lt_of_lt_of_le q1 hb.size; replace q2 := Nat.lt_of_lt_of_le q2 hb.size; replace HI := hide (HI.out.next hb); clear hb)
                    | (obtain ⟨g, cap1, W2, hrun, hL⟩ := LnI.app HS.out HI.out (⟨#[99, 108, 97, 115, 115, 32]⟩ ++ numT z1 ++ ⟨#[32]⟩ ++ numT z2 ++ ⟨#[32]⟩ ++ numT z3) (by omega); refine step_app_run (by rfl) _ _ _ _ (by rfl) _ _ (by rfl) (by rfl) _ _ hrun ?_; replace HI := hide hL; replace y1 : W2.cell? ⟨w.heap.size, 4, none⟩ = some (.slice (some ⟨b, off, none⟩) x.n4 x.c4) := (by have := HI.out.i.box.2.2.2.2.1; rw [HAO.out] at this; exact this); replace y2 := (bcell HI.out.b hbl).trans HE1.out; replace y3 := (bcell HI.out.b hbl).trans HE2.out; replace y4 := (bcell HI.out.b hbl).trans HE3.out; clear hrun hL))
                  clear y1 y2 y3 y4 q1 q2
                  rw [HLM.out] at HI
                  have HI2 : Hid (LnI w W0 x s ([lV false] ++ s.merges.map lM ++ s.tokens.map lT ++ s.specials.map lS ++ (s.classes.take (k + 1)).map lC) (some ⟨g, 0, none⟩) (1 + x.n1 + x.n2 + x.n3 + (k + 1)) cap1 W2) := hide (by have := HI.out; rw [HTK.out]; simpa [Nat.add_assoc] using this)
                  clear HI
                  go_wp2
                  exact ⟨⟨k + 1, _, cap1, rfl, by go_num, by omega, HI2⟩, by simp [intOf]; omega⟩
                · obtain rfl : k = x.n4 := by omega
                  have HI : Hid (LnI w W0 x s ([lV false] ++ s.merges.map lM ++ s.tokens.map lT ++ s.specials.map lS ++ s.classes.map lC) ao (1 + x.n1 + x.n2 + x.n3 + x.n4) cap wr) := hide (by have := HI.out; rw [List.take_of_length_le (by rw [HS.out.sp.cs.1]; exact Nat.le_refl _)] at this; exact this)
                  go_wp2
                  go_loopw [3, 8] (fun a i wr => ∃ (k : Nat) (ao : Option Addr) (cap : Nat), a = .slice ao (1 + x.n1 + x.n2 + x.n3 + x.n4 + k) cap ∧ i = .int .i64 k ∧ k ≤ x.n5 ∧ Hid (LnI w W0 x s ([lV false] ++ s.merges.map lM ++ s.tokens.map lT ++ s.specials.map lS ++ s.classes.map lC ++ (s.joins.take k).map lJ) ao (1 + x.n1 + x.n2 + x.n3 + x.n4 + k) cap wr)) (fun _ i _ => x.n5 - (intOf i).toNat)
                  case atStart => exact ⟨0, _, _, rfl, rfl, Nat.zero_le _, hide (by have := HI.out; simpa using this)⟩
                  case round =>
                    obtain ⟨k, ao, cap, rfl, rfl, hk, HI⟩ := hrel
                    have ybx := HI.out.i.box.2.2.2.2.2
                    by_cases hlt : k < x.n5
                    · have hk0 : (0 : Int) ≤ (k : Int) := by omega
                      have hk1 : (k : Int) < (x.n5 : Int) := by omega
                      rcases HS.out.sp.js.2 with h0 | ⟨b, off, hao, hbl, hc⟩
                      · omega
                      obtain ⟨e1, e2⟩ := hc k hlt
                      rw [hao] at ybx
                      have HAO := hide hao
                      have HX := HB.out.j k hlt
                      have hsa := numT_size HX.1
                      have hsb := numT_size HX.2
                      have I1 := hide HX.1
                      have I2 := hide HX.2
                      have HTK : Hid (s.joins.take (k + 1) = s.joins.take k ++ [(gM s.joins k)]) := hide (take_gM (by have := HS.out.sp.js.1; omega))
                      have HLM : Hid ((⟨#[106, 111, 105, 110, 32]⟩ ++ numT (gM s.joins k).1 ++ ⟨#[32]⟩ ++ numT (gM s.joins k).2 : ByteArray).data.toList = lJ (gM s.joins k)) := hide (by simp [numT, hexb, lJ, ln, wJoin, ByteArray.data_append])
                      clear HX
                      generalize (gM s.joins k).1 = z1 at *
                      generalize (gM s.joins k).2 = z2 at *
                      have s1 : ¬ 9223372036854775807 < 5 + (numT z1).size := by omega
                      have s2 : ¬ 9223372036854775807 < 5 + (numT z1).size + 1 := by omega
                      have s3 : ¬ 9223372036854775807 < 5 + (numT z1).size + 1 + (numT z2).size := by omega
                      have HE1 := hide e1
                      have HE2 := hide e2
                      have y2 : wr.drew.cell? ⟨b, off + k * 2, none⟩ = some (.int .i64 z1) := (bcell HI.out.b hbl).trans e1
                      have y3 : wr.drew.cell? ⟨b, off + k * 2 + 1, none⟩ = some (.int .i64 z2) := (bcell HI.out.b hbl).trans e2
                      have HI : Hid (LnI w W0 x s ([lV false] ++ s.merges.map lM ++ s.tokens.map lT ++ s.specials.map lS ++ s.classes.map lC ++ (s.joins.take k).map lJ) ao (1 + x.n1 + x.n2 + x.n3 + x.n4 + k) cap wr.drew) := hide (HI.out.next (below_drew (Below.refl _ _)))
                      have y1 : wr.drew.cell? ⟨w.heap.size, 5, none⟩ = some (.slice (some ⟨b, off, none⟩) x.n5 x.c5) := by have := HI.out.i.box.2.2.2.2.2; rw [hao] at this; exact this
                      have q1 := HI.out.i.lt
                      have q2 : b < wr.drew.heap.size := Nat.lt_of_lt_of_le hbl HI.out.b.size
                      clear hc e1 e2
                      go_wp2
                      clear ybx
                      go_region_held3 (fun W => W.cell? ⟨w.heap.size, 5, none⟩ = some (.slice (some ⟨b, off, none⟩) x.n5 x.c5) ∧ W.cell? ⟨b, off + k * 2, none⟩ = some (.int .i64 z1) ∧ W.cell? ⟨b, off + k * 2 + 1, none⟩ = some (.int .i64 z2)) (first | exact ⟨y1, y2, y3⟩ | exact ⟨(bcell (low_alloc _ _) q1).trans y1, (bcell (low_alloc _ _) q2).trans y2, (bcell (low_alloc _ _) q2).trans y3⟩) (first
                        | (go_at_call 86; refine (num_call _ _ (by first | exact I1.out | exact I2.out)).mono ?_; rintro e W1 ⟨rfl, hb⟩; replace y1 := (bcell hb q1).trans y1; replace y2 := (bcell hb q2).trans y2; replace y3 := (bcell hb q2).trans y3; replace q1 := Nat.lt_of_lt_of_le q1 hb.size; replace q2 := Nat.lt_of_lt_of_le q2 hb.size; replace HI := hide (HI.out.next hb); clear hb)
                        | (obtain ⟨g, cap1, W2, hrun, hL⟩ := LnI.app HS.out HI.out (⟨#[106, 111, 105, 110, 32]⟩ ++ numT z1 ++ ⟨#[32]⟩ ++ numT z2) (by omega); refine step_app_run (by rfl) _ _ _ _ (by rfl) _ _ (by rfl) (by rfl) _ _ hrun ?_; replace HI := hide hL; replace y1 : W2.cell? ⟨w.heap.size, 5, none⟩ = some (.slice (some ⟨b, off, none⟩) x.n5 x.c5) := (by have := HI.out.i.box.2.2.2.2.2; rw [HAO.out] at this; exact this); replace y2 := (bcell HI.out.b hbl).trans HE1.out; replace y3 := (bcell HI.out.b hbl).trans HE2.out; clear hrun hL))
                      clear y1 y2 y3 q1 q2
                      rw [HLM.out] at HI
                      have HI2 : Hid (LnI w W0 x s ([lV false] ++ s.merges.map lM ++ s.tokens.map lT ++ s.specials.map lS ++ s.classes.map lC ++ (s.joins.take (k + 1)).map lJ) (some ⟨g, 0, none⟩) (1 + x.n1 + x.n2 + x.n3 + x.n4 + (k + 1)) cap1 W2) := hide (by have := HI.out; rw [HTK.out]; simpa [Nat.add_assoc] using this)
                      clear HI
                      go_wp2
                      exact ⟨⟨k + 1, _, cap1, rfl, by go_num, by omega, HI2⟩, by simp [intOf]; omega⟩
                    · obtain rfl : k = x.n5 := by omega
                      have HI : Hid (LnI w W0 x s ([lV false] ++ s.merges.map lM ++ s.tokens.map lT ++ s.specials.map lS ++ s.classes.map lC ++ s.joins.map lJ) ao (1 + x.n1 + x.n2 + x.n3 + x.n4 + x.n5) cap wr) := hide (by have := HI.out; rw [List.take_of_length_le (by rw [HS.out.sp.js.1]; exact Nat.le_refl _)] at this; exact this)
                      go_wp2
                      go_ret
                      exact LnI.fin HI.out (by rw [HW0.out]; omega) (by simp [Sp.lines, Sp.body, HRK.out])

end Go.Proofs.YtoihocbnhoniaaaGreatDoor.Wf
