/- ChainEncodes: by any table what is made of any bytes. -/
import Derived.Test.YtblbbenfaafcoaaChK
import Derived.Deep.RegionHeld3
namespace Go.Proofs.Ytblbbenfaafcoaa
open Go.RowKit Go.Maps
set_option linter.unusedVariables false
set_option linter.unusedSimpArgs false
attribute [local go_sem ↓] Go.wp_at_zero Go.wp_at_succ

/-- A table and the document's, that in a box too. -/
structure TbS (w : World) (q : Nat) (a1 : Option Addr) (c1 : Nat) (a2 : Option Addr) (c2 : Nat) (tx : List ByteArray) (mg : List (Int × Int)) (p : Nat) (F : List Nat) (v0 v1 : Value) (b2 b3 : Nat) (W : World) : Prop where
  k : Rch tx mg
  R : RT (.slice a1 tx.length c1) (.slice a2 mg.length c2) tx mg W
  T : TAt F p v0 v1 b2 b3 tx mg (lgs tx) W
  X : Box2 q (.slice a1 tx.length c1) (.slice a2 mg.length c2) W
  B : Below w.heap.size w W
theorem TbS.next {w : World} {q : Nat} {a1 : Option Addr} {c1 : Nat} {a2 : Option Addr} {c2 : Nat} {tx : List ByteArray} {mg : List (Int × Int)} {p : Nat} {F : List Nat} {v0 v1 : Value} {b2 b3 : Nat} {W W' : World} (h : TbS w q a1 c1 a2 c2 tx mg p F v0 v1 b2 b3 W) (hb : Below W.heap.size W W') : TbS w q a1 c1 a2 c2 tx mg p F v0 v1 b2 b3 W' :=
  ⟨h.k, h.R.kept hb, h.T.keptB hb, h.X.kept hb, h.B.trans (hb.mono h.B.size)⟩
theorem undrew {W W' : World} (hb : Below W.drew.heap.size W.drew W') : Below W.heap.size W W' := ⟨hb.os, hb.tape, hb.output, hb.size, hb.block⟩

set_option maxRecDepth 20000 in
set_option maxHeartbeats 8000000 in
theorem encodes_walk (ao : Option Addr) (n cap : Nat) (U : List Int) (s : ByteArray) (bl : Int) (w : World) (hM : ReadsH w ao n U) (hn : n ≤ 9223372036854775807) (hsz : s.size ≤ 9223372036854775807) (hbl : -9223372036854775808 ≤ bl ∧ bl ≤ 9223372036854775807) :
    Calls Try.prog 7 #[.slice ao n cap, .string s, .int .i64 bl] w fun e w' => e = .returned (.bool true) ∧ Below w.heap.size w w' := by
  go_enter Try.func7, Try.ntmps7
  by_cases hbig : 60 < n
  · have hb : (60 : Int) < (n : Int) := by omega
    go_wp2_with fail
    refine (awake5_any _).mono ?_
    rintro e w1 ⟨rfl, hb1⟩
    go_wp2
    go_ret
    exact ⟨rfl, hb1⟩
  have hb : ¬ (60 : Int) < (n : Int) := by omega
  by_cases hbig2 : 300 < s.size
  · have hc : (300 : Int) < (s.size : Int) := by omega
    go_wp2_with fail
    refine (awake5_any _).mono ?_
    rintro e w1 ⟨rfl, hb1⟩
    go_wp2
    go_ret
    exact ⟨rfl, hb1⟩
  have hc : ¬ (300 : Int) < (s.size : Int) := by omega
  go_wp2_with fail
  refine (awake5_any _).mono ?_
  rintro e w1 ⟨rfl, hb1⟩
  have HTB := hide (table_any ao n cap U w1 (hM.kept hb1) (by omega))
  have HB1 := hide hb1
  clear hb1
  go_wp2_with fail
  refine (unhide HTB).mono ?_
  rintro e w2 ⟨⟨tx, mg, vb, vm, p, F, v0, v1, b2, b3, rfl, hR, hT, hA⟩, hb2⟩
  obtain ⟨a1, c1, hv1⟩ := row_form hT.rb
  obtain ⟨a2, c2, hv2⟩ := row_form hT.rm
  subst hv1 hv2
  have hl2 := low1 w2 (.cells #[.slice a1 tx.length c1, .slice a2 mg.length c2] 30)
  have HS : Hid (TbS w w2.heap.size a1 c1 a2 c2 tx mg p F v0 v1 b2 b3 (w2.alloc (.cells #[.slice a1 tx.length c1, .slice a2 mg.length c2] 30))) := hide ⟨hR, hT.kept hl2, hA.keptB hl2, heap_alloc_new w2 _, (HB1.out.trans (hb2.mono HB1.out.size)).trans (hl2.mono (HB1.out.trans (hb2.mono HB1.out.size)).size)⟩
  have HE := hide (encode_any _ HS.out.T hR.tok s (by omega))
  clear hl2 hT hA hb2 hR HTB
  go_wp2_with fail
  generalize w2.alloc (.cells #[.slice a1 tx.length c1, .slice a2 mg.length c2] 30) = w3 at *
  generalize w2.heap.size = q at *
  refine (unhide HE).mono ?_
  rintro e w4 ⟨⟨v, rfl, hva⟩, hb4⟩
  obtain ⟨aa, ca, hvv⟩ := row_form hva
  subst hvv
  replace HS := hide (HS.out.next hb4)
  have HRa := hide hva
  clear hva hb4 HE
  obtain ⟨x0, x1, xf⟩ := HS.out.X.cells
  have HML := hide (show mg.length ≤ 1000 ∧ tx.length ≤ 2000 by have h1 := HS.out.k.tok.cap; have h2 := HS.out.k.tok.len; omega)
  have HSZ := hide (show s.size ≤ 100000 by omega)
  have hlen1 := enc_len mg (rnds mg tx.length) (bys s s.size)
  have hlen2 := enc_len mg (rnds mg bl) (bys s s.size)
  rw [bys_len s s.size (Nat.le_refl _)] at hlen1 hlen2
  have hm1 : ((made mg tx.length s).length : Int) ≤ (s.size : Int) := by unfold made; omega
  have HM1 := hide (show (made mg tx.length s).length ≤ 1000000 by unfold made; omega)
  have HM2 := hide (show (made mg bl s).length ≤ 1000000 by unfold made; omega)
  clear hlen1 hlen2
  have CA := hide (fun (W : World) (h : TbS w q a1 c1 a2 c2 tx mg p F v0 v1 b2 b3 W) => rall_any W.drew h.R.drew HML.out.1 HML.out.2 s HSZ.out)
  have CB := hide (fun (W : World) (h : TbS w q a1 c1 a2 c2 tx mg p F v0 v1 b2 b3 W) => below_any W h.T h.k.tok s HSZ.out bl)
  have CE := hide (fun (W : World) (h : TbS w q a1 c1 a2 c2 tx mg p F v0 v1 b2 b3 W) => rencode_any W h.R HML.out.1 s HSZ.out bl hbl)
  have CS := hide (fun (W : World) (h : TbS w q a1 c1 a2 c2 tx mg p F v0 v1 b2 b3 W) => steps_any W h.T h.k.tok s HSZ.out)
  generalize made mg tx.length s = A1 at *
  generalize made mg bl s = A2 at *
  go_wp2
  go_region_held3 (fun W => W.cell? ⟨q, 0, none⟩ = some (.slice a1 tx.length c1) ∧ W.cell? ⟨q, 1, none⟩ = some (.slice a2 mg.length c2)) (first | exact ⟨y0, y1⟩ | go_keep) (first
    | (go_at_call 31; refine (CA.out _ HS.out).mono ?_; rintro e W1 ⟨⟨v, rfl, hv⟩, hb⟩; obtain ⟨ab, cb, hvv⟩ := row_form hv; subst hvv; have hb2 := undrew hb; replace HS := hide (HS.out.next hb2); (try replace HRa := hide (row_keptB HRa.out hb2)); (try replace HRb := hide (row_keptB HRb.out hb2)); (try replace HRc := hide (row_keptB HRc.out hb2)); (try replace HRd := hide (row_keptB HRd.out hb2)); obtain ⟨y0, y1, yf⟩ := HS.out.X.cells; have HRb := hide hv)
    | (go_at_call 30; (first | refine (ints_same _ _ _ _ _ A2 HRc.out HRd.out HM2.out).mono ?_ | refine (ints_same _ _ _ _ _ A1 HRa.out HRb.out HM1.out).mono ?_); rintro e W2 ⟨rfl, hb⟩; have hb2 := hb; replace HS := hide (HS.out.next hb2); (try replace HRa := hide (row_keptB HRa.out hb2)); (try replace HRb := hide (row_keptB HRb.out hb2)); (try replace HRc := hide (row_keptB HRc.out hb2)); (try replace HRd := hide (row_keptB HRd.out hb2)); obtain ⟨y0, y1, yf⟩ := HS.out.X.cells)
    | (go_at_call 32; refine (CB.out _ HS.out).mono ?_; rintro e W3 ⟨⟨v, rfl, hv⟩, hb⟩; obtain ⟨ac, cc, hvv⟩ := row_form hv; subst hvv; have hb2 := hb; replace HS := hide (HS.out.next hb2); (try replace HRa := hide (row_keptB HRa.out hb2)); (try replace HRb := hide (row_keptB HRb.out hb2)); (try replace HRc := hide (row_keptB HRc.out hb2)); (try replace HRd := hide (row_keptB HRd.out hb2)); obtain ⟨y0, y1, yf⟩ := HS.out.X.cells; have HRc := hide hv)
    | (go_at_call 33; refine (CE.out _ HS.out).mono ?_; rintro e W4 ⟨⟨v, rfl, hv⟩, hb⟩; obtain ⟨ad, cd, hvv⟩ := row_form hv; subst hvv; have hb2 := hb; replace HS := hide (HS.out.next hb2); (try replace HRa := hide (row_keptB HRa.out hb2)); (try replace HRb := hide (row_keptB HRb.out hb2)); (try replace HRc := hide (row_keptB HRc.out hb2)); (try replace HRd := hide (row_keptB HRd.out hb2)); obtain ⟨y0, y1, yf⟩ := HS.out.X.cells; have HRd := hide hv)
    | (go_at_call 34; refine (CS.out _ HS.out).mono ?_; rintro e W5 ⟨rfl, hb⟩; have hb2 := hb; replace HS := hide (HS.out.next hb2); (try replace HRa := hide (row_keptB HRa.out hb2)); (try replace HRb := hide (row_keptB HRb.out hb2)); (try replace HRc := hide (row_keptB HRc.out hb2)); (try replace HRd := hide (row_keptB HRd.out hb2)); obtain ⟨y0, y1, yf⟩ := HS.out.X.cells))
  all_goals
    have hwr : IntKind.i64.wrap ((s.size : Int) - (A1.length : Int)) = (s.size : Int) - (A1.length : Int) := by rw [IntKind.wrap_i64]; omega
    rw [hwr]
    go_wp2
    go_ret
    exact ⟨by simp, HS.out.B⟩

end Go.Proofs.Ytblbbenfaafcoaa
