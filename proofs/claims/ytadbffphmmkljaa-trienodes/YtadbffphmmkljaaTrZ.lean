/- TrieBegins: the walk. -/
import Derived.Test.YtadbffphmmkljaaTrP
import Derived.Test.YtadbffphmmkljaaTkGr
namespace Go.Proofs.Ytadbffphmmkljaa
open Go.RowKit Go.Maps Go.Shelf
set_option linter.unusedVariables false
set_option linter.unusedSimpArgs false
attribute [local go_sem ↓] Go.wp_at_zero Go.wp_at_succ

/-- Where the law stands: the document's table in a box, and the trie. -/
structure TbS (w : World) (q r : Nat) (vb vm : Value) (tx : List ByteArray) (mg : List (Int × Int)) (W : World) : Prop where
  bel : Below w.heap.size w W
  rt : RT vb vm tx mg W
  bx : W.heap[q]? = some (.cells #[vb, vm] 27 (0, 0))
  tr : ∃ B, Tri B r tx W
section
variable {w : World} {q r : Nat} {vb vm : Value} {tx : List ByteArray} {mg : List (Int × Int)} {W W' : World}
theorem TbS.next (h : TbS w q r vb vm tx mg W) (hb : Below W.heap.size W W') : TbS w q r vb vm tx mg W' := by
  obtain ⟨B, ht⟩ := h.tr
  exact ⟨h.bel.trans (hb.mono h.bel.size), h.rt.kept hb, by rw [hb.block q (Array.getElem?_eq_some_iff.1 h.bx).1]; exact h.bx, B, ht.kept hb⟩
theorem tbs_up (h : TbS w q r vb vm tx mg W) (hb : Below W.heap.size W W') : TbS w q r vb vm tx mg W' := h.next hb
theorem TbS.cells (h : TbS w q r vb vm tx mg W) : W.cell? ⟨q, 0, none⟩ = some vb ∧ W.cell? ⟨q, 1, none⟩ = some vm := ⟨Lib.cell_of_heap h.bx 0, Lib.cell_of_heap h.bx 1⟩
end
/-- The first loop: the tokens that begin the first k bytes. -/
structure BgL (W7 : World) (tx : List ByteArray) (X : List UInt8) (k : Nat) (ao : Option Addr) (n cap : Nat) (W : World) : Prop where
  bel : Below W7.heap.size W7 W
  row : W.ownsRow W7.heap.size 3 1 (.slice ao n cap) n (nv (beT (lsT tx) X k))
  len : n = (beT (lsT tx) X k).length

theorem beT_at (S : List (List UInt8)) (X : List UInt8) {m : Nat} (h : 1 ≤ m) : beT S X m = beT S X (m - 1) ++ (idT S (X.take m)).toList := by
  obtain ⟨k, rfl⟩ : ∃ k, m = k + 1 := ⟨m - 1, by omega⟩
  rfl
theorem BgL.next {W7 : World} {tx : List ByteArray} {X : List UInt8} {k : Nat} {ao : Option Addr} {n cap : Nat} {W W' : World} (h : BgL W7 tx X k ao n cap W) (hb : Below W.heap.size W W') : BgL W7 tx X k ao n cap W' :=
  ⟨h.bel.trans (hb.mono h.bel.size), Mk.row_keptB h.row hb, h.len⟩
/-- The second loop: the tokens up to i that begin with the text; those that are longer. -/
structure WiL (W8 : World) (tx : List ByteArray) (X : List UInt8) (i : Nat) (aw : Option Addr) (nw cw : Nat) (al : Option Addr) (nl cl : Nat) (W : World) : Prop where
  bel : Below W8.heap.size W8 W
  rw' : W.ownsRow W8.heap.size 3 1 (.slice aw nw cw) nw (nv (wiU (lsT tx) X i))
  rl : W.ownsRow W8.heap.size 3 1 (.slice al nl cl) nl (nv (loU (lsT tx) X i))
  lw : nw = (wiU (lsT tx) X i).length
  ll : nl = (loU (lsT tx) X i).length
  hd : ∀ k, (Value.slice aw nw cw).ownBlock = some k → (Value.slice al nl cl).ownBlock ≠ some k

theorem tints_nv (w : World) (A B : Nat) (va vb : Value) (n : Nat) (l : List Nat) (ha : w.ownsRow A 3 1 va n (nv l)) (hb : w.ownsRow B 3 1 vb n (nv l)) (hn : n = l.length) (h : n ≤ 1000000) :
    Calls Try.prog 14 #[va, vb] w fun e w' => e = .returned (.bool true) ∧ Below w.heap.size w w' := by
  have e : n = (l.map (fun (k : Nat) => (k : Int))).length := by simp [hn]
  subst e
  exact tints_same w A B va vb _ ha hb h

set_option maxRecDepth 20000 in
set_option maxHeartbeats 8000000 in
theorem tbegins_walk (au : Option Addr) (nu cu : Nat) (U : List Int) (s : ByteArray) (w : World) (hU : ReadsH w au nu U) (hn : nu ≤ 9223372036854775807) (hs : s.size ≤ 9223372036854775807) {ρ : Ren} (Ly : Lays.n189 Try.prog ρ) (hf : ρ.f 189 = 28) :
    Calls Try.prog 3 #[.slice au nu cu, .string s] w fun e w' => e = .returned (.bool true) ∧ Below w.heap.size w w' := by
  have HA := hide (awake11_any Ly hf w)
  by_cases h60 : 60 < nu
  · have g60 : (60 : Int) < (nu : Int) := by omega
    clear hU
    go_enter Try.func3, Try.ntmps3
    go_wp2_with fail
    refine (unhide HA).mono ?_
    rintro e w2 ⟨rfl, hb2⟩
    have HB2 := hide hb2
    clear hb2
    go_wp2
    go_ret
    exact ⟨rfl, HB2.out⟩
  have g60 : ¬ (60 : Int) < (nu : Int) := by omega
  by_cases h200 : 200 < s.size
  · have g200 : (200 : Int) < (s.size : Int) := by omega
    clear hU
    go_enter Try.func3, Try.ntmps3
    go_wp2_with fail
    refine (unhide HA).mono ?_
    rintro e w2 ⟨rfl, hb2⟩
    have HB2 := hide hb2
    clear hb2
    go_wp2
    go_ret
    exact ⟨rfl, HB2.out⟩
  have g200 : ¬ (200 : Int) < (s.size : Int) := by omega
  have HU := hide hU
  clear hU
  go_enter Try.func3, Try.ntmps3
  go_wp2_with fail
  refine (unhide HA).mono ?_
  rintro e w2 ⟨rfl, hb2⟩
  have HB2 := hide hb2
  have HG := hide (rgrow_any au nu cu U w2 (HU.out.kept hb2) (by omega))
  clear hb2 HA HU
  go_wp2_with fail
  refine (unhide HG).mono ?_
  rintro e w3 ⟨⟨tx, mg, vb, vm, rfl, hR, hT⟩, hb3⟩
  obtain ⟨a1, c1, rfl⟩ := row_form hT.rb
  obtain ⟨a2, c2, rfl⟩ := row_form hT.rm
  have hl := low1 w3 (.cells #[.slice a1 tx.length c1, .slice a2 mg.length c2] 27)
  have hbx := heap_alloc_new w3 (.cells #[.slice a1 tx.length c1, .slice a2 mg.length c2] 27)
  have hT4 := hT.kept hl
  have HB4 := hide ((HB2.out.trans (hb3.mono HB2.out.size)).trans (hl.mono (Nat.le_trans HB2.out.size hb3.size)))
  have HN := hide (new_rch a2 c2 _ (hT4.reads rfl) hR)
  have y1 : (w3.alloc (.cells #[.slice a1 tx.length c1, .slice a2 mg.length c2] 27)).cell? ⟨w3.heap.size, 1, none⟩ = some (.slice a2 mg.length c2) := Lib.cell_of_heap hbx 1
  have HT4 := hide hT4
  have HBX := hide hbx
  have HK := hide hR.tok
  clear hl hbx hT hT4 hb3 HG hR
  go_wp2_with fail
  generalize w3.heap.size = q at *
  generalize w3.alloc (.cells #[.slice a1 tx.length c1, .slice a2 mg.length c2] 27) = w4 at *
  refine (unhide HN).mono ?_
  rintro e w5 ⟨⟨p, F, v0, v1, b2, b3, rfl, hTA, -⟩, hb5⟩
  have HTR := hide (trienew_any hTA HK.out)
  have HB5 := hide hb5
  clear hTA hb5 HN y1
  go_wp2_with fail
  refine (unhide HTR).mono ?_
  rintro e w7 ⟨r, rfl, hTr, hb7⟩
  have hb47 : Below w4.heap.size w4 w7 := HB5.out.trans (hb7.mono HB5.out.size)
  have HS : Hid (TbS w q r (.slice a1 tx.length c1) (.slice a2 mg.length c2) tx mg w7) := hide ⟨HB4.out.trans (hb47.mono HB4.out.size), HT4.out.kept hb47, by rw [hb47.block q (Array.getElem?_eq_some_iff.1 HBX.out).1]; exact HBX.out, _, hTr⟩
  clear hTr hb7 hb47 HTR HB5 HB4 HT4 HBX HB2
  have h256 : 256 ≤ tx.length := by have := HK.out.len; omega
  have h1000 : tx.length ≤ 1000 := HK.out.cap
  obtain ⟨g, cap, hv, hglt, -⟩ := HS.out.rt.text (i := 0) (by omega)
  simp only [Value.slice.injEq] at hv
  obtain ⟨rfl, -, rfl⟩ := hv
  clear hglt
  go_wp2
  go_loopw [10, 13] (fun a i wr => ∃ (m : Nat) (ao : Option Addr) (n cap : Nat), a = .slice ao n cap ∧ i = .int .i64 m ∧ 1 ≤ m ∧ m ≤ s.size + 1 ∧ Hid (BgL w7 tx s.data.toList (m - 1) ao n cap wr)) (fun _ i _ => s.size + 1 - (intOf i).toNat)
  case atStart => exact ⟨1, none, 0, 0, rfl, rfl, Nat.le_refl _, by omega, hide ⟨Below.refl _ _, World.ownsRow_nil _ _ _ _, rfl⟩⟩
  case round =>
    obtain ⟨m, ao, n, cap0, rfl, rfl, hm1, hm2, HL⟩ := hrel
    have HSR := hide (tbs_up HS.out HL.out.bel)
    by_cases hlt : m ≤ s.size
    · have hm0 : (0 : Int) ≤ (m : Int) := by omega
      have hmz : (m : Int) ≤ (s.size : Int) := by omega
      have y0 : ∀ d : Wn wr, d.W.cell? ⟨q, 0, none⟩ = some (.slice (some ⟨g, 0, none⟩) tx.length c1) := fun d => (HSR.out.next d.h).cells.1
      have y1 : ∀ d : Wn wr, d.W.cell? ⟨q, 1, none⟩ = some (.slice a2 mg.length c2) := fun d => (HSR.out.next d.h).cells.2
      have K1 : Hid (∀ d : Wn wr, Calls Try.prog 10 #[.agg #[.slice (some ⟨g, 0, none⟩) tx.length c1, .slice a2 mg.length c2], .string (s.extract 0 m)] d.W fun e w' => e = .returned (.int .i64 (fdI (lsT tx) (s.data.toList.take m))) ∧ ∃ p : Wn wr, w' = p.W) := hide (fun d => (rfind_any (HSR.out.next d.h).rt (s.extract 0 m) (by omega)).mono (fun e w' ⟨⟨x, he, hx⟩, hb⟩ => by
        have h1 := fnd_fd HK.out hx
        rw [ext_toList s hlt] at h1
        subst h1
        exact ⟨he, ⟨w', below_st d.h hb⟩, rfl⟩))
      have HBE := hide (beT_at (lsT tx) s.data.toList hm1)
      have hle := beT_len (lsT tx) s.data.toList (m - 1)
      have ne : Nonempty (Wn wr) := ⟨⟨_, Below.refl _ _⟩⟩
      cases hid : idT (lsT tx) (s.data.toList.take m) with
      | none =>
        have hfd : fdI (lsT tx) (s.data.toList.take m) = -1 := by unfold fdI; rw [hid]
        rw [hfd] at K1
        rw [hid] at HBE
        clear hfd hid
        go_wp2
        refine region_t (α := Wn wr) Wt.W (by kernel_rfl) (by kernel_rfl) ⟨_, below_dr⟩ rfl ?_
        repeat (go_big_quiet_step (first | (go_at_call 10; with_reducible exact K1.out _)))
        refine wpQuiet_nil ?_
        intro W1 hw'
        have hW : Below wr.heap.size wr W1 := by obtain ⟨p, rfl⟩ := hw'; exact p.h
        have HN : Hid (BgL w7 tx s.data.toList (m + 1 - 1) ao n cap0 W1) := hide (by
          have h := HL.out.next hW
          rw [Nat.add_sub_cancel]
          exact ⟨h.bel, by rw [HBE.out]; simpa using h.row, by rw [HBE.out]; simpa using h.len⟩)
        clear hW hw' K1 y0 y1 ne HL HBE
        go_wp2
        exact ⟨⟨m + 1, ao, n, cap0, rfl, by go_num, by omega, by omega, HN⟩, by simp [intOf]; omega⟩
      | some id =>
        have hfd : fdI (lsT tx) (s.data.toList.take m) = (id : Int) := by unfold fdI; rw [hid]
        rw [hfd] at K1
        rw [hid] at HBE
        clear hfd hid
        go_wp2
        refine region_t (α := Wn wr) Wt.W (by kernel_rfl) (by kernel_rfl) ⟨_, below_dr⟩ rfl ?_
        repeat (go_big_quiet_step (first | (go_at_call 10; with_reducible exact K1.out _)))
        refine wpQuiet_nil ?_
        intro W1 hw'
        have hW : Below wr.heap.size wr W1 := by obtain ⟨p, rfl⟩ := hw'; exact p.h
        have HL1 := hide (HL.out.next hW)
        have hlen := HL1.out.len
        obtain ⟨g1, cap1, w3, hrun, hown, hb3⟩ := Mk.app_int W1 w7.heap.size ao n cap0 _ (id : Int) HL1.out.row (by omega) HL1.out.bel.size
        have HRUN := hide hrun
        have HN : Hid (BgL w7 tx s.data.toList (m + 1 - 1) (some ⟨g1, 0, none⟩) (n + 1) cap1 w3) := hide (by
          rw [Nat.add_sub_cancel]
          exact ⟨HL1.out.bel.trans hb3, by rw [HBE.out]; simpa [nv] using hown, by rw [HBE.out, List.length_append, ← hlen]; rfl⟩)
        have hid0 : (0 : Int) ≤ (id : Int) := by omega
        clear hW hw' K1 y0 y1 ne HL HL1 HBE hrun hown hb3 hlen hle
        go_wp2_with (at_builtin; refine Lib.wpList_append_run _ rfl _ _ _ _ rfl _ _ rfl rfl _ _ HRUN.out ?_)
        first
          | exact ⟨⟨m + 1, _, _, _, rfl, by go_num, by omega, by omega, HN⟩, by simp [intOf]; omega⟩
          | (go_roundw
             case rel => exact ⟨m + 1, _, _, _, rfl, by go_num, by omega, by omega, HN⟩
             case measure => simp [intOf]; omega)
    · have hms : m - 1 = s.size := by omega
      have hmz : ¬ (m : Int) ≤ (s.size : Int) := by omega
      rw [hms] at HL
      clear hms
      have HBR := hide HL.out.row
      have HBL := hide HL.out.len
      have HB8 := hide HL.out.bel
      clear HL HS
      generalize wr = w8 at *
      go_wp2
      go_loopw [11, 12, 15] (fun a b i wr => ∃ (k : Nat) (aw : Option Addr) (nw cw : Nat) (al : Option Addr) (nl cl : Nat), a = .slice aw nw cw ∧ b = .slice al nl cl ∧ i = .int .i64 k ∧ k ≤ tx.length ∧ Hid (WiL w8 tx s.data.toList k aw nw cw al nl cl wr)) (fun _ _ i _ => tx.length - (intOf i).toNat)
      case atStart => exact ⟨0, none, 0, 0, none, 0, 0, rfl, rfl, rfl, Nat.zero_le _, hide ⟨Below.refl _ _, World.ownsRow_nil _ _ _ _, World.ownsRow_nil _ _ _ _, rfl, rfl, fun k h => by cases h⟩⟩
      case round =>
        obtain ⟨k, aw, nw, cw, al, nl, cl, rfl, rfl, rfl, hk, HW⟩ := hrel
        have HS9 := hide (tbs_up HSR.out HW.out.bel)
        obtain ⟨y0, y1⟩ := HS9.out.cells
        by_cases hlk : k < tx.length
        · have hk0 : (0 : Int) ≤ (k : Int) := by omega
          have hk1 : (k : Int) < (tx.length : Int) := by omega
          have CT : ∀ W, TbS w q r (.slice (some ⟨g, 0, none⟩) tx.length c1) (.slice a2 mg.length c2) tx mg W → W.cell? ⟨g, k, none⟩ = some (.string (gs tx k)) := fun W h => by
            obtain ⟨g', cap', hv', _, hc'⟩ := h.rt.text hlk
            simp only [Value.slice.injEq, Option.some.injEq, Addr.mk.injEq, and_true] at hv'
            rw [hv'.1]
            exact hc'
          have z0 := CT _ HS9.out
          have HCT := hide CT
          have HBG := hide (tbegins_any (gs tx k) s wr)
          have hwn := wiU_next (lsT tx) s.data.toList k
          have hln := loU_next (lsT tx) s.data.toList k
          rw [lsT_getD tx hlk] at hwn hln
          have HWN := hide hwn
          have HLN := hide hln
          have hwl := wiU_len (lsT tx) s.data.toList k
          have hll := loU_len (lsT tx) s.data.toList k
          have hsz : (gs tx k).data.toList.length = (gs tx k).size := by simp
          have hsx : s.data.toList.length = s.size := by simp
          rw [hsz, hsx] at HLN
          clear hwn hln CT hsz hsx
          generalize gs tx k = tk at *
          cases hp : s.data.toList.isPrefixOf tk.data.toList with
          | false =>
            rw [hp] at HBG HWN HLN
            have HN : Hid (WiL w8 tx s.data.toList (k + 1) aw nw cw al nl cl wr) := hide ⟨HW.out.bel, by rw [HWN.out]; simpa using HW.out.rw', by rw [HLN.out]; simpa using HW.out.rl, by rw [HWN.out]; simpa using HW.out.lw, by rw [HLN.out]; simpa using HW.out.ll, HW.out.hd⟩
            clear hp
            go_wp2_with fail
            refine (unhide HBG).mono ?_
            rintro e w10 ⟨rfl, rfl⟩
            clear HBG HW HWN HLN z0
            go_wp2
            exact ⟨⟨k + 1, aw, nw, cw, al, nl, cl, rfl, rfl, by go_num, by omega, HN⟩, by simp [intOf]; omega⟩
          | true =>
            rw [hp] at HBG HWN HLN
            have hnw : nw ≤ 1000 := by have := HW.out.lw; omega
            have hnl : nl ≤ 1000 := by have := HW.out.ll; omega
            obtain ⟨g1, cap1, w11, hrun, hown, hown2, hd2, hb11⟩ := app_two wr w8.heap.size aw al nw cw nl cl _ _ (k : Int) HW.out.rw' HW.out.rl HW.out.hd (by omega) HW.out.bel.size
            have HRUN := hide hrun
            have HM := hide (And.intro hown (And.intro hown2 hd2))
            have HB11 := hide (HW.out.bel.trans hb11)
            have HS11 := hide (tbs_up HSR.out (HW.out.bel.trans hb11))
            have x0 := HS11.out.cells.1
            have x1 := HCT.out _ HS11.out
            clear hp hrun hown hown2 hd2 hb11
            by_cases hsl : s.size < tk.size
            · have hd0 : (s.size : Int) < (tk.size : Int) := by omega
              rw [decide_eq_true hsl] at HLN
              obtain ⟨g2, cap2, w12, hrun2, hown3, hown4, hd4, hb12⟩ := app_two w11 w8.heap.size al (some ⟨g1, 0, none⟩) nl cl (nw + 1) cap1 _ _ (k : Int) HM.out.2.1 HM.out.1 (fun j h1 h2 => HM.out.2.2 j h2 h1) (by omega) HB11.out.size
              have HRUN2 := hide hrun2
              have HN : Hid (WiL w8 tx s.data.toList (k + 1) (some ⟨g1, 0, none⟩) (nw + 1) cap1 (some ⟨g2, 0, none⟩) (nl + 1) cap2 w12) := hide ⟨HB11.out.trans hb12, by rw [HWN.out]; simpa [nv] using hown4, by rw [HLN.out]; simpa [nv] using hown3, by rw [HWN.out, List.length_append, ← HW.out.lw]; rfl, by rw [HLN.out, List.length_append, ← HW.out.ll]; rfl, fun j h1 h2 => hd4 j h2 h1⟩
              clear hrun2 hown3 hown4 hd4 hb12 HM HB11 HS11 HW HWN HLN hwl hll hnw hnl HS9 HCT hsl
              go_wp2_with fail
              refine (unhide HBG).mono ?_
              rintro e w10 ⟨rfl, rfl⟩
              clear HBG
              go_wp2_with (at_builtin; first | refine Lib.wpList_append_run _ rfl _ _ _ _ rfl _ _ rfl rfl _ _ HRUN.out ?_ | refine Lib.wpList_append_run _ rfl _ _ _ _ rfl _ _ rfl rfl _ _ HRUN2.out ?_)
              first
                | exact ⟨⟨k + 1, _, _, _, _, _, _, rfl, rfl, by go_num, by omega, HN⟩, by simp [intOf]; omega⟩
                | (go_roundw
                   case rel => exact ⟨k + 1, _, _, _, _, _, _, rfl, rfl, by go_num, by omega, HN⟩
                   case measure => simp [intOf]; omega)
            · have hd0 : ¬ (s.size : Int) < (tk.size : Int) := by omega
              rw [decide_eq_false hsl] at HLN
              have HN : Hid (WiL w8 tx s.data.toList (k + 1) (some ⟨g1, 0, none⟩) (nw + 1) cap1 al nl cl w11) := hide ⟨HB11.out, by rw [HWN.out]; simpa [nv] using HM.out.1, by rw [HLN.out]; simpa using HM.out.2.1, by rw [HWN.out, List.length_append, ← HW.out.lw]; rfl, by rw [HLN.out]; simpa using HW.out.ll, HM.out.2.2⟩
              clear HM HB11 HS11 HW HWN HLN hwl hll hnw hnl HS9 HCT hsl
              go_wp2_with fail
              refine (unhide HBG).mono ?_
              rintro e w10 ⟨rfl, rfl⟩
              clear HBG
              go_wp2_with (at_builtin; refine Lib.wpList_append_run _ rfl _ _ _ _ rfl _ _ rfl rfl _ _ HRUN.out ?_)
              exact ⟨⟨k + 1, _, _, _, _, _, _, rfl, rfl, by go_num, by omega, HN⟩, by simp [intOf]; omega⟩
        · obtain rfl : tx.length = k := by omega
          have hwT : wiU (lsT tx) s.data.toList tx.length = wiT (lsT tx) s.data.toList := by rw [← wiU_all, lsT_len]
          have hlT : loU (lsT tx) s.data.toList tx.length = loT (lsT tx) s.data.toList := by rw [← loU_all, lsT_len]
          have HLW : Hid (nw = (wiT (lsT tx) s.data.toList).length) := hide (by rw [← hwT]; exact HW.out.lw)
          have HLL : Hid (nl = (loT (lsT tx) s.data.toList).length) := hide (by rw [← hlT]; exact HW.out.ll)
          have HRW : Hid (wr.ownsRow w8.heap.size 3 1 (.slice aw nw cw) nw (nv (wiT (lsT tx) s.data.toList))) := hide (by rw [← hwT]; exact HW.out.rw')
          have HRL : Hid (wr.ownsRow w8.heap.size 3 1 (.slice al nl cl) nl (nv (loT (lsT tx) s.data.toList))) := hide (by rw [← hlT]; exact HW.out.rl)
          have HRB := hide (Mk.row_keptB HBR.out HW.out.bel)
          have HLG : Hid _ := hide (by obtain ⟨B, ht⟩ := HS9.out.tr; exact tri_longest ht s (by omega))
          have hbl := beT_len (lsT tx) s.data.toList s.size
          have hwl := wiT_le (lsT tx) s.data.toList
          have hll := loU_len (lsT tx) s.data.toList (lsT tx).length
          rw [loU_all, lsT_len] at hll
          rw [lsT_len] at hwl
          have hnn : n ≤ 200 := by have := HBL.out; omega
          have hnw : nw ≤ 1000 := by have := HLW.out; omega
          have hnl : nl ≤ 1000 := by have := HLL.out; omega
          clear HW HB8 HBR hwT hlT HSR hbl hwl hll hmz hm1 hm2 hlt
          by_cases hn0 : 0 < n
          · have hd : decide (0 < (beT (lsT tx) s.data.toList s.size).length) = true := decide_eq_true (by rw [← HBL.out]; exact hn0)
            rw [hd] at HLG
            have hRI := Mk.RdI.of_row HRB.out
            obtain ⟨m1, hm1⟩ : ∃ m1, n = m1 + 1 := ⟨n - 1, by omega⟩
            have hlast : Mk.gI ((beT (lsT tx) s.data.toList s.size).map (fun (k : Nat) => (k : Int))) m1 = (((beT (lsT tx) s.data.toList s.size).getLastD 0 : Nat) : Int) := by
              have h2 : m1 < (beT (lsT tx) s.data.toList s.size).length := by rw [← HBL.out]; omega
              have h3 : (beT (lsT tx) s.data.toList s.size).getLastD 0 = (beT (lsT tx) s.data.toList s.size)[m1] := by
                rw [List.getLastD_eq_getLast?, List.getLast?_eq_getElem?, show (beT (lsT tx) s.data.toList s.size).length - 1 = m1 by rw [← HBL.out]; omega, List.getElem?_eq_getElem h2]
                rfl
              rw [h3]
              simp [Mk.gI, h2]
            rcases hRI.2 with h1 | ⟨bb, off, rfl, hbbl, hcb⟩
            · omega
            have hcl : wr.cell? ⟨bb, off + m1, none⟩ = some (.int .i64 (((beT (lsT tx) s.data.toList s.size).getLastD 0 : Nat) : Int)) := by
              have h := hcb m1 (by omega)
              rw [hlast] at h
              exact h
            have hwrp : IntKind.i64.wrap ((n : Int) - 1) = (m1 : Int) := by rw [IntKind.wrap_i64]; omega
            have hnp : (0 : Int) < (n : Int) := by omega
            have hm10 : (0 : Int) ≤ (m1 : Int) := by omega
            have hm11 : (m1 : Int) < (n : Int) := by omega
            have HCL := hide (And.intro hbbl hcl)
            clear hd hRI hlast hcb hcl hbbl hm1
            generalize (beT (lsT tx) s.data.toList s.size).getLastD 0 = lst at *
            go_wp2_with fail
            refine (unhide HLG).mono ?_
            rintro e w13 ⟨rfl, hb13⟩
            have hcl13 := (hb13.cell (p := ⟨bb, off + m1, none⟩) HCL.out.1).trans HCL.out.2
            have HB13 := hide hb13
            clear hb13 HLG HCL
            have HS13 := hide (tbs_up HS9.out HB13.out)
            have HCN : Hid _ := hide (by obtain ⟨B, ht⟩ := HS13.out.tr; exact tri_count ht s (by omega))
            rw [← HLW.out] at HCN
            clear HS13
            go_wp2_with fail
            refine (unhide HCN).mono ?_
            rintro e w14 ⟨rfl, hb14⟩
            have HB14 := hide (HB13.out.trans (hb14.mono HB13.out.size))
            have HS14 := hide (tbs_up HS9.out HB14.out)
            have HC1 : Hid _ := hide (by obtain ⟨B, ht⟩ := HS14.out.tr; exact tri_begin ht s (by omega))
            rw [← HBL.out] at HC1
            clear hb14 HCN HS14
            go_wp2_with fail
            refine (unhide HC1).mono ?_
            rintro e w15 ⟨⟨ao1, n1, cp1, rfl, hn1, hr1⟩, hb15⟩
            subst hn1
            have HB15 := hide (HB14.out.trans (hb15.mono HB14.out.size))
            have HI1 := hide (tints_nv w15 _ _ _ _ _ _ hr1 (Mk.row_keptB HRB.out HB15.out) HBL.out (by omega))
            clear hb15 hr1 HC1
            go_wp2_with fail
            refine (unhide HI1).mono ?_
            rintro e w16 ⟨rfl, hb16⟩
            have HB16 := hide (HB15.out.trans (hb16.mono HB15.out.size))
            have HS16 := hide (tbs_up HS9.out HB16.out)
            have HC2 : Hid _ := hide (by obtain ⟨B, ht⟩ := HS16.out.tr; exact tri_within Ly hf ht HK.out s (by omega))
            rw [← HLW.out] at HC2
            clear hb16 HI1 HS16
            go_wp2_with fail
            refine (unhide HC2).mono ?_
            rintro e w17 ⟨⟨ao2, n2, cp2, rfl, hn2, hr2⟩, hb17⟩
            subst hn2
            have HB17 := hide (HB16.out.trans (hb17.mono HB16.out.size))
            have HI2 := hide (tints_nv w17 _ _ _ _ _ _ hr2 (Mk.row_keptB HRW.out HB17.out) HLW.out (by omega))
            clear hb17 hr2 HC2
            go_wp2_with fail
            refine (unhide HI2).mono ?_
            rintro e w18 ⟨rfl, hb18⟩
            have HB18 := hide (HB17.out.trans (hb18.mono HB17.out.size))
            have HS18 := hide (tbs_up HS9.out HB18.out)
            have HC3 : Hid _ := hide (by obtain ⟨B, ht⟩ := HS18.out.tr; exact tri_longer Ly hf ht HK.out s (by omega))
            rw [← HLL.out] at HC3
            clear hb18 HI2 HS18
            go_wp2_with fail
            refine (unhide HC3).mono ?_
            rintro e w19 ⟨⟨ao3, n3, cp3, rfl, hn3, hr3⟩, hb19⟩
            subst hn3
            have HB19 := hide (HB18.out.trans (hb19.mono HB18.out.size))
            have HI3 := hide (tints_nv w19 _ _ _ _ _ _ hr3 (Mk.row_keptB HRL.out HB19.out) HLL.out (by omega))
            clear hb19 hr3 HC3
            go_wp2_with fail
            refine (unhide HI3).mono ?_
            rintro e w20 ⟨rfl, hb20⟩
            have HB20 := hide (tbs_up HS9.out (HB19.out.trans (hb20.mono HB19.out.size))).bel
            clear hb20 HI3
            go_wp2
            go_ret
            exact ⟨rfl, HB20.out⟩
          · obtain rfl : n = 0 := by omega
            have hbn : beT (lsT tx) s.data.toList s.size = [] := List.length_eq_zero_iff.1 HBL.out.symm
            have hd : decide (0 < (beT (lsT tx) s.data.toList s.size).length) = false := by rw [hbn]; rfl
            have hg : (beT (lsT tx) s.data.toList s.size).getLastD 0 = 0 := by rw [hbn]; rfl
            rw [hd, hg] at HLG
            clear hd hg hbn
            go_wp2_with fail
            refine (unhide HLG).mono ?_
            rintro e w13 ⟨rfl, hb13⟩
            have HB13 := hide hb13
            clear hb13 HLG
            have HS13 := hide (tbs_up HS9.out HB13.out)
            have HCN : Hid _ := hide (by obtain ⟨B, ht⟩ := HS13.out.tr; exact tri_count ht s (by omega))
            rw [← HLW.out] at HCN
            clear HS13
            go_wp2_with fail
            refine (unhide HCN).mono ?_
            rintro e w14 ⟨rfl, hb14⟩
            have HB14 := hide (HB13.out.trans (hb14.mono HB13.out.size))
            have HS14 := hide (tbs_up HS9.out HB14.out)
            have HC1 : Hid _ := hide (by obtain ⟨B, ht⟩ := HS14.out.tr; exact tri_begin ht s (by omega))
            rw [← HBL.out] at HC1
            clear hb14 HCN HS14
            go_wp2_with fail
            refine (unhide HC1).mono ?_
            rintro e w15 ⟨⟨ao1, n1, cp1, rfl, hn1, hr1⟩, hb15⟩
            subst hn1
            have HB15 := hide (HB14.out.trans (hb15.mono HB14.out.size))
            have HI1 := hide (tints_nv w15 _ _ _ _ _ _ hr1 (Mk.row_keptB HRB.out HB15.out) HBL.out (by omega))
            clear hb15 hr1 HC1
            go_wp2_with fail
            refine (unhide HI1).mono ?_
            rintro e w16 ⟨rfl, hb16⟩
            have HB16 := hide (HB15.out.trans (hb16.mono HB15.out.size))
            have HS16 := hide (tbs_up HS9.out HB16.out)
            have HC2 : Hid _ := hide (by obtain ⟨B, ht⟩ := HS16.out.tr; exact tri_within Ly hf ht HK.out s (by omega))
            rw [← HLW.out] at HC2
            clear hb16 HI1 HS16
            go_wp2_with fail
            refine (unhide HC2).mono ?_
            rintro e w17 ⟨⟨ao2, n2, cp2, rfl, hn2, hr2⟩, hb17⟩
            subst hn2
            have HB17 := hide (HB16.out.trans (hb17.mono HB16.out.size))
            have HI2 := hide (tints_nv w17 _ _ _ _ _ _ hr2 (Mk.row_keptB HRW.out HB17.out) HLW.out (by omega))
            clear hb17 hr2 HC2
            go_wp2_with fail
            refine (unhide HI2).mono ?_
            rintro e w18 ⟨rfl, hb18⟩
            have HB18 := hide (HB17.out.trans (hb18.mono HB17.out.size))
            have HS18 := hide (tbs_up HS9.out HB18.out)
            have HC3 : Hid _ := hide (by obtain ⟨B, ht⟩ := HS18.out.tr; exact tri_longer Ly hf ht HK.out s (by omega))
            rw [← HLL.out] at HC3
            clear hb18 HI2 HS18
            go_wp2_with fail
            refine (unhide HC3).mono ?_
            rintro e w19 ⟨⟨ao3, n3, cp3, rfl, hn3, hr3⟩, hb19⟩
            subst hn3
            have HB19 := hide (HB18.out.trans (hb19.mono HB18.out.size))
            have HI3 := hide (tints_nv w19 _ _ _ _ _ _ hr3 (Mk.row_keptB HRL.out HB19.out) HLL.out (by omega))
            clear hb19 hr3 HC3
            go_wp2_with fail
            refine (unhide HI3).mono ?_
            rintro e w20 ⟨rfl, hb20⟩
            have HB20 := hide (tbs_up HS9.out (HB19.out.trans (hb20.mono HB19.out.size))).bel
            clear hb20 HI3
            go_wp2
            go_ret
            exact ⟨rfl, HB20.out⟩
end Go.Proofs.Ytadbffphmmkljaa
