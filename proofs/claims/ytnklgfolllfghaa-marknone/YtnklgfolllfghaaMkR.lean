/- Contracts of package mark: Render. -/
import Derived.Test.YtnklgfolllfghaaMkG
import Derived.Test.YtnklgfolllfghaaMkC
namespace Go.Proofs.Ytnklgfolllfghaa.Mk
open Go.RowKit Go.Maps
set_option linter.unusedVariables false
set_option linter.unusedSimpArgs false

theorem rnd_snoc {T : List (List UInt8)} {u : List Int} {x : Int} {acc a : List UInt8} (h : rnd T u = some acc) (hx : itm T x = some a) : rnd T (u ++ [x]) = some (acc ++ a) := by
  rw [rnd_append, h, rnd, hx, rnd]
  simp
theorem rnd_stop {T : List (List UInt8)} {u v : List Int} {x : Int} (hx : itm T x = none) : rnd T (u ++ x :: v) = none := by
  rw [rnd_append, rnd, hx]
  cases rnd T u <;> simp
theorem split_at (I : List Int) {k : Nat} (h : k < I.length) : I = I.take k ++ gI I k :: I.drop (k + 1) := by
  have e : gI I k = I[k] := by rw [gI, List.getD_eq_getElem?_getD, List.getElem?_eq_getElem h]; rfl
  rw [e, ← List.drop_eq_getElem_cons h, List.take_append_drop]
/-- What Render answers. -/
def RndV (r : Option (List UInt8)) : Value := match r with
  | some l => .tuple #[.string ⟨l.toArray⟩, .bool true]
  | none => .tuple #[.string ⟨#[]⟩, .bool false]
theorem itm_byte (T : List (List UInt8)) {x : Int} (h0 : 0 ≤ x) (h1 : x < 256) : itm T x = some [UInt8.ofNat x.toNat] := by
  unfold itm; rw [if_pos (by omega)]
theorem itm_mark (T : List (List UInt8)) {x : Int} (h0 : x < 0) (h1 : -(T.length : Int) ≤ x) : itm T x = some (mT T (-1 - x).toNat) := by
  unfold itm; rw [if_neg (by omega), if_pos (by omega)]
theorem itm_none (T : List (List UInt8)) {x : Int} (h0 : ¬ (0 ≤ x ∧ x < 256)) (h1 : ¬ (x < 0 ∧ -(T.length : Int) ≤ x)) : itm T x = none := by
  unfold itm; rw [if_neg (by omega), if_neg h1]
theorem byte_cells {x : Int} (h0 : 0 ≤ x) (h1 : x < 256) : Lib.byteCells [UInt8.ofNat x.toNat] = [Value.int .u8 x] := by
  simp only [Lib.byteCells, List.map_cons, List.map_nil, UInt8.toNat_ofNat']
  congr 2
  omega

section
variable {v : Value} {ao : Option Addr} {cap : Nat} {L : List (Int × ByteArray)} {w : World}
/-- What holds at the head of Render's loop. -/
structure RnI (w : World) (T : List (List UInt8)) (I : List Int) (k : Nat) (acc : List UInt8) (wr : World) : Prop where
  run : rnd T (I.take k) = some acc
  len : acc.length ≤ k * 1000
  bld : Lib.IsBuilder TW 5 w.heap.size w.heap.size (Lib.byteCells acc) wr
  emp : acc = [] → wr.heap[w.heap.size]? = some (.cells #[.pointer none, .slice none 0 0] TW (0, 0))
  bel : Below w.heap.size w wr
theorem RnI.low {T : List (List UInt8)} {I : List Int} {k : Nat} {acc : List UInt8} {wr w' : World} (h : RnI w T I k acc wr) (hb : Below wr.heap.size wr w') : RnI w T I k acc w' :=
  ⟨h.run, h.len, isBuilder_low h.bld hb, fun e => (hb.block _ (Array.getElem?_eq_some_iff.1 (h.emp e)).1).trans (h.emp e), h.bel.trans (hb.mono h.bel.size)⟩
theorem RnI.put {T : List (List UInt8)} {I : List Int} {k : Nat} {acc a : List UInt8} {wr w' : World} (h : RnI w T I k acc wr) (hk : k < I.length) (hx : itm T (gI I k) = some a) (h0 : 0 < a.length) (h1 : a.length ≤ 1000) (hb : Lib.BuilderAt TW 5 w.heap.size w.heap.size (.pointer (some ⟨w.heap.size, 0, none⟩)) (Lib.byteCells acc ++ Lib.byteCells a) w') (hf : FrW w.heap.size w.heap.size wr w') : RnI w T I (k + 1) (acc ++ a) w' := by
  refine ⟨?_, by have := h.len; simp; omega, ?_, fun e => ?_, h.bel.trans hf.bel⟩
  · rw [take_succ_gI I hk]
    exact rnd_snoc h.run hx
  · rw [Lib.byteCells_append]
    exact Or.inr hb
  · exfalso
    have : (acc ++ a).length = 0 := by rw [e]; rfl
    rw [List.length_append] at this
    omega
theorem RnI.start (w : World) (T : List (List UInt8)) (I : List Int) : RnI w T I 0 [] (w.alloc (.cells #[.pointer none, .slice none 0 0] TW)) :=
  ⟨rfl, by simp, Lib.fresh_isBuilder TW 5 w, fun _ => heap_alloc_new _ _, low1 w _⟩

set_option maxRecDepth 20000 in
set_option maxHeartbeats 4000000 in
theorem render_any (h : StV w v ao cap L) (hk : TxOk L) {ai : Option Addr} {n ci : Nat} {I : List Int} (hI : RdI w ai n I) (hw : ∀ i, i < n → wfI (gI I i)) (hn : n ≤ 100000) : Calls Try.prog 21 #[v, .slice ai n ci] w fun e w' => e = .returned (RndV (rnd (tL L) I)) ∧ Below w.heap.size w w' := by
  have HV := hide h
  have HK := hide hk
  have HI := hide hI
  have HW := hide hw
  have hfew := hk.few
  have HLN := hide hI.1
  clear h hk hI hw
  go_enter Try.func21, Try.ntmps21
  go_wp2
  go_loopw [13] (fun i wr => ∃ (k : Nat) (acc : List UInt8), i = .int .i64 k ∧ k ≤ n ∧ Hid (RnI w (tL L) I k acc wr)) (fun i _ => n - (intOf i).toNat)
  case atStart => exact ⟨0, [], rfl, Nat.zero_le _, hide (RnI.start w _ _)⟩
  case round =>
    obtain ⟨k, acc, rfl, hkn, HR⟩ := hrel
    by_cases hlt : k < n
    · have hk0 : (0 : Int) ≤ (k : Int) := by omega
      have hk1 : (k : Int) < (n : Int) := by omega
      have hkI : k < I.length := by rw [HLN.out]; exact hlt
      rcases HI.out.2 with h0 | ⟨b, off, rfl, hbl0, hc⟩
      · omega
      have c0 := (HR.out.bel.cell (p := ⟨b, _, none⟩) hbl0).trans (hc k hlt)
      have hwx := HW.out k hlt
      have hsz := HR.out.bel.size
      have hacc := HR.out.len
      clear hc
      have HP := hide (fun (a : List UInt8) (w' : World) hx h0 h1 hb hf => HR.out.put (a := a) (w' := w') hkI hx h0 h1 hb hf)
      have HST := hide (fun (hx : itm (tL L) (gI I k) = none) => show rnd (tL L) I = none by rw [split_at I hkI]; exact rnd_stop hx)
      clear hkI
      generalize gI I k = x at *
      by_cases hb0 : 0 ≤ x ∧ x < 256
      · obtain ⟨hx0, hx1⟩ := hb0
        have KB := wb_byte w.heap.size w.heap.size (Lib.byteCells acc) x wr HR.out.bld (by rw [Lib.byteCells_length]; omega) hsz
        have hcv : wrap64 x = x := by unfold wrap64; omega
        have hcv2 : IntKind.u8.wrap x = x := by
          rw [IntKind.wrap_u8]
          omega
        go_wp2_with fail
        refine KB.mono ?_
        rintro e w1 ⟨rfl, hb1, hf1⟩
        clear KB
        rw [← byte_cells hx0 hx1] at hb1
        have HN := hide (HP.out _ w1 (itm_byte _ hx0 hx1) (by simp) (by simp) hb1 hf1)
        clear hb1 hf1
        go_wp2
        exact ⟨⟨k + 1, _, by go_num, by omega, HN⟩, by simp [intOf]; omega⟩
      · by_cases hm0 : x < 0 ∧ -(L.length : Int) ≤ x
        · obtain ⟨i, rfl, hi⟩ : ∃ i : Nat, x = -1 - i ∧ i < L.length := ⟨(-1 - x).toNat, by omega, by omega⟩
          have KA := atm_yes (HV.out.kept (HR.out.bel.mono (Nat.le_refl _))) hfew (-1 - i) i hi rfl
          have hitm := itm_mark (tL L) (x := -1 - i) (by omega) (by rw [tL_len]; omega)
          rw [show (-1 - (-1 - (i : Int))).toNat = i by omega, mT_tL L hi] at hitm
          have hne := HK.out.ne i hi
          have hle := HK.out.le i hi
          have HIT := hide hitm
          clear hitm
          generalize (gS L i).1 = y1 at *
          generalize (gS L i).2 = y2 at *
          have hx2 : -1 - (i : Int) < 0 := by omega
          generalize hxx : -1 - (i : Int) = x at *
          clear hxx
          go_wp2_with fail
          refine KA.mono ?_
          rintro e w1 ⟨rfl, hb1⟩
          clear KA
          have hR1 := HR.out.low hb1
          have hR2 := hR1.low (low1 w1 (.cells #[.int .i64 y1, .string y2] 34))
          have d1 : (w1.alloc (.cells #[.int .i64 y1, .string y2] 34)).cell? ⟨w1.heap.size, 1, none⟩ = some (.string y2) := by simp
          have KS := wb_string w.heap.size w.heap.size (Lib.byteCells acc) y2 _ hR2.bld (by rw [Lib.byteCells_length]; omega) hR2.bel.size
          have HR2 := hide hR2
          have HFX := hide ((FrW.refl w.heap.size w.heap.size wr).low hsz (hb1.trans ((low1 w1 (.cells #[.int .i64 y1, .string y2] 34)).mono hb1.size)))
          clear hR1 hR2 hb1
          go_wp2_with fail
          refine KS.mono ?_
          rintro e w2 ⟨rfl, hb2, hf2⟩
          clear KS
          have HN := hide (HP.out y2.data.toList w2 HIT.out (by rw [Array.length_toList]; exact hne) (by rw [Array.length_toList]; exact hle) hb2 (HFX.out.trans hf2))
          clear hb2 hf2 d1
          go_wp2
          exact ⟨⟨k + 1, _, by go_num, by omega, HN⟩, by simp [intOf]; omega⟩
        · have KA := atm_no (HV.out.kept (HR.out.bel.mono (Nat.le_refl _))) hfew x hwx (by omega)
          have HE := hide (HST.out (itm_none _ hb0 (by rw [tL_len]; exact hm0)))
          have hx3 : ¬ (0 ≤ x ∧ x < 256) := hb0
          have HB := HR.out.bel
          have HB1 := hide HB
          clear HB
          by_cases hx0 : 0 ≤ x
          · have hx1 : ¬ x < 256 := by omega
            clear hb0 hx3 hm0
            go_wp2_with fail
            refine KA.mono ?_
            rintro e w1 ⟨rfl, hb1⟩
            have HB2 := hide ((HB1.out.trans (hb1.mono hsz)).alloc (by have := hb1.size; omega) (.cells #[.int .i64 0, .string ⟨#[]⟩] 34))
            clear KA hb1
            go_wp2
            refine bodyPost_ret (v := .tuple #[.string ⟨#[]⟩, .bool false]) (by simp [results, Try.results21, go_sem]) rfl ⟨?_, HB2.out⟩
            rw [HE.out]
            rfl
          · clear hb0 hx3 hm0
            go_wp2_with fail
            refine KA.mono ?_
            rintro e w1 ⟨rfl, hb1⟩
            have HB2 := hide ((HB1.out.trans (hb1.mono hsz)).alloc (by have := hb1.size; omega) (.cells #[.int .i64 0, .string ⟨#[]⟩] 34))
            clear KA hb1
            go_wp2
            refine bodyPost_ret (v := .tuple #[.string ⟨#[]⟩, .bool false]) (by simp [results, Try.results21, go_sem]) rfl ⟨?_, HB2.out⟩
            rw [HE.out]
            rfl
    · obtain rfl : k = n := by omega
      have hrun := HR.out.run
      rw [List.take_of_length_le (by rw [HLN.out]; exact Nat.le_refl _)] at hrun
      have HE := hide hrun
      clear hrun
      by_cases he : acc = []
      · subst he
        have KN := wb_nil w.heap.size _ wr (HR.out.emp rfl)
        go_wp2_with fail
        refine KN.mono ?_
        rintro e w1 ⟨rfl, hb1⟩
        have HB := hide (HR.out.bel.trans (hb1.mono HR.out.bel.size))
        clear KN hb1
        go_wp2
        go_ret2
        refine ⟨?_, HB.out⟩
        rw [HE.out]
        rfl
      · have KT : Calls Try.prog 32 #[.pointer (some ⟨w.heap.size, 0, none⟩)] wr fun e w' => e = .returned (.string ⟨acc.toArray⟩) ∧ Below w.heap.size wr w' := by
          rcases HR.out.bld with h | h
          · exact wb_text _ _ _ acc wr h he
          · exact wb_text _ _ _ acc wr h he
        have HNE := hide he
        clear he
        go_wp2_with fail
        refine KT.mono ?_
        rintro e w1 ⟨rfl, hb1⟩
        have HB := hide (HR.out.bel.trans hb1)
        clear KT hb1
        go_wp2
        go_ret2
        refine ⟨?_, HB.out⟩
        rw [HE.out]
        rfl
end
end Go.Proofs.Ytnklgfolllfghaa.Mk
