/- Contracts of package mark: Bytes, Parse. The Builder's methods, by a walk; contracts of package mark: Render. Contracts of package mark: Render. Contracts of the document's answer for marks: Render. Contracts of the document's answer for marks: begins, At, Parse, Great. -/
import Derived.Test.YtdpmjaelbjjanaaGreatQa29
import Derived.Lib.Builder
import Derived.Lib.AppendStr
import Derived.Lib.UnsafeStr
import Derived.Laws.Externs
import Derived.Laws.AppendOwn
import Derived.Laws.BytesArg
namespace Go.Proofs.YtdpmjaelbjjanaaGreat.Mk
open Go.RowKit Go.Maps
set_option linter.unusedVariables false
set_option linter.unusedSimpArgs false

def bys (s : ByteArray) : List Int := s.data.toList.map (fun b => (b.toNat : Int))

theorem bys_len (s : ByteArray) : (bys s).length = s.size := by
  unfold bys
  rw [List.length_map, Array.length_toList]
  rfl

theorem bys_take (s : ByteArray) {k : Nat} (h : k < s.size) : (bys s).take (k + 1) = (bys s).take k ++ [(s[k].toNat : Int)] := by
  have h' : k < (bys s).length := by rw [bys_len]; exact h
  rw [List.take_succ_eq_append_getElem h']
  congr 2
  simp [bys]
  rfl

theorem size_toList (s : ByteArray) : s.toList.length = s.size := by rw [ByteArray.toList_eq, Array.length_toList]; rfl

theorem isEmpty_true {s : ByteArray} (h : s.size = 0) : s.toList.isEmpty = true := by rw [List.isEmpty_iff_length_eq_zero, size_toList, h]

theorem isEmpty_false {s : ByteArray} (h : ¬ s.size = 0) : s.toList.isEmpty = false := by
  rw [Bool.eq_false_iff]
  intro h'
  rw [List.isEmpty_iff_length_eq_zero, size_toList] at h'
  exact h h'

theorem ext_list (t : ByteArray) (k : Nat) : (t.extract k t.size).data.toList = t.data.toList.drop k := by
  simp
  have : t.data.toList.length = t.size := Array.length_toList
  rw [List.take_of_length_le (by simp)]

theorem ext_size (t : ByteArray) (k : Nat) : (t.extract k t.size).size = t.size - k := by simp

def szOf : Value → Nat
  | .string s => s.size
  | _ => 0
@[simp] theorem szOf_string (s : ByteArray) : szOf (.string s) = s.size := rfl

set_option maxRecDepth 20000 in
set_option maxHeartbeats 4000000 in
theorem bytes_any (s : ByteArray) (w : World) (hs : s.size ≤ 100000) : Calls Tryz.prog 68 #[.string s] w fun e w' => (∃ ao cap, e = .returned (.slice ao s.size cap) ∧ w'.ownsRow w.heap.size 3 1 (.slice ao s.size cap) s.size (iv (bys s))) ∧ Below w.heap.size w w' := by
  go_enter Tryz.func68, Tryz.ntmps68
  go_wp2
  go_loopw [3, 7] (fun a i wr => ∃ (k : Nat) (ao : Option Addr) (cap : Nat), a = .slice ao k cap ∧ i = .int .i64 k ∧ k ≤ s.size ∧ Hid (wr.ownsRow w.heap.size 3 1 (.slice ao k cap) k (iv ((bys s).take k))) ∧ Hid (Below w.heap.size w wr)) (fun _ i _ => s.size - (intOf i).toNat)
  case atStart => exact ⟨0, none, 0, rfl, rfl, Nat.zero_le _, hide (by simpa [iv] using World.ownsRow_nil _ _ _ _), hide (Below.refl _ _)⟩
  case round =>
    obtain ⟨k, ao, cap, rfl, rfl, hkn, HR, HB⟩ := hrel
    by_cases hlt : k < s.size
    · have hk0 : (0 : Int) ≤ (k : Int) := by omega
      have hk1 : (k : Int) < (s.size : Int) := by omega
      obtain ⟨g1, cap2, w1, hrun, hown, hB1⟩ := app_int wr w.heap.size ao k cap _ (s[k].toNat : Int) HR.out (by omega) HB.out.size
      rw [← bys_take s hlt] at hown
      have HRUN := hide hrun
      have HB2 := hide (HB.out.trans hB1)
      have HR2 := hide hown
      have hcv : wrap64 (s[k].toNat : Int) = (s[k].toNat : Int) := by have := s[k].toNat_lt; unfold wrap64; omega
      clear hrun hown hB1
      go_wp2_with (at_builtin; refine Lib.wpList_append_run _ rfl _ _ _ _ rfl _ _ rfl rfl _ _ HRUN.out ?_)
      exact ⟨⟨k + 1, _, cap2, by simp, by go_num, by omega, HR2, HB2⟩, by simp [intOf]; omega⟩
    · obtain rfl : k = s.size := by omega
      have HF := hide HR.out
      rw [List.take_of_length_le (by rw [bys_len]; exact Nat.le_refl _)] at HF
      go_wp2
      go_ret
      exact ⟨⟨ao, cap, rfl, HF.out⟩, HB.out⟩

section
variable {T : List (List UInt8)} {t : ByteArray}
theorem cons_of_size (h : 0 < t.size) : t.data.toList = t[0] :: t.data.toList.drop 1 := by
  have h' : 0 < t.data.toList.length := by rw [Array.length_toList]; exact h
  conv => lhs; rw [← List.drop_zero (l := t.data.toList), List.drop_eq_getElem_cons h']
  simp
  rfl

theorem step_byte (hM : MkOk T) (h : 0 < t.size) (h0 : atM T t.data.toList = 0) : parsM T t.data.toList = (t[0].toNat : Int) :: parsM T (t.extract 1 t.size).data.toList := by
  have e := cons_of_size h
  rw [ext_list]
  rw [e] at h0
  conv => lhs; rw [e]
  exact pars_byte hM h0

theorem step_mark (hM : MkOk T) (h0 : 0 < atM T t.data.toList) : parsM T t.data.toList = -(atM T t.data.toList : Int) :: parsM T (t.extract (mT T (atM T t.data.toList - 1)).length t.size).data.toList := by
  rw [ext_list]
  exact pars_mark hM h0

theorem mark_len (h0 : 0 < atM T t.data.toList) : (mT T (atM T t.data.toList - 1)).length ≤ t.size := by
  obtain ⟨h1, h2⟩ := at_bgn h0
  unfold bgn at h2
  simp only [decide_eq_true_eq] at h2
  have : t.data.toList.length = t.size := Array.length_toList
  omega
end

section
variable {v : Value} {ao : Option Addr} {cap : Nat} {L : List (Int × ByteArray)} {w : World}
set_option maxRecDepth 20000 in
set_option maxHeartbeats 4000000 in
theorem parse_any (h : StV w v ao cap L) (hk : TxOk L) (hM : MkOk (tL L)) (s : ByteArray) (hs : s.size ≤ 100000) : Calls Tryz.prog 67 #[v, .string s] w fun e w' => (∃ ai ci, e = .returned (.slice ai (parsM (tL L) s.data.toList).length ci) ∧ w'.ownsRow w.heap.size 3 1 (.slice ai (parsM (tL L) s.data.toList).length ci) (parsM (tL L) s.data.toList).length (iv (parsM (tL L) s.data.toList))) ∧ Below w.heap.size w w' := by
  have HV := hide h
  have HK := hide hk
  have HM := hide hM
  have hfew := hk.few
  clear h hk hM
  generalize hp : parsM (tL L) s.data.toList = R
  have HP := hide hp
  clear hp
  go_enter Tryz.func67, Tryz.ntmps67
  go_wp2
  go_loopw [1, 5] (fun a b wr => ∃ (t : ByteArray) (u : List Int) (n : Nat) (ai : Option Addr) (ci : Nat), a = .string t ∧ b = .slice ai n ci ∧ n + t.size ≤ s.size ∧ Hid (u.length = n) ∧ Hid (R = u ++ parsM (tL L) t.data.toList) ∧ Hid (wr.ownsRow w.heap.size 3 1 (.slice ai n ci) n (iv u)) ∧ Hid (Below w.heap.size w wr)) (fun a _ _ => szOf a)
  case atStart => exact ⟨s, [], 0, none, 0, rfl, rfl, by omega, hide rfl, hide (by rw [HP.out]; rfl), hide (by simpa [iv] using World.ownsRow_nil _ _ _ _), hide (Below.refl _ _)⟩
  case round =>
    obtain ⟨t, u, n, ai, ci, rfl, rfl, hnt, HN, HRE, HR, HB⟩ := hrel
    by_cases ht : t.size = 0
    · have he := isEmpty_true ht
      have HF : Hid (R = u) := hide (by
        have h0 : t.data.toList = [] := List.length_eq_zero_iff.1 (by rw [Array.length_toList]; exact ht)
        rw [HRE.out, h0, pars_nil, List.append_nil])
      have HT := hide ht
      clear ht hnt
      go_wp2
      go_ret
      have hu : R.length = n := by rw [HF.out]; exact HN.out
      rw [hu]
      refine ⟨⟨ai, ci, rfl, ?_⟩, HB.out⟩
      rw [HF.out]
      exact HR.out
    · have he := isEmpty_false ht
      have ht0 : 0 < t.size := by omega
      have hti : (0 : Int) < (t.size : Int) := by omega
      have K := at_any (HV.out.kept (HB.out.mono (Nat.le_refl _))) HK.out t (by omega)
      have hsb := @step_byte (tL L) t HM.out ht0
      have hsm := @step_mark (tL L) t HM.out
      have hml := @mark_len (tL L) t
      have hbg := @at_bgn (tL L) t.data.toList
      generalize atM (tL L) t.data.toList = m at *
      have HSB := hide hsb
      have HSM := hide hsm
      clear hsb hsm
      go_wp2_with fail
      refine K.mono ?_
      rintro e w1 ⟨rfl, hb1⟩
      clear K
      have HB1 := hide (HB.out.trans (hb1.mono HB.out.size))
      by_cases hm : 0 < m
      · have hi := (hbg hm).1
        rw [tL_len] at hi
        have hml1 := hml hm
        rw [mT_len L hi] at hml1
        have HPE := HSM.out hm
        rw [mT_len L hi] at HPE
        have hne := HK.out.ne _ hi
        have hV1 := HV.out.kept HB1.out
        rcases hV1.is with ⟨_, e2, _⟩ | ⟨b, mb, rfl, c0, h3, h4⟩
        · rw [e2] at hi; cases hi
        rcases hV1.rd.2 with h0 | ⟨g, off, rfl, hbl0, hc⟩
        · omega
        have c1 := (hc (m - 1) hi).2
        obtain ⟨i, rfl⟩ : ∃ i, m = i + 1 := ⟨m - 1, by omega⟩
        simp only [Nat.add_sub_cancel] at *
        have KF : ∀ w, Calls Tryz.prog 111 #[.int .i64 (-((i + 1 : Nat) : Int))] w fun e w' => e = .returned (.int .i64 (i : Int)) ∧ w' = w := fun w => by
          have := flip_any (-((i + 1 : Nat) : Int)) w ⟨by omega, by omega⟩
          rw [show -1 - -((i + 1 : Nat) : Int) = (i : Int) by omega] at this
          exact this
        have hi0 : (0 : Int) ≤ (i : Int) := by omega
        have hi1 : (i : Int) < (L.length : Int) := by omega
        have HRE2 : Hid (R = (u ++ [-((i + 1 : Nat) : Int)]) ++ parsM (tL L) (t.extract (gS L i).2.size t.size).data.toList) := hide (by rw [HRE.out, HPE]; simp)
        have HR1 := hide (row_keptB HR.out hb1)
        clear hV1 hc h3 h4 hb1 hbg hml HPE HSB HSM
        generalize (gS L i).2 = x at *
        generalize hmk : -((i + 1 : Nat) : Int) = mk at *
        have HMK := hide hmk
        clear hmk
        go_wp2
        go_quiet ((go_at_call 111; exact Calls.quiet_of_same (KF _)))
        have HB4 := hide (lowD HB1.out nq)
        have HR4 : Hid ((w1.drewN nq).ownsRow w.heap.size 3 1 (.slice ai n ci) n (iv u)) := hide (row_keptB HR1.out (lowD (Below.refl _ _) nq))
        clear c0 c1 HB1 HR1 KF
        generalize w1.drewN nq = wd at *
        obtain ⟨g1, cap2, w2, hrun, hown, hB2⟩ := app_int wd w.heap.size ai n ci _ mk HR4.out (by omega) HB4.out.size
        have HRUN := hide hrun
        have HB3 := hide (HB4.out.trans hB2)
        have HR2 := hide hown
        have h1t : (x.size : Int) ≤ (t.size : Int) := by omega
        clear hrun hown hB2
        go_wp2_with (at_builtin; refine Lib.wpList_append_run _ rfl _ _ _ _ rfl _ _ rfl rfl _ _ HRUN.out ?_)
        exact ⟨⟨_, u ++ [mk], n + 1, _, cap2, rfl, rfl, by rw [ext_size]; omega, hide (by have := HN.out; simp; omega), HRE2, HR2, HB3⟩, by rw [szOf_string, szOf_string, ext_size]; omega⟩
      · obtain rfl : m = 0 := by omega
        obtain ⟨g1, cap2, w2, hrun, hown, hB2⟩ := app_int w1 w.heap.size ai n ci _ (t[0].toNat : Int) (row_keptB HR.out hb1) (by omega) HB1.out.size
        have HRUN := hide hrun
        have HB3 := hide (HB1.out.trans hB2)
        have HR2 := hide hown
        have HRE2 : Hid (R = (u ++ [(t[0].toNat : Int)]) ++ parsM (tL L) (t.extract 1 t.size).data.toList) := hide (by rw [HRE.out, HSB.out rfl]; simp)
        have h1t : (1 : Int) ≤ (t.size : Int) := by omega
        have hcv : wrap64 (t[0].toNat : Int) = (t[0].toNat : Int) := by have := t[0].toNat_lt; unfold wrap64; omega
        clear hrun hown hB2 hb1 hbg hml
        go_wp2_with (at_builtin; refine Lib.wpList_append_run _ rfl _ _ _ _ rfl _ _ rfl rfl _ _ HRUN.out ?_)
        exact ⟨⟨_, u ++ [(t[0].toNat : Int)], n + 1, _, cap2, rfl, rfl, by rw [ext_size]; omega, hide (by have := HN.out; simp; omega), HRE2, HR2, HB3⟩, by rw [szOf_string, szOf_string, ext_size]; omega⟩
end
end Go.Proofs.YtdpmjaelbjjanaaGreat.Mk

namespace Go.Proofs.YtdpmjaelbjjanaaGreat.Mk
open Go.RowKit Go.Maps
set_option linter.unusedVariables false
set_option linter.unusedSimpArgs false

abbrev TW : TypeId := 199

theorem info_builder : (Tryz.prog.info? 199).map (·.size) = some 2 := by kernel_rfl

theorem lies_builder : liesAt Tryz.prog Tryz.prog.depth TW (2 / Tryz.prog.cellsOf TW) 0 199 1 = true := by kernel_rfl

theorem info_byte : (Tryz.prog.info? 5).map (fun i => (i.zero, i.size, i.bytes)) = some (some (.int .u8 0), 1, 1) := by kernel_rfl

theorem cells_byte : Tryz.prog.cellsOf 5 = 1 := by kernel_rfl

/-- What the builder's methods leave alone: all below B, and every block that is no row of bytes, but its own. -/
structure FrW (B b : Nat) (w w' : World) : Prop where
  bel : Below B w w'
  box : ∀ k cs T fr, w.heap[k]? = some (.cells cs T fr) → T ≠ 5 → k ≠ b → w'.heap[k]? = some (.cells cs T fr)

theorem FrW.refl (B b : Nat) (w : World) : FrW B b w w := ⟨Below.refl _ _, fun _ _ _ _ h _ _ => h⟩

theorem FrW.trans {B b : Nat} {w w' w'' : World} (h : FrW B b w w') (g : FrW B b w' w'') : FrW B b w w'' :=
  ⟨h.bel.trans g.bel, fun k cs T fr h1 h2 h3 => g.box k cs T fr (h.box k cs T fr h1 h2 h3) h2 h3⟩

theorem FrW.setCell {B b : Nat} {w w' : World} (h : FrW B b w w') (hb : B ≤ b) (j : Nat) (v : Value) : FrW B b w (w'.setCell ⟨b, j, none⟩ v) :=
  ⟨h.bel.setCell (p := ⟨b, j, none⟩) hb v, fun k cs T fr h1 h2 h3 => by rw [Below.heap_setCell _ _ _ _ (fun e => h3 e)]; exact h.box k cs T fr h1 h2 h3⟩

theorem FrW.low {B b : Nat} {w w' w'' : World} (h : FrW B b w w') (hB : B ≤ w'.heap.size) (hb : Below w'.heap.size w' w'') : FrW B b w w'' :=
  ⟨h.bel.trans (hb.mono hB), fun k cs T fr h1 h2 h3 => by
    have h4 := h.box k cs T fr h1 h2 h3
    rw [hb.block k (Array.getElem?_eq_some_iff.1 h4).1]
    exact h4⟩

theorem FrW.grown {B b : Nat} {w w' w'' : World} {v : Value} {n : Nat} {xs : List Value} (h : FrW B b w w') (hB : B ≤ w'.heap.size) (hown : w'.ownsRow B 5 1 v n xs) (hg : w'.grownBy w'' v.ownBlock) : FrW B b w w'' :=
  ⟨h.bel.grown hg hB (fun k hk => (hown.lt k hk).1), fun k cs T fr h1 h2 h3 => by
    have h4 := h.box k cs T fr h1 h2 h3
    rw [hg.block k (Array.getElem?_eq_some_iff.1 h4).1 (fun e => Lib.ownBlock_ne hown h4 h2 e.symm)]
    exact h4⟩

set_option maxHeartbeats 1000000 in
set_option maxRecDepth 100000 in
theorem wb_check (B b : Nat) (bs : List Value) (w : World) (h : Lib.IsBuilder TW 5 B b bs w) :
    Calls Tryz.prog 144 #[.pointer (some ⟨b, 0, none⟩)] w fun e w' => e = .returned (.tuple #[]) ∧ (Lib.BuilderAt TW 5 B b (.pointer (some ⟨b, 0, none⟩)) bs w' ∧ FrW B b w w') := by
  obtain ⟨j, hj, hjs⟩ := Option.map_eq_some_iff.1 info_builder
  rcases h with h | h
  · have c0 := h.cell0
    have f0 := h.frozen0
    have hsh := h.shape
    have HH := hide h
    clear h
    go_enter Tryz.func144, Tryz.ntmps144
    go_wp2
    rw [Lib.run_to_unsafe w ⟨b, 0, none⟩ Tryz.underlying197 Tryz.underlying245 hj (by rw [hjs]; decide) hsh (Nat.zero_lt_succ 1)]
    simp only [Result.andThen]
    rw [Oper.upon_value]
    go_wp2
    rw [run_callFunc_extern Tryz.func161 (by kernel_rfl) (by kernel_rfl) (by kernel_rfl) (e := Extern.AbiNoEscape.same) (by kernel_rfl)]
    rw [Lib.run_noEscape]
    simp only [Result.andThen]
    rw [Oper.upon_value]
    go_wp2
    rw [Lib.run_from_unsafe w ⟨b, 0, none⟩ Tryz.underlying245 Tryz.underlying197 hj hsh lies_builder]
    simp only [Result.andThen]
    rw [Oper.upon_value]
    go_wp2
    go_end0
    exact ⟨rfl, HH.out.used _, (FrW.refl B b w).setCell HH.out.1 _ _⟩
  · have c0 := h.cell0
    have HH := hide h
    clear h
    go_enter Tryz.func144, Tryz.ntmps144
    go_wp2
    rw [Lib.run_neq_ptr_same w _ Tryz.underlying197 hj]
    go_wp2
    go_end0
    exact ⟨rfl, HH.out, FrW.refl B b _⟩

set_option maxHeartbeats 2000000 in
set_option maxRecDepth 100000 in
theorem wb_byte (B b : Nat) (bs : List Value) (c : Int) (w : World) (h : Lib.IsBuilder TW 5 B b bs w) (hlen : bs.length + 1 ≤ 140737488355328) (hBw : B ≤ w.heap.size) :
    Calls Tryz.prog 115 #[.pointer (some ⟨b, 0, none⟩), .int .u8 c] w fun e w' => e = .returned .nilIface ∧ (Lib.BuilderAt TW 5 B b (.pointer (some ⟨b, 0, none⟩)) (bs ++ [.int .u8 c]) w' ∧ FrW B b w w') := by
  obtain ⟨i0, hi, hz0, hz1, hz2⟩ := info_parts info_byte
  have K := wb_check B b bs w h
  go_enter Tryz.func115, Tryz.ntmps115
  go_wp2_with fail
  refine K.mono ?_
  rintro e w1 ⟨rfl, h1, hb1⟩
  obtain ⟨hB, v, hbk, hown, hne⟩ := h1
  have hs1 := hb1.bel.size
  have c0 : w1.cell? ⟨b, 0, none⟩ = some (.pointer (some ⟨b, 0, none⟩)) := by rw [Lib.cell_of_heap hbk]; rfl
  have c1 : w1.cell? ⟨b, 1, none⟩ = some v := by rw [Lib.cell_of_heap hbk]; rfl
  go_wp2_with (at_builtin; refine wpList_append_own _ rfl _ _ 140 rfl B 5 i0 (.int .u8 0) 1 1 Tryz.underlying140 hi hz0 hz1 hz2 rfl (by decide) _ _ _ rfl (hown.alloc _) ⟨w1.heap.size, 0, none⟩ 1 1 [.int .u8 c] rfl rfl ?c1 ?c2 ?c3 ?c4 ?c5 ?_)
  case c1 =>
    intro j u hj
    match j, hj with
    | 0, hj => simp at hj; subst hj; simp [Addr.add]
  case c2 => intro u hu; simp at hu; subst hu; rfl
  case c3 => unfold maxLen; omega
  case c4 => omega
  case c5 => simp; omega
  intro v' w2 hown' hgrow _
  have hlt : b < w1.heap.size := (Array.getElem?_eq_some_iff.1 hbk).1
  have hb2 : w2.heap[b]? = some (.cells #[.pointer (some ⟨b, 0, none⟩), v] TW (0, 0)) := by
    rw [hgrow.block b (by simp; omega) (fun e => hne e.symm), Lib.alloc_old w1 _ b hlt]
    exact hbk
  have d1 : w2.cell? ⟨b, 1, none⟩ = some v := by rw [Lib.cell_of_heap hb2]; rfl
  have f1 : w2.frozen? ⟨b, 1, none⟩ = false := Lib.frozen_of_heap hb2 1
  obtain ⟨g, cap, rfl⟩ : ∃ g cap, v' = .slice (some ⟨g, 0, none⟩) (bs.length + 1) cap := by
    rcases hown'.2 with ⟨_, h0⟩ | ⟨g, cap, cur, hv, _⟩
    · omega
    · exact ⟨g, cap, hv⟩
  go_wp2
  go_ret
  refine ⟨rfl, ?_, ?_⟩
  · exact Lib.BuilderAt.put (T := TW) (e := 5) hB hb2 (bs' := bs ++ [.int .u8 c]) (by simpa using hown') (by decide)
  · exact ((hb1.low (by omega) (Below.alloc (Below.refl _ w1) (Nat.le_refl _) _)).grown (by simp; omega) (hown.alloc _) hgrow).setCell hB _ _

set_option maxHeartbeats 2000000 in
set_option maxRecDepth 100000 in
theorem wb_string (B b : Nat) (bs : List Value) (s : ByteArray) (w : World) (h : Lib.IsBuilder TW 5 B b bs w) (hlen : bs.length + s.size ≤ 140737488355328) (hBw : B ≤ w.heap.size) :
    Calls Tryz.prog 116 #[.pointer (some ⟨b, 0, none⟩), .string s] w fun e w' => e = .returned (.tuple #[.int .i64 s.size, .nilIface]) ∧ (Lib.BuilderAt TW 5 B b (.pointer (some ⟨b, 0, none⟩)) (bs ++ Lib.strCells s) w' ∧ FrW B b w w') := by
  obtain ⟨i0, hi, hz0, hz1, hz2⟩ := info_parts info_byte
  have K := wb_check B b bs w h
  go_enter Tryz.func116, Tryz.ntmps116
  go_wp2_with fail
  refine K.mono ?_
  rintro e w1 ⟨rfl, h1, hb1⟩
  obtain ⟨hB, v, hbk, hown, hne⟩ := h1
  have hs1 := hb1.bel.size
  have c0 : w1.cell? ⟨b, 0, none⟩ = some (.pointer (some ⟨b, 0, none⟩)) := by rw [Lib.cell_of_heap hbk]; rfl
  have c1 : w1.cell? ⟨b, 1, none⟩ = some v := by rw [Lib.cell_of_heap hbk]; rfl
  go_wp2_with (at_builtin; refine Lib.wpList_append_own_string _ rfl _ _ 140 9 rfl B 5 i0 Tryz.underlying140 Tryz.underlying9 hi hz0 hz1 hz2 _ _ _ rfl hown s rfl ?c3 ?c4 ?c5 ?_)
  case c3 => unfold maxLen; omega
  case c4 => omega
  case c5 => omega
  intro v' w2 hown' hgrow _
  have hlt : b < w1.heap.size := (Array.getElem?_eq_some_iff.1 hbk).1
  have hb2 : w2.heap[b]? = some (.cells #[.pointer (some ⟨b, 0, none⟩), v] TW (0, 0)) := by
    rw [hgrow.block b hlt (fun e => hne e.symm)]
    exact hbk
  have d1 : w2.cell? ⟨b, 1, none⟩ = some v := by rw [Lib.cell_of_heap hb2]; rfl
  have f1 : w2.frozen? ⟨b, 1, none⟩ = false := Lib.frozen_of_heap hb2 1
  obtain ⟨ao, n', cap, rfl⟩ : ∃ ao n' cap, v' = .slice ao n' cap := by
    rcases hown'.2 with ⟨hv, _⟩ | ⟨g, cap, cur, hv, _⟩
    · exact ⟨_, _, _, hv⟩
    · exact ⟨_, _, _, hv⟩
  go_wp2
  go_ret2
  refine ⟨rfl, ?_, ?_⟩
  · exact Lib.BuilderAt.put (T := TW) (e := 5) hB hb2 (bs' := bs ++ Lib.strCells s) (by simpa [Lib.strCells_length] using hown') (by decide)
  · exact (hb1.grown (by omega) hown hgrow).setCell hB _ _

set_option maxHeartbeats 1000000 in
set_option maxRecDepth 100000 in
theorem wb_text (B b : Nat) (p : Value) (l : List UInt8) (w : World) (h : Lib.BuilderAt TW 5 B b p (Lib.byteCells l) w) (h0 : l ≠ []) :
    Calls Tryz.prog 117 #[.pointer (some ⟨b, 0, none⟩)] w fun e w' => e = .returned (.string ⟨l.toArray⟩) ∧ Below B w w' := by
  obtain ⟨hB, v, hbk, hown, hne⟩ := h
  have hl0 : l.length ≠ 0 := by simpa using h0
  rw [Lib.byteCells_length] at hown
  have hown2 := hown
  obtain ⟨g, cap, cur, rfl, hbg, hg, hnc, hcm, hcs, htake⟩ : ∃ g cap cur, v = .slice (some ⟨g, 0, none⟩) l.length cap ∧ B ≤ g ∧ w.heap[g]? = some (.cells cur 5 (0, 0)) ∧ l.length ≤ cap ∧ cap ≤ maxLen ∧ cur.size = cap * 1 ∧ cur.toList.take (l.length * 1) = Lib.byteCells l := by
    rcases hown.2 with ⟨_, hz⟩ | ⟨g, cap, cur, hv, r⟩
    · exact absurd hz hl0
    · exact ⟨g, cap, cur, hv, r⟩
  have hbk' : w.drew.heap[b]? = some (.cells #[p, .slice (some ⟨g, 0, none⟩) l.length cap] TW (0, 0)) := hbk
  have hg' : w.drew.heap[g]? = some (.cells cur 5 (0, 0)) := hg
  have c1 : w.drew.cell? ⟨b, 1, none⟩ = some (.slice (some ⟨g, 0, none⟩) l.length cap) := by rw [Lib.cell_of_heap hbk']; rfl
  have hSD : (Builtin.unsafeSliceData_ #[140] 229 #[.slice (some ⟨g, 0, none⟩) l.length cap]).run Tryz.prog w.drew = .ok (.pointer (some ⟨g, 0, none⟩)) w.drew :=
    Lib.run_unsafeSliceData_row _ _ _ _ _ _ (by omega)
  have hUS : (Builtin.unsafeString_ #[229, 3] 9 #[.pointer (some ⟨g, 0, none⟩), .int .i64 l.length]).run Tryz.prog w.drew = .ok (.string ⟨l.toArray⟩) (w.drew.freeze ⟨g, 0, none⟩ l.length) := by
    refine Lib.run_unsafeString_row w.drew 229 3 9 5 Tryz.underlying229 cells_byte g cur.size (by simp [World.shape?, hg']) l h0 (by omega) (by unfold maxLen at hcm; omega) ?_
    intro j x hx
    exact hown2.cells (g := g) rfl j (.int .u8 x.toNat) (by simp [Lib.byteCells, hx])
  clear hown hown2 hbk hg hbk' hg' htake
  go_enter Tryz.func117, Tryz.ntmps117
  go_wp2
  go_region
  all_goals (go_wp2; go_ret; exact ⟨rfl, Lib.below_freeze (Below.drew (Below.refl B w)) (p := ⟨g, 0, none⟩) hbg _⟩)

theorem builder_low {B b : Nat} {p : Value} {bs : List Value} {w w' : World} (h : Lib.BuilderAt TW 5 B b p bs w) (hb : Below w.heap.size w w') : Lib.BuilderAt TW 5 B b p bs w' := by
  obtain ⟨hB, v, hbk, hown, hne⟩ := h
  refine ⟨hB, v, ?_, hown.kept (row := none) ⟨hb.os, hb.tape, hb.output, hb.size, fun k hk _ => hb.block k hk⟩ (by cases v.ownBlock <;> simp), hne⟩
  rw [hb.block b (Array.getElem?_eq_some_iff.1 hbk).1]
  exact hbk

theorem isBuilder_low {B b : Nat} {bs : List Value} {w w' : World} (h : Lib.IsBuilder TW 5 B b bs w) (hb : Below w.heap.size w w') : Lib.IsBuilder TW 5 B b bs w' := by
  rcases h with h | h
  · exact Or.inl (builder_low h hb)
  · exact Or.inr (builder_low h hb)

set_option maxHeartbeats 1000000 in
set_option maxRecDepth 100000 in
theorem wb_nil (b : Nat) (p : Value) (w : World) (hbk : w.heap[b]? = some (.cells #[p, .slice none 0 0] TW (0, 0))) :
    Calls Tryz.prog 117 #[.pointer (some ⟨b, 0, none⟩)] w fun e w' => e = .returned (.string ⟨#[]⟩) ∧ Below w.heap.size w w' := by
  have hbk' : w.drew.heap[b]? = some (.cells #[p, .slice none 0 0] TW (0, 0)) := hbk
  have c1 : w.drew.cell? ⟨b, 1, none⟩ = some (.slice none 0 0) := by rw [Lib.cell_of_heap hbk']; rfl
  have hSD : (Builtin.unsafeSliceData_ #[140] 229 #[.slice none 0 0]).run Tryz.prog w.drew = .ok (.pointer none) w.drew := rfl
  have hUS : (Builtin.unsafeString_ #[229, 3] 9 #[.pointer none, .int .i64 0]).run Tryz.prog w.drew = .ok (.string .empty) w.drew := Lib.run_unsafeString_none w.drew _ _ _ none
  clear hbk hbk'
  go_enter Tryz.func117, Tryz.ntmps117
  go_wp2
  go_region
  all_goals (go_wp2; go_ret; exact ⟨rfl, Below.drew (Below.refl _ w)⟩)
end Go.Proofs.YtdpmjaelbjjanaaGreat.Mk

namespace Go.Proofs.YtdpmjaelbjjanaaGreat.Mk
open Go.RowKit Go.Maps
set_option linter.unusedVariables false
set_option linter.unusedSimpArgs false

theorem rnd_snoc {T : List (List UInt8)} {u : List Int} {x : Int} {acc a : List UInt8} (h : rnd T u = some acc) (hx : itm T x = some a) : rnd T (u ++ [x]) = some (acc ++ a) := by
  rw [rnd_append, h, rnd, hx, rnd]
  simp
theorem rnd_stop {T : List (List UInt8)} {u v : List Int} {x : Int} (hx : itm T x = none) : rnd T (u ++ x :: v) = none := by
  rw [rnd_append, rnd, hx]
  cases rnd T u <;> simp
theorem split_at (I : List Int) {k : Nat} (h : k < I.length) : I = I.take k ++ gI I k :: I.drop (k + 1) := by
  have e : gI I k = I[k] := by rw [gI, List.getD_eq_getElem?_getD, List.getElem?_eq_getElem h]; rfl
  rw [e, ← List.drop_eq_getElem_cons h, List.take_append_drop]
/-- What Render answers. -/
def RndV (r : Option (List UInt8)) : Value := match r with
  | some l => .tuple #[.string ⟨l.toArray⟩, .bool true]
  | none => .tuple #[.string ⟨#[]⟩, .bool false]
theorem itm_byte (T : List (List UInt8)) {x : Int} (h0 : 0 ≤ x) (h1 : x < 256) : itm T x = some [UInt8.ofNat x.toNat] := by
  unfold itm; rw [if_pos (by omega)]
theorem itm_mark (T : List (List UInt8)) {x : Int} (h0 : x < 0) (h1 : -(T.length : Int) ≤ x) : itm T x = some (mT T (-1 - x).toNat) := by
  unfold itm; rw [if_neg (by omega), if_pos (by omega)]
theorem itm_none (T : List (List UInt8)) {x : Int} (h0 : ¬ (0 ≤ x ∧ x < 256)) (h1 : ¬ (x < 0 ∧ -(T.length : Int) ≤ x)) : itm T x = none := by
  unfold itm; rw [if_neg (by omega), if_neg h1]
theorem byte_cells {x : Int} (h0 : 0 ≤ x) (h1 : x < 256) : Lib.byteCells [UInt8.ofNat x.toNat] = [Value.int .u8 x] := by
  simp only [Lib.byteCells, List.map_cons, List.map_nil, UInt8.toNat_ofNat']
  congr 2
  omega

section
variable {v : Value} {ao : Option Addr} {cap : Nat} {L : List (Int × ByteArray)} {w : World}
/-- What holds at the head of Render's loop. -/
structure RnI (w : World) (T : List (List UInt8)) (I : List Int) (k : Nat) (acc : List UInt8) (wr : World) : Prop where
  run : rnd T (I.take k) = some acc
  len : acc.length ≤ k * 1000
  bld : Lib.IsBuilder TW 5 w.heap.size w.heap.size (Lib.byteCells acc) wr
  emp : acc = [] → wr.heap[w.heap.size]? = some (.cells #[.pointer none, .slice none 0 0] TW (0, 0))
  bel : Below w.heap.size w wr
theorem RnI.low {T : List (List UInt8)} {I : List Int} {k : Nat} {acc : List UInt8} {wr w' : World} (h : RnI w T I k acc wr) (hb : Below wr.heap.size wr w') : RnI w T I k acc w' :=
  ⟨h.run, h.len, isBuilder_low h.bld hb, fun e => (hb.block _ (Array.getElem?_eq_some_iff.1 (h.emp e)).1).trans (h.emp e), h.bel.trans (hb.mono h.bel.size)⟩
theorem RnI.put {T : List (List UInt8)} {I : List Int} {k : Nat} {acc a : List UInt8} {wr w' : World} (h : RnI w T I k acc wr) (hk : k < I.length) (hx : itm T (gI I k) = some a) (h0 : 0 < a.length) (h1 : a.length ≤ 1000) (hb : Lib.BuilderAt TW 5 w.heap.size w.heap.size (.pointer (some ⟨w.heap.size, 0, none⟩)) (Lib.byteCells acc ++ Lib.byteCells a) w') (hf : FrW w.heap.size w.heap.size wr w') : RnI w T I (k + 1) (acc ++ a) w' := by
  refine ⟨?_, by have := h.len; simp; omega, ?_, fun e => ?_, h.bel.trans hf.bel⟩
  · rw [take_succ_gI I hk]
    exact rnd_snoc h.run hx
  · rw [Lib.byteCells_append]
    exact Or.inr hb
  · exfalso
    have : (acc ++ a).length = 0 := by rw [e]; rfl
    rw [List.length_append] at this
    omega
theorem RnI.start (w : World) (T : List (List UInt8)) (I : List Int) : RnI w T I 0 [] (w.alloc (.cells #[.pointer none, .slice none 0 0] TW)) :=
  ⟨rfl, by simp, Lib.fresh_isBuilder TW 5 w, fun _ => heap_alloc_new _ _, low1 w _⟩

set_option maxRecDepth 20000 in
set_option maxHeartbeats 4000000 in
theorem render_any (h : StV w v ao cap L) (hk : TxOk L) {ai : Option Addr} {n ci : Nat} {I : List Int} (hI : RdI w ai n I) (hw : ∀ i, i < n → wfI (gI I i)) (hn : n ≤ 100000) : Calls Tryz.prog 77 #[v, .slice ai n ci] w fun e w' => e = .returned (RndV (rnd (tL L) I)) ∧ Below w.heap.size w w' := by
  have HV := hide h
  have HK := hide hk
  have HI := hide hI
  have HW := hide hw
  have hfew := hk.few
  have HLN := hide hI.1
  clear h hk hI hw
  go_enter Tryz.func77, Tryz.ntmps77
  go_wp2
  go_loopw [13] (fun i wr => ∃ (k : Nat) (acc : List UInt8), i = .int .i64 k ∧ k ≤ n ∧ Hid (RnI w (tL L) I k acc wr)) (fun i _ => n - (intOf i).toNat)
  case atStart => exact ⟨0, [], rfl, Nat.zero_le _, hide (RnI.start w _ _)⟩
  case round =>
    obtain ⟨k, acc, rfl, hkn, HR⟩ := hrel
    by_cases hlt : k < n
    · have hk0 : (0 : Int) ≤ (k : Int) := by omega
      have hk1 : (k : Int) < (n : Int) := by omega
      have hkI : k < I.length := by rw [HLN.out]; exact hlt
      rcases HI.out.2 with h0 | ⟨b, off, rfl, hbl0, hc⟩
      · omega
      have c0 := (HR.out.bel.cell (p := ⟨b, _, none⟩) hbl0).trans (hc k hlt)
      have hwx := HW.out k hlt
      have hsz := HR.out.bel.size
      have hacc := HR.out.len
      clear hc
      have HP := hide (fun (a : List UInt8) (w' : World) hx h0 h1 hb hf => HR.out.put (a := a) (w' := w') hkI hx h0 h1 hb hf)
      have HST := hide (fun (hx : itm (tL L) (gI I k) = none) => show rnd (tL L) I = none by rw [split_at I hkI]; exact rnd_stop hx)
      clear hkI
      generalize gI I k = x at *
      by_cases hb0 : 0 ≤ x ∧ x < 256
      · obtain ⟨hx0, hx1⟩ := hb0
        have KB := wb_byte w.heap.size w.heap.size (Lib.byteCells acc) x wr HR.out.bld (by rw [Lib.byteCells_length]; omega) hsz
        have hcv : wrap64 x = x := by unfold wrap64; omega
        have hcv2 : IntKind.u8.wrap x = x := by
          rw [IntKind.wrap_u8]
          omega
        go_wp2_with fail
        refine KB.mono ?_
        rintro e w1 ⟨rfl, hb1, hf1⟩
        clear KB
        rw [← byte_cells hx0 hx1] at hb1
        have HN := hide (HP.out _ w1 (itm_byte _ hx0 hx1) (by simp) (by simp) hb1 hf1)
        clear hb1 hf1
        go_wp2
        exact ⟨⟨k + 1, _, by go_num, by omega, HN⟩, by simp [intOf]; omega⟩
      · by_cases hm0 : x < 0 ∧ -(L.length : Int) ≤ x
        · obtain ⟨i, rfl, hi⟩ : ∃ i : Nat, x = -1 - i ∧ i < L.length := ⟨(-1 - x).toNat, by omega, by omega⟩
          have KA := atm_yes (HV.out.kept (HR.out.bel.mono (Nat.le_refl _))) hfew (-1 - i) i hi rfl
          have hitm := itm_mark (tL L) (x := -1 - i) (by omega) (by rw [tL_len]; omega)
          rw [show (-1 - (-1 - (i : Int))).toNat = i by omega, mT_tL L hi] at hitm
          have hne := HK.out.ne i hi
          have hle := HK.out.le i hi
          have HIT := hide hitm
          clear hitm
          generalize (gS L i).1 = y1 at *
          generalize (gS L i).2 = y2 at *
          have hx2 : -1 - (i : Int) < 0 := by omega
          generalize hxx : -1 - (i : Int) = x at *
          clear hxx
          go_wp2_with fail
          refine KA.mono ?_
          rintro e w1 ⟨rfl, hb1⟩
          clear KA
          have hR1 := HR.out.low hb1
          have hR2 := hR1.low (low1 w1 (.cells #[.int .i64 y1, .string y2] 79))
          have d1 : (w1.alloc (.cells #[.int .i64 y1, .string y2] 79)).cell? ⟨w1.heap.size, 1, none⟩ = some (.string y2) := by simp
          have KS := wb_string w.heap.size w.heap.size (Lib.byteCells acc) y2 _ hR2.bld (by rw [Lib.byteCells_length]; omega) hR2.bel.size
          have HR2 := hide hR2
          have HFX := hide ((FrW.refl w.heap.size w.heap.size wr).low hsz (hb1.trans ((low1 w1 (.cells #[.int .i64 y1, .string y2] 79)).mono hb1.size)))
          clear hR1 hR2 hb1
          go_wp2_with fail
          refine KS.mono ?_
          rintro e w2 ⟨rfl, hb2, hf2⟩
          clear KS
          have HN := hide (HP.out y2.data.toList w2 HIT.out (by rw [Array.length_toList]; exact hne) (by rw [Array.length_toList]; exact hle) hb2 (HFX.out.trans hf2))
          clear hb2 hf2 d1
          go_wp2
          exact ⟨⟨k + 1, _, by go_num, by omega, HN⟩, by simp [intOf]; omega⟩
        · have KA := atm_no (HV.out.kept (HR.out.bel.mono (Nat.le_refl _))) hfew x hwx (by omega)
          have HE := hide (HST.out (itm_none _ hb0 (by rw [tL_len]; exact hm0)))
          have hx3 : ¬ (0 ≤ x ∧ x < 256) := hb0
          have HB := HR.out.bel
          have HB1 := hide HB
          clear HB
          by_cases hx0 : 0 ≤ x
          · have hx1 : ¬ x < 256 := by omega
            clear hb0 hx3 hm0
            go_wp2_with fail
            refine KA.mono ?_
            rintro e w1 ⟨rfl, hb1⟩
            have HB2 := hide ((HB1.out.trans (hb1.mono hsz)).alloc (by have := hb1.size; omega) (.cells #[.int .i64 0, .string ⟨#[]⟩] 79))
            clear KA hb1
            go_wp2
            refine bodyPost_ret (v := .tuple #[.string ⟨#[]⟩, .bool false]) (by simp [results, Tryz.results77, go_sem]) rfl ⟨?_, HB2.out⟩
            rw [HE.out]
            rfl
          · clear hb0 hx3 hm0
            go_wp2_with fail
            refine KA.mono ?_
            rintro e w1 ⟨rfl, hb1⟩
            have HB2 := hide ((HB1.out.trans (hb1.mono hsz)).alloc (by have := hb1.size; omega) (.cells #[.int .i64 0, .string ⟨#[]⟩] 79))
            clear KA hb1
            go_wp2
            refine bodyPost_ret (v := .tuple #[.string ⟨#[]⟩, .bool false]) (by simp [results, Tryz.results77, go_sem]) rfl ⟨?_, HB2.out⟩
            rw [HE.out]
            rfl
    · obtain rfl : k = n := by omega
      have hrun := HR.out.run
      rw [List.take_of_length_le (by rw [HLN.out]; exact Nat.le_refl _)] at hrun
      have HE := hide hrun
      clear hrun
      by_cases he : acc = []
      · subst he
        have KN := wb_nil w.heap.size _ wr (HR.out.emp rfl)
        go_wp2_with fail
        refine KN.mono ?_
        rintro e w1 ⟨rfl, hb1⟩
        have HB := hide (HR.out.bel.trans (hb1.mono HR.out.bel.size))
        clear KN hb1
        go_wp2
        go_ret2
        refine ⟨?_, HB.out⟩
        rw [HE.out]
        rfl
      · have KT : Calls Tryz.prog 117 #[.pointer (some ⟨w.heap.size, 0, none⟩)] wr fun e w' => e = .returned (.string ⟨acc.toArray⟩) ∧ Below w.heap.size wr w' := by
          rcases HR.out.bld with h | h
          · exact wb_text _ _ _ acc wr h he
          · exact wb_text _ _ _ acc wr h he
        have HNE := hide he
        clear he
        go_wp2_with fail
        refine KT.mono ?_
        rintro e w1 ⟨rfl, hb1⟩
        have HB := hide (HR.out.bel.trans hb1)
        clear KT hb1
        go_wp2
        go_ret2
        refine ⟨?_, HB.out⟩
        rw [HE.out]
        rfl
end
end Go.Proofs.YtdpmjaelbjjanaaGreat.Mk

namespace Go.Proofs.YtdpmjaelbjjanaaGreat.Mk
open Go.RowKit Go.Maps
set_option linter.unusedVariables false
set_option linter.unusedSimpArgs false

theorem app_str (w : World) (base : Nat) (ao : Option Addr) (n cap : Nat) (xs : List UInt8) (s : ByteArray) (h : w.ownsRow base 5 1 (.slice ao n cap) n (Lib.byteCells xs)) (hn : n ≤ 1000000000) (hs : s.size ≤ 1000) (hb : base ≤ w.heap.size) :
    ∃ ao1 cap1 w1, (Builtin.append_ #[140, 9] 140 #[.slice ao n cap, .string s]).run Tryz.prog w = .ok (.slice ao1 (n + s.size) cap1) w1 ∧ w1.ownsRow base 5 1 (.slice ao1 (n + s.size) cap1) (n + s.size) (Lib.byteCells (xs ++ s.data.toList)) ∧ Below base w w1 := by
  obtain ⟨i0, hi, hz0, hz1, hz2⟩ := info_parts info_byte
  obtain ⟨v', w', hr, h2, h3, _⟩ := Lib.run_append_own_string (P := Tryz.prog) w base 140 9 140 5 i0 Tryz.underlying140 Tryz.underlying9 hi hz0 hz1 hz2 (.slice ao n cap) n (Lib.byteCells xs) h s (by unfold maxLen; omega) (by omega) hb
  obtain ⟨ao1, cap1, rfl⟩ := row_form h2
  refine ⟨ao1, cap1, w', hr, ?_, ⟨h3.os, h3.tape, h3.output, h3.size, fun k hk => h3.block k (by omega) (fun e => by have := (h.lt k e.symm).1; omega)⟩⟩
  rw [Lib.byteCells_append]
  exact h2
theorem app_byte (w : World) (base : Nat) (ao : Option Addr) (n cap : Nat) (xs : List UInt8) (x : Int) (hx0 : 0 ≤ x) (hx1 : x < 256) (h : w.ownsRow base 5 1 (.slice ao n cap) n (Lib.byteCells xs)) (hn : n ≤ 1000000000) (hb : base ≤ w.heap.size) :
    ∃ g cap1 w1, (Builtin.append_ #[140, 140] 140 #[.slice ao n cap, .slice (some ⟨w.heap.size, 0, none⟩) 1 1]).run Tryz.prog (w.alloc (.cells #[.int .u8 x] 5)) = .ok (.slice (some ⟨g, 0, none⟩) (n + 1) cap1) w1 ∧ w1.ownsRow base 5 1 (.slice (some ⟨g, 0, none⟩) (n + 1) cap1) (n + 1) (Lib.byteCells (xs ++ [UInt8.ofNat x.toNat])) ∧ Below base w w1 := by
  obtain ⟨i0, hi, hz0, hz1, hz2⟩ := info_parts info_byte
  obtain ⟨g, cap1, w1, hrun, hown, hgrow, _, _⟩ := run_append_lies (P := Tryz.prog) (w.alloc (.cells #[.int .u8 x] 5)) 140 140 base 5 i0 _ 1 1 Tryz.underlying140 hi hz0 hz1 hz2 rfl (by omega) (.slice ao n cap) n (Lib.byteCells xs) (h.alloc _) ⟨w.heap.size, 0, none⟩ 1 1 [.int .u8 x] rfl (World.news_of_block (heap_alloc_new w _)) (by simp [Value.oneCell']) (by omega) (by unfold maxLen; omega) (by omega) (by simp; omega) (w.heap.size + 1) (by simp)
  refine ⟨g, cap1, w1, hrun, by rw [Lib.byteCells_append, byte_cells hx0 hx1]; exact hown, ?_⟩
  have h1 : Below base w (w.alloc (.cells #[.int .u8 x] 5)) := (low1 w _).mono hb
  exact h1.trans ⟨hgrow.os, hgrow.tape, hgrow.output, hgrow.size, fun k hk => hgrow.block k (by simp; omega) (fun e => by have := (h.lt k e.symm).1; omega)⟩
theorem str_nums (l : List UInt8) : strOfNums (l.map (fun c => (c.toNat : Int))) = ⟨l.toArray⟩ := by
  rw [strOfNums]
  congr 2
  rw [List.map_map]
  conv => rhs; rw [← List.map_id l]
  refine List.map_congr_left (fun x _ => ?_)
  simp
theorem conv_row (w : World) (base : Nat) (ao : Option Addr) (n cap : Nat) (xs : List UInt8) (h : w.ownsRow base 5 1 (.slice ao n cap) n (Lib.byteCells xs)) : (convert 140 9 (.slice ao n cap)).run Tryz.prog w = .ok (.string ⟨xs.toArray⟩) w := by
  have hl : xs.length = n := by have := h.1; simp [Lib.byteCells] at this; omega
  rcases h.2 with ⟨hv, h0⟩ | ⟨g, c, cur, hv, _⟩
  · simp only [Value.slice.injEq] at hv
    obtain ⟨rfl, rfl, rfl⟩ := hv
    have : xs = [] := List.eq_nil_of_length_eq_zero hl
    subst this
    exact run_convert_bytes_nil (P := Tryz.prog) w 140 5 Tryz.underlying140 Tryz.underlying5 0 0 9 Tryz.underlying9
  · simp only [Value.slice.injEq] at hv
    obtain ⟨rfl, _, rfl⟩ := hv
    have hc := run_convert_bytes_arg (P := Tryz.prog) w 140 5 Tryz.underlying140 Tryz.underlying5 g 0 n cap (xs.map (fun c => (c.toNat : Int))) (by simpa using hl) (fun i hi => by
      rw [Nat.zero_add, h.cellAt i (by omega)]
      simp [Lib.byteCells, List.getD_eq_getElem?_getD, List.getElem?_eq_getElem (show i < xs.length by omega)]) 9 Tryz.underlying9
    rw [str_nums] at hc
    exact hc

section
variable {ao : Option Addr} {cap : Nat} {L : List (Int × ByteArray)} {w : World}
end
end Go.Proofs.YtdpmjaelbjjanaaGreat.Mk

namespace Go.Proofs.YtdpmjaelbjjanaaGreat.Mk
open Go.RowKit Go.Maps
set_option linter.unusedVariables false
set_option linter.unusedSimpArgs false

theorem beg_any (s t : ByteArray) (w : World) (hs : s.size ≤ 1000000) (ht : t.size ≤ 1000000) : Calls Tryz.prog 72 #[.string s, .string t] w fun e w' => e = .returned (.bool (bgn s.data.toList t.data.toList)) ∧ w' = w := by
  have hb := bgn_size s t
  generalize bgn s.data.toList t.data.toList = z at hb ⊢
  have HB := hide hb
  clear hb
  by_cases h : t.size ≤ s.size
  · go_enter Tryz.func72, Tryz.ntmps72
    go_wp2
    go_ret
    refine ⟨?_, rfl⟩
    rw [HB.out, decide_eq_decide.2 (show (t.size ≤ s.size ∧ s.extract 0 t.size = t) ↔ s.extract 0 t.size = t from ⟨fun h => h.2, fun e => ⟨h, e⟩⟩), ← beqS]
    rfl
  · go_enter Tryz.func72, Tryz.ntmps72
    go_wp2
    go_ret
    refine ⟨?_, rfl⟩
    rw [HB.out, decide_eq_false (fun e => h e.1)]
    rfl

section
variable {ao : Option Addr} {n cap : Nat} {L : List (Int × ByteArray)} {w : World}
theorem bst_new {T : List (List UInt8)} {s : List UInt8} {k : Nat} (h : bgn s (mT T k) = true ∧ (bst T s k = 0 ∨ (mT T (bst T s k - 1)).length < (mT T k).length)) : bst T s (k + 1) = k + 1 := by rw [bst, if_pos h]

theorem bst_old {T : List (List UInt8)} {s : List UInt8} {k : Nat} (h : ¬ (bgn s (mT T k) = true ∧ (bst T s k = 0 ∨ (mT T (bst T s k - 1)).length < (mT T k).length))) : bst T s (k + 1) = bst T s k := by rw [bst, if_neg h]

set_option maxRecDepth 20000 in
set_option maxHeartbeats 4000000 in
theorem rat_any (h : RdS w ao L.length L) (hk : TxOk L) (s : ByteArray) (hs : s.size ≤ 100000) : Calls Tryz.prog 38 #[.slice ao L.length cap, .string s] w fun e w' => e = .returned (.int .i64 (-(atM (tL L) s.data.toList : Int))) ∧ Below w.heap.size w w' := by
  have hfew := hk.few
  have HR := hide h
  have HK := hide hk
  clear h hk
  go_enter Tryz.func38, Tryz.ntmps38
  go_wp2
  go_loopw [5, 6] (fun a i wr => ∃ (k m : Nat), a = .int .i64 (-(m : Int)) ∧ i = .int .i64 k ∧ k ≤ L.length ∧ Hid (m = bst (tL L) s.data.toList k) ∧ Hid (Below w.heap.size w wr)) (fun _ i _ => L.length - (intOf i).toNat)
  case atStart => exact ⟨0, 0, rfl, rfl, Nat.zero_le _, hide rfl, hide (Below.refl _ _)⟩
  case round =>
    obtain ⟨k, m, rfl, rfl, hkn, HM, HB⟩ := hrel
    by_cases hlt : k < L.length
    · have hk0 : (0 : Int) ≤ (k : Int) := by omega
      have hk1 : (k : Int) < (L.length : Int) := by omega
      have hmk : m ≤ k := by rw [HM.out]; exact bst_le _ _ _
      have h1 := @bst_new (tL L) s.data.toList k
      have h2 := @bst_old (tL L) s.data.toList k
      rw [mT_len L hlt, mT_tL L hlt, ← HM.out] at h1 h2
      have H1 := hide h1
      have H2 := hide h2
      have hxs := HK.out.le k hlt
      clear h1 h2
      rcases HR.out.2 with h0 | ⟨b, off, rfl, hbl0, hc⟩
      · omega
      have c1 := (HB.out.cell (p := ⟨b, _, none⟩) hbl0).trans (hc k hlt).2
      have HC := hide hc
      have hbl := Nat.lt_of_lt_of_le hbl0 HB.out.size
      clear hc
      generalize (gS L k).2 = x at *
      have KB := fun w => beg_any s x w (by omega) (by omega)
      generalize bgn s.data.toList x.data.toList = z at *
      cases z with
      | false =>
        go_wp2
        go_quiet ((go_at_call 72; exact Calls.quiet_of_same (KB _)))
        have HB3 := hide (lowD HB.out nq)
        clear c1
        generalize wr.drewN nq = wd at *
        go_wp2
        refine ⟨⟨k + 1, m, rfl, by go_num, by omega, hide ?_, HB3⟩, by simp [intOf]; omega⟩
        rw [H2.out (fun e => by cases e.1)]
      | true =>
        by_cases hm : m = 0
        · subst hm
          go_wp2
          go_quiet ((go_at_call 72; exact Calls.quiet_of_same (KB _)))
          have HB3 := hide (lowD HB.out nq)
          clear c1
          generalize wr.drewN nq = wd at *
          go_wp2
          refine ⟨⟨k + 1, k + 1, by go_num, by go_num, by omega, hide ?_, HB3⟩, by simp [intOf]; omega⟩
          rw [H1.out ⟨trivial, Or.inl trivial⟩]
        · obtain ⟨i, rfl⟩ : ∃ i, m = i + 1 := ⟨m - 1, by omega⟩
          simp only [Nat.add_sub_cancel] at *
          have hi : i < L.length := by omega
          have c2 := (HB.out.cell (p := ⟨b, _, none⟩) hbl0).trans (HC.out i hi).2
          have hys := HK.out.le i hi
          have H1' := H1.out
          have H2' := H2.out
          rw [mT_len L hi] at H1' H2'
          have H3 := hide H1'
          have H4 := hide H2'
          clear H1' H2' H1 H2
          generalize (gS L i).2 = y at *
          have hi0 : (0 : Int) ≤ (i : Int) := by omega
          have hi1 : (i : Int) < (L.length : Int) := by omega
          generalize hmk2 : -((i + 1 : Nat) : Int) = mk at *
          have hmz : ¬ mk = 0 := by omega
          have hmw : IntKind.i64.wrap (-1 - mk) = (i : Int) := by rw [← hmk2, show -1 - -((i + 1 : Nat) : Int) = (i : Int) by omega, IntKind.wrap_i64]; omega
          have HMK := hide hmk2
          clear hmk2
          go_wp2
          go_quiet ((go_at_call 72; exact Calls.quiet_of_same (KB _)))
          have HB3 := hide (lowD HB.out nq)
          clear c1 c2
          generalize wr.drewN nq = wd at *
          have hmb : (mk == 0) = false := by simpa using hmz
          by_cases hxy : y.size < x.size
          · go_wp2
            refine ⟨⟨k + 1, k + 1, by go_num, by go_num, by omega, hide ?_, HB3⟩, by simp [intOf]; omega⟩
            rw [H3.out ⟨trivial, Or.inr hxy⟩]
          · go_wp2
            · exfalso
              rename_i h
              rcases h with h | h
              · rw [hmb] at h; cases h
              · exact hxy h
            · refine ⟨⟨k + 1, i + 1, congrArg (Value.int IntKind.i64) HMK.out.symm, by go_num, by omega, hide ?_, HB3⟩, by simp [intOf]; omega⟩
              rw [H4.out (fun e => e.2.elim (fun h => by omega) hxy)]
    · obtain rfl : k = L.length := by omega
      have HE : Hid (atM (tL L) s.data.toList = m) := hide (by rw [HM.out, atM, tL_len])
      go_wp2
      go_ret
      exact ⟨by rw [HE.out]; rfl, HB.out⟩

set_option maxRecDepth 20000 in
set_option maxHeartbeats 4000000 in
theorem rparse_any (h : RdS w ao L.length L) (hk : TxOk L) (hM : MkOk (tL L)) (s : ByteArray) (hs : s.size ≤ 100000) : Calls Tryz.prog 12 #[.slice ao L.length cap, .string s] w fun e w' => (∃ ai ci, e = .returned (.slice ai (parsM (tL L) s.data.toList).length ci) ∧ w'.ownsRow w.heap.size 3 1 (.slice ai (parsM (tL L) s.data.toList).length ci) (parsM (tL L) s.data.toList).length (iv (parsM (tL L) s.data.toList))) ∧ Below w.heap.size w w' := by
  have HV := hide h
  have HK := hide hk
  have HM := hide hM
  have hfew := hk.few
  clear h hk hM
  generalize hp : parsM (tL L) s.data.toList = R
  have HP := hide hp
  clear hp
  go_enter Tryz.func12, Tryz.ntmps12
  go_wp2
  go_loopw [1, 5] (fun a b wr => ∃ (t : ByteArray) (u : List Int) (n : Nat) (ai : Option Addr) (ci : Nat), a = .string t ∧ b = .slice ai n ci ∧ n + t.size ≤ s.size ∧ Hid (u.length = n) ∧ Hid (R = u ++ parsM (tL L) t.data.toList) ∧ Hid (wr.ownsRow w.heap.size 3 1 (.slice ai n ci) n (iv u)) ∧ Hid (Below w.heap.size w wr)) (fun a _ _ => szOf a)
  case atStart => exact ⟨s, [], 0, none, 0, rfl, rfl, by omega, hide rfl, hide (by rw [HP.out]; rfl), hide (by simpa [iv] using World.ownsRow_nil _ _ _ _), hide (Below.refl _ _)⟩
  case round =>
    obtain ⟨t, u, n, ai, ci, rfl, rfl, hnt, HN, HRE, HR, HB⟩ := hrel
    by_cases ht : t.size = 0
    · have HF : Hid (R = u) := hide (by
        have h0 : t.data.toList = [] := List.length_eq_zero_iff.1 (by rw [Array.length_toList]; exact ht)
        rw [HRE.out, h0, pars_nil, List.append_nil])
      go_wp2
      go_ret
      have hu : R.length = n := by rw [HF.out]; exact HN.out
      rw [hu]
      refine ⟨⟨ai, ci, rfl, ?_⟩, HB.out⟩
      rw [HF.out]
      exact HR.out
    · have ht0 : 0 < t.size := by omega
      have hti : (0 : Int) < (t.size : Int) := by omega
      have K := rat_any (cap := cap) (HV.out.kept (HB.out.mono (Nat.le_refl _))) HK.out t (by omega)
      have hsb := @step_byte (tL L) t HM.out ht0
      have hsm := @step_mark (tL L) t HM.out
      have hml := @mark_len (tL L) t
      have hbg := @at_bgn (tL L) t.data.toList
      generalize atM (tL L) t.data.toList = m at *
      have HSB := hide hsb
      have HSM := hide hsm
      clear hsb hsm
      go_wp2_with fail
      refine K.mono ?_
      rintro e w1 ⟨rfl, hb1⟩
      clear K
      have HB1 := hide (HB.out.trans (hb1.mono HB.out.size))
      by_cases hm : 0 < m
      · have hi := (hbg hm).1
        rw [tL_len] at hi
        have hml1 := hml hm
        rw [mT_len L hi] at hml1
        have HPE := HSM.out hm
        rw [mT_len L hi] at HPE
        have hne := HK.out.ne _ hi
        have HR1 := hide (row_keptB HR.out hb1)
        obtain ⟨i, rfl⟩ : ∃ i, m = i + 1 := ⟨m - 1, by omega⟩
        simp only [Nat.add_sub_cancel] at *
        have hi0 : (0 : Int) ≤ (i : Int) := by omega
        have hi1 : (i : Int) < (L.length : Int) := by omega
        have HRE2 : Hid (R = (u ++ [-((i + 1 : Nat) : Int)]) ++ parsM (tL L) (t.extract (gS L i).2.size t.size).data.toList) := hide (by rw [HRE.out, HPE]; simp)
        obtain ⟨g1, cap2, w2, hrun, hown, hB2⟩ := app_int w1 w.heap.size ai n ci _ (-((i + 1 : Nat) : Int)) HR1.out (by omega) HB1.out.size
        have HRUN := hide hrun
        have HB3 := hide (HB1.out.trans hB2)
        have HR2 := hide hown
        rcases (HV.out.kept (HB3.out)).2 with h0 | ⟨g, off, rfl, hbl0, hc⟩
        · omega
        have c1 := (hc i hi).2
        have h1t : ((gS L i).2.size : Int) ≤ (t.size : Int) := by omega
        clear hc hb1 hbg hml HPE HSB HSM hrun hown hB2
        generalize (gS L i).2 = x at *
        generalize hmk : -((i + 1 : Nat) : Int) = mk at *
        have hmz : ¬ mk = 0 := by omega
        have hmw : -1 - mk = (i : Int) := by omega
        have HMK := hide hmk
        clear hmk
        go_wp2_with (at_builtin; refine Lib.wpList_append_run _ rfl _ _ _ _ rfl _ _ rfl rfl _ _ HRUN.out ?_)
        exact ⟨⟨_, u ++ [mk], n + 1, _, cap2, rfl, rfl, by rw [ext_size]; omega, hide (by have := HN.out; simp; omega), HRE2, HR2, HB3⟩, by rw [szOf_string, szOf_string, ext_size]; omega⟩
      · obtain rfl : m = 0 := by omega
        obtain ⟨g1, cap2, w2, hrun, hown, hB2⟩ := app_int w1 w.heap.size ai n ci _ (t[0].toNat : Int) (row_keptB HR.out hb1) (by omega) HB1.out.size
        have HRUN := hide hrun
        have HB3 := hide (HB1.out.trans hB2)
        have HR2 := hide hown
        have HRE2 : Hid (R = (u ++ [(t[0].toNat : Int)]) ++ parsM (tL L) (t.extract 1 t.size).data.toList) := hide (by rw [HRE.out, HSB.out rfl]; simp)
        have h1t : (1 : Int) ≤ (t.size : Int) := by omega
        have hcv : wrap64 (t[0].toNat : Int) = (t[0].toNat : Int) := by have := t[0].toNat_lt; unfold wrap64; omega
        clear hrun hown hB2 hb1 hbg hml
        go_wp2_with (at_builtin; refine Lib.wpList_append_run _ rfl _ _ _ _ rfl _ _ rfl rfl _ _ HRUN.out ?_)
        exact ⟨⟨_, u ++ [(t[0].toNat : Int)], n + 1, _, cap2, rfl, rfl, by rw [ext_size]; omega, hide (by have := HN.out; simp; omega), HRE2, HR2, HB3⟩, by rw [szOf_string, szOf_string, ext_size]; omega⟩

/-- What is asked of. -/
def fewS (L : List (Int × ByteArray)) : Prop := L.length ≤ 40 ∧ ∀ i, i < L.length → (gS L i).2.size ≤ 100

set_option maxRecDepth 20000 in
set_option maxHeartbeats 4000000 in
theorem great_any (h : RdS w ao n L) (hn : n ≤ 9223372036854775807) : Calls Tryz.prog 62 #[.slice ao n cap] w fun e w' => (∃ z, e = .returned (.bool z) ∧ (z = false → fewS L)) ∧ Below w.heap.size w w' := by
  have HR := hide h
  have HLn := hide h.1
  clear h
  go_enter Tryz.func62, Tryz.ntmps62
  go_wp2
  go_loopw [3] (fun i wr => ∃ (k : Nat), i = .int .i64 k ∧ k ≤ n ∧ Hid (∀ i, i < k → (gS L i).2.size ≤ 100) ∧ Hid (Below w.heap.size w wr)) (fun i _ => n - (intOf i).toNat)
  case atStart => exact ⟨0, rfl, Nat.zero_le _, hide (fun i hi => by omega), hide (Below.refl _ _)⟩
  case round =>
    obtain ⟨k, rfl, hkn, HA, HB⟩ := hrel
    by_cases hlt : k < n
    · have hk0 : (0 : Int) ≤ (k : Int) := by omega
      have hk1 : (k : Int) < (n : Int) := by omega
      rcases HR.out.2 with h0 | ⟨b, off, rfl, hbl0, hc⟩
      · omega
      have c1 := (HB.out.cell (p := ⟨b, _, none⟩) hbl0).trans (hc k hlt).2
      clear hc
      have HX := hide (rfl : (gS L k).2 = (gS L k).2)
      generalize hgx : (gS L k).2 = x at *
      have HX2 := hide hgx
      clear hgx HX
      by_cases hz : 100 < x.size
      · go_wp2
        go_ret
        exact ⟨⟨true, rfl, fun e => by cases e⟩, HB.out⟩
      · go_wp2
        refine ⟨⟨k + 1, by go_num, by omega, hide (fun i hi => ?_), HB⟩, by simp [intOf]; omega⟩
        by_cases e : i = k
        · subst e; rw [HX2.out]; omega
        · exact HA.out i (by omega)
    · obtain rfl : k = n := by omega
      go_wp2
      go_ret
      refine ⟨⟨_, rfl, fun e => ⟨?_, ?_⟩⟩, HB.out⟩
      · simp at e
        rw [HLn.out]
        omega
      · rw [HLn.out]
        exact HA.out
end
end Go.Proofs.YtdpmjaelbjjanaaGreat.Mk
