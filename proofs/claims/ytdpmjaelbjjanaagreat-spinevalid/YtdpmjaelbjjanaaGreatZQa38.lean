/- The document's Some: the walk. What Some makes: it is right, and a vocabulary. VocabOwn: rows that are written, a vocabulary that stays as it is. -/
import Derived.Test.YtdpmjaelbjjanaaGreatZQa36
import Derived.Deep.CutRange
import Derived.Deep.CutBlock
import Derived.Test.YtdpmjaelbjjanaaGreatZQa33
import Derived.Test.YtdpmjaelbjjanaaGreatZQa30
namespace Go.Proofs.YtdpmjaelbjjanaaGreat
open Go.RowKit Go.Maps
set_option linter.unusedVariables false
set_option linter.unusedSimpArgs false
attribute [local go_sem ↓] Go.wp_at_zero Go.wp_at_succ

/-- What holds of the spec while it is made: its classes, joins and special tokens may be. -/
structure SmG (mg : List (Int × Int)) (ci ji si : Nat) (s : Wf.Sp) : Prop where
  rk : s.ranked = false
  ms : s.merges = mg
  ts : s.tokens = []
  cs : ∀ c ∈ s.classes, Wf.Bq.kC c
  cn : s.classes.length ≤ ci
  js : ∀ c ∈ s.joins, Wf.Bq.kJ c
  jn : s.joins.length ≤ ji
  ss : okM s
  sn : s.specials.length ≤ si
  si : ∀ j, j < s.specials.length → (1000 : Int) ≤ (Mk.gS s.specials j).1
theorem SmG.addC {mg : List (Int × Int)} {ci ji si : Nat} {s : Wf.Sp} (h : SmG mg ci ji si s) (m : Int × Int × Int) (hm : Wf.Bq.kC m) : SmG mg (ci + 1) ji si { s with classes := s.classes ++ [m] } := by
  refine ⟨h.rk, h.ms, h.ts, fun c hc => ?_, by have := h.cn; simp; omega, h.js, h.jn, h.ss, h.sn, h.si⟩
  rcases List.mem_append.1 hc with h1 | h1
  · exact h.cs c h1
  · obtain rfl : c = m := by simpa using h1
    exact hm
theorem SmG.addJ {mg : List (Int × Int)} {ci ji si : Nat} {s : Wf.Sp} (h : SmG mg ci ji si s) (m : Int × Int) (hm : Wf.Bq.kJ m) : SmG mg ci (ji + 1) si { s with joins := s.joins ++ [m] } := by
  refine ⟨h.rk, h.ms, h.ts, h.cs, h.cn, fun c hc => ?_, by have := h.jn; simp; omega, h.ss, h.sn, h.si⟩
  rcases List.mem_append.1 hc with h1 | h1
  · exact h.js c h1
  · obtain rfl : c = m := by simpa using h1
    exact hm
theorem SmG.up {mg : List (Int × Int)} {ci ji si ci' ji' si' : Nat} {s : Wf.Sp} (h : SmG mg ci ji si s) (h1 : ci ≤ ci') (h2 : ji ≤ ji') (h3 : si ≤ si') : SmG mg ci' ji' si' s :=
  ⟨h.rk, h.ms, h.ts, h.cs, Nat.le_trans h.cn h1, h.js, Nat.le_trans h.jn h2, h.ss, Nat.le_trans h.sn h3, h.si⟩
theorem SmG.setS {mg : List (Int × Int)} {ci ji si k : Nat} {s : Wf.Sp} (h : SmG mg ci ji si s) {L : List (Int × ByteArray)} {id : Int} {t : ByteArray} (hL : L = s.specials ++ [(id, t)]) (hid : 1000 ≤ id) (hc : Mk.ChkR L k 0) : SmG mg ci ji (si + 1) { s with specials := L } := by
  refine ⟨h.rk, h.ms, h.ts, h.cs, h.cn, h.js, h.jn, ?_, by have := h.sn; subst hL; simp; omega, fun j hj => ?_⟩
  · rcases hc.2 with h1 | ⟨_, h1⟩
    · obtain rfl := h1.1
      exact hc
    · exact absurd rfl (Mk.err_ne h1)
  · subst hL
    simp only at hj ⊢
    rw [List.length_append] at hj
    by_cases hjl : j < s.specials.length
    · have := h.si j hjl
      rw [Mk.gS, List.getD_eq_getElem?_getD, List.getElem?_append_left hjl, ← List.getD_eq_getElem?_getD]
      exact this
    · obtain rfl : j = s.specials.length := by simp at hj; omega
      simp [Mk.gS, hid]
theorem row_rd {w : World} {B : Nat} {a : Option Addr} {n c : Nat} {L : List (Int × ByteArray)} (h : Wf.Row B 79 2 Wf.eS a n c L w) : Mk.RdS w a L.length L := by
  refine ⟨rfl, ?_⟩
  rw [h.len]
  rcases Nat.eq_zero_or_pos n with h0 | h0
  · exact Or.inl h0
  · obtain ⟨g, hg, hl, hc⟩ := h.cell (fun _ => rfl) h0 (0, ⟨#[]⟩)
    exact Or.inr ⟨g, 0, hg, hl, fun i hi => ⟨hc i 0 hi (by omega), hc i 1 hi (by omega)⟩⟩
theorem below_tr {B : Nat} {a b c : World} (h : Below B a b) (hB : B ≤ b.heap.size) (k : Below b.heap.size b c) : Below B a c := h.trans (k.mono hB)

theorem rdC_one {w : World} {b off n : Nat} {C : List (Int × Int × Int)} {k : Nat} (h : Wf.Bq.RdC w (some ⟨b, off, none⟩) n C) (hk : k < n) : Wf.Bq.RdC w (some ⟨b, off + k * 3, none⟩) 1 [Wf.Bq.gC C k] := by
  refine ⟨rfl, Or.inr ?_⟩
  rcases h.2 with h0 | ⟨b2, off2, e, hlt, hc⟩
  · omega
  simp only [Option.some.injEq, Addr.mk.injEq, and_true] at e
  obtain ⟨rfl, rfl⟩ := e
  refine ⟨b, off + k * 3, rfl, hlt, fun i hi => ?_⟩
  obtain rfl : i = 0 := by omega
  have := hc k hk
  simpa [Wf.Bq.gC] using this
theorem rdJ_one {w : World} {b off n : Nat} {C : List (Int × Int)} {k : Nat} (h : Wf.Bq.RdJ w (some ⟨b, off, none⟩) n C) (hk : k < n) : Wf.Bq.RdJ w (some ⟨b, off + k * 2, none⟩) 1 [Wf.Bq.gJ C k] := by
  refine ⟨rfl, Or.inr ?_⟩
  rcases h.2 with h0 | ⟨b2, off2, e, hlt, hc⟩
  · omega
  simp only [Option.some.injEq, Addr.mk.injEq, and_true] at e
  obtain ⟨rfl, rfl⟩ := e
  refine ⟨b, off + k * 2, rfl, hlt, fun i hi => ?_⟩
  obtain rfl : i = 0 := by omega
  have := hc k hk
  simpa [Wf.Bq.gJ] using this

/-- What comes of Some. -/
def RsP (w : World) (e : Ending) (w' : World) : Prop :=
  (∃ (y : Wf.Sv) (s : Wf.Sp) (tx : List ByteArray) (mg : List (Int × Int)), e = .returned (.agg y.cs) ∧ Rch tx mg ∧ SmG mg 8 8 6 s ∧ Wf.SpRw w.heap.size y s w') ∧ Below w.heap.size w w'

set_option maxRecDepth 20000 in
set_option maxHeartbeats 16000000 in
theorem rsome_any (au : Option Addr) (nu cu : Nat) (U : List Int) (ac : Option Addr) (nc cc : Nat) (C : List (Int × Int × Int)) (aj : Option Addr) (nj cj : Nat) (J : List (Int × Int)) (ax : Option Addr) (nx cx : Nat) (X : List (Int × ByteArray)) (w : World)
    (hU : ReadsH w au nu U) (hC : Wf.Bq.RdC w ac nc C) (hJ : Wf.Bq.RdJ w aj nj J) (hX : Mk.RdS w ax nx X) (n1 : nu ≤ 1000) (n2 : nc ≤ 1000) (n3 : nj ≤ 1000) (n4 : nx ≤ 1000) (q2 : nc ≤ cc) (q3 : nj ≤ cj) :
    Calls Tryz.prog 36 #[.slice au nu cu, .slice ac nc cc, .slice aj nj cj, .slice ax nx cx] w fun e w' => RsP w e w' := by
  have hl0 := Wf.low_alloc w (.cells #[.bool false, .slice none 0 0, .slice none 0 0, .slice none 0 0, .slice none 0 0, .slice none 0 0] 81)
  have HG := hide (rgrowN_any au nu cu U _ (hU.kept hl0) (by omega))
  have HRES := hide (heap_alloc_new w (.cells #[.bool false, .slice none 0 0, .slice none 0 0, .slice none 0 0, .slice none 0 0, .slice none 0 0] 81))
  have HL0 := hide hl0
  have HC := hide hC
  have HJ := hide hJ
  have HX := hide hX
  have hlt0 : w.heap.size < (w.alloc (.cells #[.bool false, .slice none 0 0, .slice none 0 0, .slice none 0 0, .slice none 0 0, .slice none 0 0] 81)).heap.size := by simp
  clear hl0 hU hC hJ hX n1
  go_enter Tryz.func36, Tryz.ntmps36
  go_wp2_with fail
  refine (unhide HG).mono ?_
  rintro e w2 ⟨⟨tx, mg, vb, vm, rfl, hR, hT, -, hnew⟩, hb2⟩
  obtain ⟨e1, d1, hv1⟩ := row_form hT.rb
  obtain ⟨e2, d2, hv2⟩ := row_form hT.rm
  subst hv1 hv2
  have hl3 := Wf.low_alloc w2 (.cells #[.slice e1 tx.length d1, .slice e2 mg.length d2] 34)
  have hl4 := Wf.low_alloc (w2.alloc (.cells #[.slice e1 tx.length d1, .slice e2 mg.length d2] 34)) (.cells #[.bool false, .slice e2 mg.length d2, .slice none 0 0, .slice none 0 0, .slice none 0 0, .slice none 0 0] 81)
  have hB2 := HL0.out.trans (hb2.mono HL0.out.size)
  have hB3 := below_tr hB2 hB2.size hl3
  have hB4 := below_tr hB3 hB3.size hl4
  have hrow := (((row_of_rt hT (B := w.heap.size) (fun q h => by have := hnew q h; omega)).low hl3).low hl4)
  have HS : Hid (SmI w w.heap.size (w2.heap.size + 1) ⟨false, e2, mg.length, d2, none, 0, 0, none, 0, 0, none, 0, 0, none, 0, 0⟩ ⟨false, mg, [], [], [], []⟩ ((w2.alloc (.cells #[.slice e1 tx.length d1, .slice e2 mg.length d2] 34)).alloc (.cells #[.bool false, .slice e2 mg.length d2, .slice none 0 0, .slice none 0 0, .slice none 0 0, .slice none 0 0] 81))) := by
    refine hide ⟨hB4, ?_, ?_, Nat.le_refl _, ?_, ?_, rfl, hrow, Wf.Row.nil _ _ _ _ _, Wf.Row.nil _ _ _ _ _, Wf.Row.nil _ _ _ _ _, Wf.Row.nil _ _ _ _ _⟩
    · rw [hl4.block _ (by have := hb2.size; simp; omega), hl3.block _ (by have := hb2.size; omega), hb2.block _ hlt0]
      exact HRES.out
    · have := heap_alloc_new (w2.alloc (.cells #[.slice e1 tx.length d1, .slice e2 mg.length d2] 34)) (.cells #[.bool false, .slice e2 mg.length d2, .slice none 0 0, .slice none 0 0, .slice none 0 0, .slice none 0 0] 81)
      simpa using this
    · have := hB2.size; omega
    · have := hB2.size; omega
  have HRC := hide hR
  have HGG : Hid (SmG mg 0 0 0 ⟨false, mg, [], [], [], []⟩) := hide ⟨rfl, rfl, rfl, fun c hc => (by cases hc), Nat.le_refl _, fun c hc => (by cases hc), Nat.le_refl _, ⟨fun i hi => (by cases hi), Or.inl ⟨rfl, rfl⟩⟩, Nat.le_refl _, fun j hj => (by cases hj)⟩
  clear hb2 HG HRES HL0 hlt0 hR hT hnew hl3 hl4 hB2 hB3 hB4 hrow
  go_wp2
  generalize w2.heap.size + 1 = q at *
  generalize w.heap.size = r at *
  go_loopw [11] (fun i wr => ∃ (k : Nat) (y : Wf.Sv) (s : Wf.Sp), i = .int .i64 k ∧ k ≤ 8 ∧ Hid (SmG mg k 0 0 s) ∧ Hid (SmI w r q y s wr)) (fun i _ => 8 - (intOf i).toNat)
  case atStart => exact ⟨0, _, _, rfl, by omega, HGG, HS⟩
  case round =>
    obtain ⟨k, y, s, rfl, hk, HGG2, HS2⟩ := hrel
    clear HGG HS
    have hk0 : (0 : Int) ≤ (k : Int) := by omega
    go_upto_region 4 with fail
    go_cut [29] from 22 to 47 (fun bv wx => bv = .bool (decide (k < nc ∧ k < 8)) ∧ wx = wr)
    case first =>
      by_cases h1 : k < nc
      · have g1 : (k : Int) < (nc : Int) := by omega
        by_cases h2 : k < 8
        · have g2 : (k : Int) < 8 := by omega
          go_wp2
          go_meet
          case rel => exact ⟨by simp [h1, h2], rfl⟩
        · have g2 : ¬ (k : Int) < 8 := by omega
          go_wp2
          go_meet
          case rel => exact ⟨by simp [h1, h2], rfl⟩
      · have g1 : ¬ (k : Int) < (nc : Int) := by omega
        go_wp2
        go_meet
        case rel => exact ⟨by simp [h1], rfl⟩
    case rest =>
      obtain ⟨rfl, hwc⟩ := hcut
      obtain rfl := hwc.symm
      clear hwc
      by_cases hx : k < nc ∧ k < 8
      · have hd : decide (k < nc ∧ k < 8) = true := decide_eq_true hx
        rw [hd]
        have g1 : (k : Int) < (nc : Int) := by omega
        have g3 : (k : Int) + 1 ≤ (cc : Int) := by omega
        have g4 : (k : Int) ≤ (k : Int) + 1 := by omega
        have hk8 : k < 8 := hx.2
        have hCW := HC.out.kept HS2.out.bel
        rcases hCW.2 with h0 | ⟨b, off, rfl, hbl, hc⟩
        · omega
        have HC1 := hide (rdC_one hCW hx.1)
        have HKR := hide (Wf.Bq.rright8_any (c1 := cc - k) (c2 := 0) HC1.out (⟨rfl, Or.inl rfl⟩ : Wf.Bq.RdJ wr none 0 []) (by omega) (by omega))
        have HLT := hide hx.1
        clear hc hCW hx hd
        go_wp2_with fail
        refine (unhide HKR).mono ?_
        rintro e w4 ⟨hP, hb⟩
        replace HS2 := hide (HS2.out.low hb)
        have hCW := HC.out.kept HS2.out.bel
        rcases hCW.2 with h0 | ⟨b', off', ha, hbl', hc⟩
        · omega
        simp only [Option.some.injEq, Addr.mk.injEq, and_true] at ha
        obtain ⟨rfl, rfl⟩ := ha
        obtain ⟨k0, k1, k2⟩ := hc k HLT.out
        clear hc hCW hb HKR HC1
        rcases hP with ⟨rfl, hok⟩ | ⟨rfl, -⟩
        · have hkC : Wf.Bq.kC (Wf.Bq.gC C k) := hok.1 _ (by simp)
          generalize Wf.Bq.gC C k = m at *
          have HG3 := hide (HGG2.out.addC m hkC)
          have hn4 : y.n4 ≤ 8 := by have h1 := HGG2.out.cn; have h2 := HS2.out.rows.m4.len; omega
          obtain ⟨i0, hii, hz0, hz1, hz2⟩ := info_parts Wf.info_C
          have c1 : w4.cell? ⟨q, 4, none⟩ = some (.slice y.a4 y.n4 y.c4) := HS2.out.cell 4
          have f1 := HS2.out.free 4
          have tlt := HS2.out.ltq
          have hown1 := HS2.out.rows.m4.own
          have hs0 : w.heap.size ≤ w4.heap.size := HS2.out.bel.size
          have hpne : some q ≠ (Value.slice y.a4 y.n4 y.c4).ownBlock := HS2.out.hres hown1 (by decide) (Or.inr rfl)
          have hlo := Wf.low_alloc w4 (.cells #[.int .i64 m.1, .int .i64 m.2.1, .int .i64 m.2.2] 130)
          have HR2 := hide ((HS2.out.low hlo).low below_drw)
          clear hok hkC hlo HS2 HGG2 g3 g4
          go_wp2
          go_region_law ((refine step_append_lies _ (by rfl) _ _ _ (by rfl) w.heap.size 130 i0 _ 3 24 Tryz.underlying23 hii hz0 hz1 hz2 (by rfl) (by omega) _ y.n4 (Wf.flat Wf.eC s.classes) (by rfl) (by first | exact (hown1.alloc _).drew | exact hown1.drew.alloc _) _ 1 _ (Wf.eC m) (by rfl) (by rfl) (by first | exact World.news_of_block (heap_alloc_new w4 _) | exact World.news_of_block (heap_alloc_new w4.drew _)) (Wf.one_C m) (by omega) (by unfold maxLen; omega) (by omega) (by simp; omega) (w4.heap.size + 1) (by simp) ?_; intro g cap1 w5 hown hgrow hat hlt3; have e1 : w5.cell? ⟨q, 4, none⟩ = some (.slice y.a4 y.n4 y.c4) := (hgrow.cell_far ⟨q, 4, none⟩ (by simp; omega) hpne).trans (by first | exact (Wf.cell_old w4 _ tlt).trans c1 | exact (Wf.cell_old w4.drew _ tlt).trans c1); have ef : w5.frozen? ⟨q, 4, none⟩ = false := (hgrow.frozen_far ⟨q, 4, none⟩ (by simp; omega) hpne).trans (by first | exact (Wf.frozen_old w4 _ tlt).trans f1 | exact (Wf.frozen_old w4.drew _ tlt).trans f1)))
          all_goals
            have hgrow' : (w4.alloc (.cells #[.int .i64 m.1, .int .i64 m.2.1, .int .i64 m.2.2] 130)).drew.grownBy w5 (Value.slice y.a4 y.n4 y.c4).ownBlock := hgrow
            have HRF := hide (SmI.addC m HR2.out hgrow' hown)
            clear hgrow hgrow' hown hat
            go_wp2
            first
              | exact ⟨⟨k + 1, _, _, by go_num, by omega, HG3, HRF⟩, by simp [intOf]; omega⟩
              | (go_roundw
                 case rel => (repeat apply Exists.intro); exact ⟨⟨k + 1, _, _, by go_num, by omega, HG3, HRF⟩, rfl⟩
                 case measure => simp [intOf]; omega)
              | trace_state
        · have HG3 := hide (HGG2.out.up (ci' := k + 1) (ji' := 0) (si' := 0) (Nat.le_succ k) (Nat.le_refl _) (Nat.le_refl _))
          go_wp2
          first
            | exact ⟨⟨k + 1, _, _, by go_num, by omega, HG3, HS2⟩, by simp [intOf]; omega⟩
            | (go_roundw
               case rel => (repeat apply Exists.intro); exact ⟨⟨k + 1, _, _, by go_num, by omega, HG3, HS2⟩, rfl⟩
               case measure => simp [intOf]; omega)
            | trace_state
      · have hd : decide (k < nc ∧ k < 8) = false := decide_eq_false hx
        rw [hd]
        clear hx hd
        have HG1 := hide (HGG2.out.up (ci' := 8) (ji' := 0) (si' := 0) (by omega) (Nat.le_refl _) (Nat.le_refl _))
        have HS1 := HS2
        clear HGG2 HS2 hk hk0
        go_wp2
        go_loopw [12] (fun i wr => ∃ (k : Nat) (y : Wf.Sv) (s : Wf.Sp), i = .int .i64 k ∧ k ≤ 8 ∧ Hid (SmG mg 8 k 0 s) ∧ Hid (SmI w r q y s wr)) (fun i _ => 8 - (intOf i).toNat)
        case atStart => exact ⟨0, _, _, rfl, by omega, HG1, HS1⟩
        case round =>
          obtain ⟨k, y, s, rfl, hk, HGG2, HS2⟩ := hrel
          clear HG1 HS1
          have hk0 : (0 : Int) ≤ (k : Int) := by omega
          go_upto_region 9 with fail
          go_cut [55] from 48 to 73 (fun bv wx => bv = .bool (decide (k < nj ∧ k < 8)) ∧ wx = wr)
          case first =>
            by_cases h1 : k < nj
            · have g1 : (k : Int) < (nj : Int) := by omega
              by_cases h2 : k < 8
              · have g2 : (k : Int) < 8 := by omega
                go_wp2
                go_meet
                case rel => exact ⟨by simp [h1, h2], rfl⟩
              · have g2 : ¬ (k : Int) < 8 := by omega
                go_wp2
                go_meet
                case rel => exact ⟨by simp [h1, h2], rfl⟩
            · have g1 : ¬ (k : Int) < (nj : Int) := by omega
              go_wp2
              go_meet
              case rel => exact ⟨by simp [h1], rfl⟩
          case rest =>
            obtain ⟨rfl, hwc⟩ := hcut
            obtain rfl := hwc.symm
            clear hwc
            by_cases hx : k < nj ∧ k < 8
            · have hd : decide (k < nj ∧ k < 8) = true := decide_eq_true hx
              rw [hd]
              have g1 : (k : Int) < (nj : Int) := by omega
              have g3 : (k : Int) + 1 ≤ (cj : Int) := by omega
              have g4 : (k : Int) ≤ (k : Int) + 1 := by omega
              have hk8 : k < 8 := hx.2
              have hCW := HJ.out.kept HS2.out.bel
              rcases hCW.2 with h0 | ⟨b, off, rfl, hbl, hc⟩
              · omega
              have HC1 := hide (rdJ_one hCW hx.1)
              have HKR := hide (Wf.Bq.rright8_any (c1 := 0) (c2 := cj - k) (⟨rfl, Or.inl rfl⟩ : Wf.Bq.RdC wr none 0 []) HC1.out (by omega) (by omega))
              have HLT := hide hx.1
              clear hc hCW hx hd
              go_wp2_with fail
              refine (unhide HKR).mono ?_
              rintro e w4 ⟨hP, hb⟩
              replace HS2 := hide (HS2.out.low hb)
              have hCW := HJ.out.kept HS2.out.bel
              rcases hCW.2 with h0 | ⟨b', off', ha, hbl', hc⟩
              · omega
              simp only [Option.some.injEq, Addr.mk.injEq, and_true] at ha
              obtain ⟨rfl, rfl⟩ := ha
              obtain ⟨k0, k1⟩ := hc k HLT.out
              clear hc hCW hb HKR HC1
              rcases hP with ⟨rfl, hok⟩ | ⟨rfl, -⟩
              · have hkC : Wf.Bq.kJ (Wf.Bq.gJ J k) := hok.2 _ (by simp)
                generalize Wf.Bq.gJ J k = m at *
                have HG3 := hide (HGG2.out.addJ m hkC)
                have hn5 : y.n5 ≤ 8 := by have h1 := HGG2.out.jn; have h2 := HS2.out.rows.m5.len; omega
                obtain ⟨i0, hii, hz0, hz1, hz2⟩ := info_parts Wf.info_J
                have c1 : w4.cell? ⟨q, 5, none⟩ = some (.slice y.a5 y.n5 y.c5) := HS2.out.cell 5
                have f1 := HS2.out.free 5
                have tlt := HS2.out.ltq
                have hown1 := HS2.out.rows.m5.own
                have hs0 : w.heap.size ≤ w4.heap.size := HS2.out.bel.size
                have hpne : some q ≠ (Value.slice y.a5 y.n5 y.c5).ownBlock := HS2.out.hres hown1 (by decide) (Or.inr rfl)
                have hlo := Wf.low_alloc w4 (.cells #[.int .i64 m.1, .int .i64 m.2] 95)
                have HR2 := hide ((HS2.out.low hlo).low below_drw)
                clear hok hkC hlo HS2 HGG2 g3 g4
                go_wp2
                go_region_law ((refine step_append_lies _ (by rfl) _ _ _ (by rfl) w.heap.size 95 i0 _ 2 16 Tryz.underlying24 hii hz0 hz1 hz2 (by rfl) (by omega) _ y.n5 (Wf.flat Wf.eM s.joins) (by rfl) (by first | exact (hown1.alloc _).drew | exact hown1.drew.alloc _) _ 1 _ (Wf.eM m) (by rfl) (by rfl) (by first | exact World.news_of_block (heap_alloc_new w4 _) | exact World.news_of_block (heap_alloc_new w4.drew _)) (Wf.one_M m) (by omega) (by unfold maxLen; omega) (by omega) (by simp; omega) (w4.heap.size + 1) (by simp) ?_; intro g cap1 w5 hown hgrow hat hlt3; have e1 : w5.cell? ⟨q, 5, none⟩ = some (.slice y.a5 y.n5 y.c5) := (hgrow.cell_far ⟨q, 5, none⟩ (by simp; omega) hpne).trans (by first | exact (Wf.cell_old w4 _ tlt).trans c1 | exact (Wf.cell_old w4.drew _ tlt).trans c1); have ef : w5.frozen? ⟨q, 5, none⟩ = false := (hgrow.frozen_far ⟨q, 5, none⟩ (by simp; omega) hpne).trans (by first | exact (Wf.frozen_old w4 _ tlt).trans f1 | exact (Wf.frozen_old w4.drew _ tlt).trans f1)))
                all_goals
                  have hgrow' : (w4.alloc (.cells #[.int .i64 m.1, .int .i64 m.2] 95)).drew.grownBy w5 (Value.slice y.a5 y.n5 y.c5).ownBlock := hgrow
                  have HRF := hide (SmI.addJ m HR2.out hgrow' hown)
                  clear hgrow hgrow' hown hat
                  go_wp2
                  first
                    | exact ⟨⟨k + 1, _, _, by go_num, by omega, HG3, HRF⟩, by simp [intOf]; omega⟩
                    | (go_roundw
                       case rel => (repeat apply Exists.intro); exact ⟨⟨k + 1, _, _, by go_num, by omega, HG3, HRF⟩, rfl⟩
                       case measure => simp [intOf]; omega)
                    | trace_state
              · have HG3 := hide (HGG2.out.up (ci' := 8) (ji' := k + 1) (si' := 0) (Nat.le_refl _) (Nat.le_succ k) (Nat.le_refl _))
                go_wp2
                first
                  | exact ⟨⟨k + 1, _, _, by go_num, by omega, HG3, HS2⟩, by simp [intOf]; omega⟩
                  | (go_roundw
                     case rel => (repeat apply Exists.intro); exact ⟨⟨k + 1, _, _, by go_num, by omega, HG3, HS2⟩, rfl⟩
                     case measure => simp [intOf]; omega)
                  | trace_state
            · have hd : decide (k < nj ∧ k < 8) = false := decide_eq_false hx
              rw [hd]
              clear hx hd
              have HG1 := hide (HGG2.out.up (ci' := 8) (ji' := 8) (si' := 0) (Nat.le_refl _) (by omega) (Nat.le_refl _))
              have HS1 := HS2
              clear HGG2 HS2 hk hk0
              go_wp2
              go_loopw [13] (fun i wr => ∃ (k : Nat) (y : Wf.Sv) (s : Wf.Sp), i = .int .i64 k ∧ k ≤ 6 ∧ Hid (SmG mg 8 8 k s) ∧ Hid (SmI w r q y s wr)) (fun i _ => 6 - (intOf i).toNat)
              case atStart => exact ⟨0, _, _, rfl, by omega, HG1, HS1⟩
              case round =>
                obtain ⟨k, y, s, rfl, hk, HGG2, HS2⟩ := hrel
                clear HG1 HS1
                have hk0 : (0 : Int) ≤ (k : Int) := by omega
                go_upto_region 14 with fail
                go_cut [81] from 74 to 106 (fun bv wx => bv = .bool (decide (k < nx ∧ k < 6)) ∧ wx = wr)
                case first =>
                  by_cases h1 : k < nx
                  · have g1 : (k : Int) < (nx : Int) := by omega
                    by_cases h2 : k < 6
                    · have g2 : (k : Int) < 6 := by omega
                      go_wp2
                      go_meet
                      case rel => exact ⟨by simp [h1, h2], rfl⟩
                    · have g2 : ¬ (k : Int) < 6 := by omega
                      go_wp2
                      go_meet
                      case rel => exact ⟨by simp [h1, h2], rfl⟩
                  · have g1 : ¬ (k : Int) < (nx : Int) := by omega
                    go_wp2
                    go_meet
                    case rel => exact ⟨by simp [h1], rfl⟩
                case rest =>
                  obtain ⟨rfl, hwc⟩ := hcut
                  obtain rfl := hwc.symm
                  clear hwc
                  by_cases hx : k < nx ∧ k < 6
                  · have hd : decide (k < nx ∧ k < 6) = true := decide_eq_true hx
                    rw [hd]
                    have g1 : (k : Int) < (nx : Int) := by omega
                    have hk8 : k < 6 := hx.2
                    have hw1 : IntKind.i64.wrap (1000 + (k : Int)) = 1000 + k := by rw [IntKind.wrap_i64]; omega
                    have hXW := HX.out.kept HS2.out.bel
                    rcases hXW.2 with h0 | ⟨bx, ox, rfl, hbl, hc⟩
                    · omega
                    have kx := (hc k hx.1).2
                    generalize (Mk.gS X k).2 = txt at *
                    have c3 : wr.cell? ⟨q, 3, none⟩ = some (.slice y.a3 y.n3 y.c3) := HS2.out.cell 3
                    have hqlt := HS2.out.ltq
                    have HWSZ := hide HS2.out.bel.size
                    have hbl2 := World.block_lt_of_cell? wr _ kx
                    have HRD := hide HS2.out.rows.spec.ss
                    have hn3 : y.n3 ≤ 6 := by have h1 := HGG2.out.sn; have h2 := HS2.out.rows.m3.len; omega
                    have b1 := Wf.low_alloc wr (.cells #[] 79)
                    have b2 := below_tr b1 b1.size (Wf.low_alloc (wr.alloc (.cells #[] 79)) (.cells #[.int .i64 (1000 + k), .string txt] 79))
                    have b3' := Wf.low_alloc wr (.cells #[.int .i64 (1000 + k), .string txt] 79)
                    have b3 := below_tr b3' b3'.size (Wf.low_alloc (wr.alloc (.cells #[.int .i64 (1000 + k), .string txt] 79)) (.cells #[] 79))
                    have HB1 : Hid (Below wr.heap.size wr (wr.alloc (.cells #[] 79)).drew) := hide (below_tr b1 b1.size below_drw)
                    have HB2 : Hid (Below wr.heap.size wr ((wr.alloc (.cells #[] 79)).alloc (.cells #[.int .i64 (1000 + k), .string txt] 79)).drew) := hide (below_tr b2 b2.size below_drw)
                    have HB3 : Hid (Below wr.heap.size wr ((wr.alloc (.cells #[.int .i64 (1000 + k), .string txt] 79)).alloc (.cells #[] 79)).drew) := hide (below_tr b3 b3.size below_drw)
                    clear b1 b2 b3 b3' hc hXW hx hd
                    generalize ha3 : y.a3 = a3 at *
                    generalize hn3e : y.n3 = n3 at *
                    generalize hc3e : y.c3 = c3s at *
                    clear ha3 hn3e hc3e
                    cases a3 with
                    | none =>
                      obtain rfl : n3 = 0 := by
                        rcases HRD.out.2 with h | ⟨_, _, h, _⟩
                        · exact h
                        · cases h
                      have hL0 : s.specials = [] := List.eq_nil_of_length_eq_zero HRD.out.1
                      go_wp2
                      go_region_held3 (fun W => W.cell? ⟨q, 3, none⟩ = some (.slice none 0 c3s) ∧ W.cell? ⟨bx, ox + k * 2 + 1, none⟩ = some (.string txt)) (first | exact d3 | exact ⟨c3, kx⟩ | go_keep) (first
                        | (refine step_appN (by rfl) _ _ (by rfl) (by rfl) _ _ (by rfl) (by rfl) ?_)
                        | (refine step_appS (by rfl) _ _ (by rfl) (by rfl) wr.heap.size _ 0 _ [] (by rfl) (by first | exact ((rowE_new wr wr.heap.size (Nat.le_refl _)).alloc _).drew | exact (rowE_at (wr.alloc _) wr.heap.size _ (by simp) (by simp)).drew) (by first | exact HB2.out.size | exact HB3.out.size) _ 1 _ [(1000 + (k : Int), txt)] (by rfl) (by first | exact rdS_at (wr.alloc (.cells #[] 79)) _ _ _ (by simp) | exact ((rdS_new wr (1000 + k) txt).kept (Wf.low_alloc _ (.cells #[] 79))).kept below_drw) (by omega) (by omega) 1 (by omega) ?_; intro a1 c1 w5 hown hgrow; have hbw : Below wr.heap.size wr w5 := (by first | exact HB2.out.grown hgrow HB2.out.size (fun k hk => by simp [Value.ownBlock] at hk; omega) | exact HB3.out.grown hgrow HB3.out.size (fun k hk => by simp [Value.ownBlock] at hk; omega)); have d3 := And.intro ((hbw.cell hqlt).trans c3) ((hbw.cell hbl2).trans kx)))
                      all_goals
                        have HROW : Hid (Wf.Row wr.heap.size 79 2 Wf.eS a1 1 c1 (s.specials ++ [(1000 + (k : Int), txt)]) w5) := hide ⟨by rw [hL0]; rfl, by rw [hL0]; exact hown⟩
                        have HSM := hide (HS2.out.low hbw)
                        have hrd : Mk.RdS w5 a1 (s.specials ++ [(1000 + (k : Int), txt)]).length (s.specials ++ [(1000 + (k : Int), txt)]) := row_rd HROW.out
                        have HCK := hide (Mk.rchk_any (cap := c1) hrd (by rw [HROW.out.len]; omega))
                        rw [HROW.out.len] at HCK
                        have hs5 := hbw.size
                        clear hown hgrow hbw d3 hrd HS2 HRD HB1 HB2 HB3 kx c3 hqlt hbl2
                        go_wp2_with fail
                        refine (unhide HCK).mono ?_
                        rintro e w6 ⟨⟨kk, er, rfl, hck⟩, hb⟩
                        replace HSM := hide (HSM.out.low hb)
                        replace HROW := hide (HROW.out.low hb)
                        have hsz6 := hb.size
                        clear hb HCK
                        by_cases her : er = 0
                        · subst her
                          have HG3 := hide (HGG2.out.setS rfl (by omega) hck)
                          have hwsz : w.heap.size ≤ wr.heap.size := HWSZ.out
                          have HRF := hide (HSM.out.setS (HROW.out.mono hwsz))
                          have d3 := HSM.out.cell 3
                          have g3 := HSM.out.free 3
                          clear hck HSM HROW hwsz
                          go_wp2
                          first
                            | exact ⟨⟨k + 1, _, _, by go_num, by omega, HG3, HRF⟩, by simp [intOf]; omega⟩
                            | (go_roundw
                               case rel => (repeat apply Exists.intro); exact ⟨⟨k + 1, _, _, by go_num, by omega, HG3, HRF⟩, rfl⟩
                               case measure => simp [intOf]; omega)
                            | trace_state
                        · have HG3 := hide (HGG2.out.up (ci' := 8) (ji' := 8) (si' := k + 1) (Nat.le_refl _) (Nat.le_refl _) (Nat.le_succ k))
                          have heb : (er == 0) = false := by simpa using her
                          clear hck HROW her
                          go_wp2
                          first
                            | exact ⟨⟨k + 1, _, _, by go_num, by omega, HG3, HSM⟩, by simp [intOf]; omega⟩
                            | (go_roundw
                               case rel => (repeat apply Exists.intro); exact ⟨⟨k + 1, _, _, by go_num, by omega, HG3, HSM⟩, rfl⟩
                               case measure => simp [intOf]; omega)
                            | trace_state
                    | some a =>
                      go_wp2
                      go_region_held3 (fun W => W.cell? ⟨q, 3, none⟩ = some (.slice (some a) n3 c3s) ∧ W.cell? ⟨bx, ox + k * 2 + 1, none⟩ = some (.string txt)) (first | exact d3 | exact ⟨c3, kx⟩ | go_keep) (first
                        | (refine step_appS (by rfl) _ _ (by rfl) (by rfl) wr.heap.size _ n3 _ ([] ++ s.specials) (by rfl) (by first | exact HO1.out | exact HO1.out.alloc _) (by first | exact HS1z.out | (have := HS1z.out; simp; omega)) _ 1 _ [(1000 + (k : Int), txt)] (by rfl) (by first | exact rdS_new _ _ _ | exact rdS_grown (by first | exact rdS_at (wr.alloc (.cells #[] 79)) _ _ _ (by simp) | exact ((rdS_new wr (1000 + k) txt).kept (Wf.low_alloc _ (.cells #[] 79))).kept below_drw) HG1.out (by first | (simp [Value.ownBlock]; done) | (simp [Value.ownBlock]; omega)) (by first | (simp; done) | (simp; omega))) (by omega) (by omega) (n3 + 1) rfl ?_; intro a1 c1 w5 hown hgrow; have hbw : Below wr.heap.size wr w5 := (by first | exact HBW.out.grown hgrow HBW.out.size (fun j hj => (HO1.out.lt j hj).1) | exact (below_tr HBW.out HBW.out.size (Wf.low_alloc _ _)).grown hgrow (below_tr HBW.out HBW.out.size (Wf.low_alloc _ _)).size (fun j hj => (HO1.out.lt j hj).1)); have d3 := And.intro ((hbw.cell hqlt).trans c3) ((hbw.cell hbl2).trans kx))
                        | (refine step_appS (by rfl) _ _ (by rfl) (by rfl) wr.heap.size _ 0 _ [] (by rfl) (by first | exact (rowE_new wr wr.heap.size (Nat.le_refl _)).drew | exact ((rowE_new wr wr.heap.size (Nat.le_refl _)).alloc _).drew | exact (rowE_at (wr.alloc _) wr.heap.size _ (by simp) (by simp)).drew) (by first | exact HB1.out.size | exact HB2.out.size | exact HB3.out.size) _ n3 _ s.specials (by rfl) (by first | exact HRD.out.kept HB1.out | exact HRD.out.kept HB2.out | exact HRD.out.kept HB3.out) (by omega) (by omega) n3 (by omega) ?_; intro a0 c0 w5 hown hgrow; have hbw : Below wr.heap.size wr w5 := (by first | exact HB1.out.grown hgrow HB1.out.size (fun k hk => by simp [Value.ownBlock] at hk; omega) | exact HB2.out.grown hgrow HB2.out.size (fun k hk => by simp [Value.ownBlock] at hk; omega) | exact HB3.out.grown hgrow HB3.out.size (fun k hk => by simp [Value.ownBlock] at hk; omega)); have d3 := And.intro ((hbw.cell hqlt).trans c3) ((hbw.cell hbl2).trans kx); have HO1 := hide hown; have HG1 := hide hgrow; have HBW := hide hbw; have HS1z := hide hbw.size; clear hown hgrow hbw))
                      all_goals
                        have HROW : Hid (Wf.Row wr.heap.size 79 2 Wf.eS a1 (n3 + 1) c1 (s.specials ++ [(1000 + (k : Int), txt)]) w5) := hide ⟨by rw [List.length_append, HRD.out.1]; rfl, hown⟩
                        have HSM := hide (HS2.out.low hbw)
                        have hrd : Mk.RdS w5 a1 (s.specials ++ [(1000 + (k : Int), txt)]).length (s.specials ++ [(1000 + (k : Int), txt)]) := row_rd HROW.out
                        have HCK := hide (Mk.rchk_any (cap := c1) hrd (by rw [HROW.out.len]; omega))
                        rw [HROW.out.len] at HCK
                        have hs5 := hbw.size
                        clear hown hgrow hbw d3 HO1 HG1 HBW HS1z hrd HS2 HRD HB1 HB2 HB3 kx c3 hqlt hbl2
                        go_wp2_with fail
                        refine (unhide HCK).mono ?_
                        rintro e w6 ⟨⟨kk, er, rfl, hck⟩, hb⟩
                        replace HSM := hide (HSM.out.low hb)
                        replace HROW := hide (HROW.out.low hb)
                        have hsz6 := hb.size
                        clear hb HCK
                        by_cases her : er = 0
                        · subst her
                          have HG3 := hide (HGG2.out.setS rfl (by omega) hck)
                          have hwsz : w.heap.size ≤ wr.heap.size := HWSZ.out
                          have HRF := hide (HSM.out.setS (HROW.out.mono hwsz))
                          have d3 := HSM.out.cell 3
                          have g3 := HSM.out.free 3
                          clear hck HSM HROW hwsz
                          go_wp2
                          first
                            | exact ⟨⟨k + 1, _, _, by go_num, by omega, HG3, HRF⟩, by simp [intOf]; omega⟩
                            | (go_roundw
                               case rel => (repeat apply Exists.intro); exact ⟨⟨k + 1, _, _, by go_num, by omega, HG3, HRF⟩, rfl⟩
                               case measure => simp [intOf]; omega)
                            | trace_state
                        · have HG3 := hide (HGG2.out.up (ci' := 8) (ji' := 8) (si' := k + 1) (Nat.le_refl _) (Nat.le_refl _) (Nat.le_succ k))
                          have heb : (er == 0) = false := by simpa using her
                          clear hck HROW her
                          go_wp2
                          first
                            | exact ⟨⟨k + 1, _, _, by go_num, by omega, HG3, HSM⟩, by simp [intOf]; omega⟩
                            | (go_roundw
                               case rel => (repeat apply Exists.intro); exact ⟨⟨k + 1, _, _, by go_num, by omega, HG3, HSM⟩, rfl⟩
                               case measure => simp [intOf]; omega)
                            | trace_state
                  · have hd : decide (k < nx ∧ k < 6) = false := decide_eq_false hx
                    rw [hd]
                    clear hx hd
                    have HGF := hide (HGG2.out.up (ci' := 8) (ji' := 8) (si' := 6) (Nat.le_refl _) (Nat.le_refl _) (by omega))
                    have HP := hide (Wf.put_spec (r := y.r) (b1 := y.a1) (b2 := y.a2) (b3 := y.a3) (b4 := y.a4) (b5 := y.a5) (n1 := y.n1) (e1 := y.c1) (n2 := y.n2) (e2 := y.c2) (n3 := y.n3) (e3 := y.c3) (n4 := y.n4) (e4 := y.c4) (n5 := y.n5) (e5 := y.c5) HS2.out.rows HS2.out.bel HS2.out.res HS2.out.hr)
                    have x0 : wr.cell? ⟨q, 0, none⟩ = some (.bool y.r) := HS2.out.cell 0
                    have x1 : wr.cell? ⟨q, 1, none⟩ = some (.slice y.a1 y.n1 y.c1) := HS2.out.cell 1
                    have x2 : wr.cell? ⟨q, 2, none⟩ = some (.slice y.a2 y.n2 y.c2) := HS2.out.cell 2
                    have x3 : wr.cell? ⟨q, 3, none⟩ = some (.slice y.a3 y.n3 y.c3) := HS2.out.cell 3
                    have x4 : wr.cell? ⟨q, 4, none⟩ = some (.slice y.a4 y.n4 y.c4) := HS2.out.cell 4
                    have x5 : wr.cell? ⟨q, 5, none⟩ = some (.slice y.a5 y.n5 y.c5) := HS2.out.cell 5
                    have z0 : wr.cell? ⟨r, 0, none⟩ = some (.bool false) := Lib.cell_of_heap HS2.out.res 0
                    have z1 : wr.cell? ⟨r, 1, none⟩ = some (.slice none 0 0) := Lib.cell_of_heap HS2.out.res 1
                    have z2 : wr.cell? ⟨r, 2, none⟩ = some (.slice none 0 0) := Lib.cell_of_heap HS2.out.res 2
                    have z3 : wr.cell? ⟨r, 3, none⟩ = some (.slice none 0 0) := Lib.cell_of_heap HS2.out.res 3
                    have z4 : wr.cell? ⟨r, 4, none⟩ = some (.slice none 0 0) := Lib.cell_of_heap HS2.out.res 4
                    have z5 : wr.cell? ⟨r, 5, none⟩ = some (.slice none 0 0) := Lib.cell_of_heap HS2.out.res 5
                    have f0 := Lib.frozen_of_heap HS2.out.res 0
                    have f1 := Lib.frozen_of_heap HS2.out.res 1
                    have f2 := Lib.frozen_of_heap HS2.out.res 2
                    have f3 := Lib.frozen_of_heap HS2.out.res 3
                    have f4 := Lib.frozen_of_heap HS2.out.res 4
                    have f5 := Lib.frozen_of_heap HS2.out.res 5
                    clear HGG2 HS2 hk hk0
                    obtain ⟨yr, ya1, yn1, yc1, ya2, yn2, yc2, ya3, yn3, yc3, ya4, yn4, yc4, ya5, yn5, yc5⟩ := y
                    simp only at x0 x1 x2 x3 x4 x5
                    go_wp2
                    obtain ⟨HR6, HB6, HZ6⟩ := HP.out
                    have g0 := Lib.cell_of_heap HZ6 0
                    have g1 := Lib.cell_of_heap HZ6 1
                    have g2 := Lib.cell_of_heap HZ6 2
                    have g3 := Lib.cell_of_heap HZ6 3
                    have g4 := Lib.cell_of_heap HZ6 4
                    have g5 := Lib.cell_of_heap HZ6 5
                    generalize ((((((wr.setCell ⟨r, 0, none⟩ (.bool yr)).setCell ⟨r, 1, none⟩ (.slice ya1 yn1 yc1)).setCell ⟨r, 2, none⟩ (.slice ya2 yn2 yc2)).setCell ⟨r, 3, none⟩ (.slice ya3 yn3 yc3)).setCell ⟨r, 4, none⟩ (.slice ya4 yn4 yc4)).setCell ⟨r, 5, none⟩ (.slice ya5 yn5 yc5)) = W6 at *
                    (try simp only [Exit.inBlock, Exit.then])
                    refine bodyPost_ret (v := .agg #[.bool yr, .slice ya1 yn1 yc1, .slice ya2 yn2 yc2, .slice ya3 yn3 yc3, .slice ya4 yn4 yc4, .slice ya5 yn5 yc5]) (by simp [results, Tryz.results36, go_sem, g0, g1, g2, g3, g4, g5]) rfl ?_
                    exact ⟨⟨⟨yr, ya1, yn1, yc1, ya2, yn2, yc2, ya3, yn3, yc3, ya4, yn4, yc4, ya5, yn5, yc5⟩, s, tx, mg, rfl, HRC.out, HGF.out, HR6⟩, HB6⟩
end Go.Proofs.YtdpmjaelbjjanaaGreat

namespace Go.Proofs.YtdpmjaelbjjanaaGreat
open Go.RowKit Go.Maps
set_option linter.unusedVariables false
set_option linter.unusedSimpArgs false

theorem ldC_rch {s : Wf.Sp} {tx : List ByteArray} {mg : List (Int × Int)} (hk : s.ranked = false) (hm : s.merges = mg) (hR : Rch tx mg) : okT s ∧ txT s = tx ∧ mgT s = mg ∧ nT s = mg.length := by
  have hn : nT s = mg.length := by unfold nT ldN gsp; simp [hk, hm]
  have hs : ldS (gsp s) (nT s) = (tx, mg) := by
    rw [hn]
    unfold ldS gsp
    simp only [hk, hm, Bool.false_eq_true, if_false]
    exact hR.st
  refine ⟨fun j hj => ?_, by unfold txT; rw [hs], by unfold mgT; rw [hs], hn⟩
  rw [hn] at hj
  unfold ldC gsp
  simp only [hk, hm, Bool.false_eq_true, if_false]
  exact hR.ok j hj
theorem merge_ok {tx : List ByteArray} {m : Int × Int} (h : addC tx m = 0) (hl : tx.length ≤ 1000) : Wf.okM m = true := by
  unfold addC at h
  split at h
  · cases h
  · simp only [Wf.okM, decide_eq_true_eq]
    omega
theorem smg_right {s : Wf.Sp} {tx : List ByteArray} {mg : List (Int × Int)} (h : SmG mg 8 8 6 s) (hR : Rch tx mg) : s.Right := by
  have h1 := hR.tok.len
  have h2 := hR.tok.cap
  have hsn := h.sn
  have hcn := h.cn
  have hjn := h.jn
  refine ⟨by rw [h.ms, h.rk]; unfold Wf.roomM; simp; omega, fun x hx => ?_, by rw [h.ts]; simp, fun x hx => by rw [h.ts] at hx; (cases hx), by omega, fun x hx => ?_, by omega, fun x hx => ?_, by omega, fun x hx => ?_⟩
  · rw [h.ms] at hx
    obtain ⟨i, hi, rfl⟩ := List.getElem_of_mem hx
    have hc := hR.ok i hi
    have hg : gm mg i = mg[i] := by simp [gm, List.getD_eq_getElem?_getD, List.getElem?_eq_getElem hi]
    rw [hg] at hc
    exact merge_ok hc (stT_tok mg i).cap
  · obtain ⟨i, hi, rfl⟩ := List.getElem_of_mem hx
    have hc := (h.ss.1 i hi).1
    have hg : Mk.gS s.specials i = s.specials[i] := by simp [Mk.gS, List.getD_eq_getElem?_getD, List.getElem?_eq_getElem hi]
    rw [hg] at hc
    obtain ⟨a, b, c, d⟩ := hc
    simp only [Wf.okS, decide_eq_true_eq]
    exact ⟨by omega, by omega, by omega, by omega⟩
  · have := h.cs x hx
    simpa [Wf.okC, Wf.Bq.kC] using this
  · have := h.js x hx
    simpa [Wf.okJ, Wf.Bq.kJ] using this
theorem smg_ok {s : Wf.Sp} {tx : List ByteArray} {mg : List (Int × Int)} (h : SmG mg 8 8 6 s) (hR : Rch tx mg) : VOk s := by
  obtain ⟨h1, h2, h3, h4⟩ := ldC_rch h.rk h.ms hR
  refine ⟨h1, h.ss, fun j hj => ?_⟩
  have h5 := h.si j hj
  have h6 := hR.tok.cap
  rw [h2]
  omega
end Go.Proofs.YtdpmjaelbjjanaaGreat

namespace Go.Proofs.YtdpmjaelbjjanaaGreat
open Go.RowKit Go.Maps
set_option linter.unusedVariables false
set_option linter.unusedSimpArgs false
attribute [local go_sem ↓] Go.wp_at_zero Go.wp_at_succ

/-- Too great, or not. -/
def G10 (nu nc nj : Nat) (X : List (Int × ByteArray)) (e : Ending) : Prop := ∃ b, e = .returned (.bool b) ∧ (b = false → nu ≤ 60 ∧ nc ≤ 20 ∧ nj ≤ 20 ∧ Mk.fewS X)

set_option maxRecDepth 20000 in
set_option maxHeartbeats 4000000 in
theorem rgreat10_any (au : Option Addr) (nu cu : Nat) (ac : Option Addr) (nc cc : Nat) (aj : Option Addr) (nj cj : Nat) (ax : Option Addr) (nx cx : Nat) (X : List (Int × ByteArray)) (w : World) (hX : Mk.RdS w ax nx X) (hn : nx ≤ 9223372036854775807) :
    Calls Tryz.prog 32 #[.slice au nu cu, .slice ac nc cc, .slice aj nj cj, .slice ax nx cx] w fun e w' => G10 nu nc nj X e ∧ Below w.heap.size w w' := by
  have HK := hide (Mk.great_any (cap := cx) hX hn)
  clear hX hn
  by_cases h1 : 60 < nu
  · have g1 : (60 : Int) < (nu : Int) := by omega
    go_enter Tryz.func32, Tryz.ntmps32
    go_wp2
    go_ret
    exact ⟨⟨true, rfl, fun h => by cases h⟩, Below.refl _ _⟩
  have g1 : ¬ (60 : Int) < (nu : Int) := by omega
  by_cases h2 : 20 < nc
  · have g2 : (20 : Int) < (nc : Int) := by omega
    go_enter Tryz.func32, Tryz.ntmps32
    go_wp2
    go_ret
    exact ⟨⟨true, rfl, fun h => by cases h⟩, Below.refl _ _⟩
  have g2 : ¬ (20 : Int) < (nc : Int) := by omega
  by_cases h3 : 20 < nj
  · have g3 : (20 : Int) < (nj : Int) := by omega
    go_enter Tryz.func32, Tryz.ntmps32
    go_wp2
    go_ret
    exact ⟨⟨true, rfl, fun h => by cases h⟩, Below.refl _ _⟩
  have g3 : ¬ (20 : Int) < (nj : Int) := by omega
  have HF := hide (And.intro h1 (And.intro h2 h3))
  clear h1 h2 h3
  go_enter Tryz.func32, Tryz.ntmps32
  go_wp2_with fail
  refine (unhide HK).mono ?_
  rintro e w2 ⟨⟨b, rfl, hb⟩, hw⟩
  have HB := hide hb
  have HW := hide hw
  clear hb hw HK
  go_wp2
  go_ret
  exact ⟨⟨b, rfl, fun h => ⟨by have := HF.out.1; omega, by have := HF.out.2.1; omega, by have := HF.out.2.2; omega, HB.out h⟩⟩, HW.out⟩
end Go.Proofs.YtdpmjaelbjjanaaGreat
