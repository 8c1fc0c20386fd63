/- A token's bytes are entered in a trie. -/
import Derived.Test.YtadbffphmmkljaaTrB
namespace Go.Proofs.Ytadbffphmmkljaa
open Go.RowKit Go.Maps
set_option linter.unusedVariables false
set_option linter.unusedSimpArgs false

theorem undT_un {S : List (List UInt8)} {y : Option (List UInt8)} {t : List UInt8} (h : ¬ ndT S y t) : undT S y t = 0 ∧ idT S t = none := by
  refine ⟨?_, ?_⟩
  · unfold undT
    rw [if_neg (fun ⟨x, e, hp⟩ => h (Or.inr (Or.inr ⟨x, e, hp⟩)))]
    rw [Nat.add_zero, List.countP_eq_zero]
    intro s hs hp
    exact h (Or.inr (Or.inl ⟨s, hs, List.isPrefixOf_iff_prefix.1 hp⟩))
  · cases e : idT S t with
    | none => rfl
    | some k => exact absurd (Or.inr (Or.inl ⟨t, List.mem_of_getElem? (idT_some e), List.prefix_refl _⟩)) h
theorem undT_le (S : List (List UInt8)) (y : Option (List UInt8)) (t : List UInt8) : undT S y t ≤ S.length + 1 := by
  have := List.countP_le_length (p := fun s => t.isPrefixOf s) (l := S)
  unfold undT
  split <;> omega
/-- Where it stands: i bytes are entered, at block b. -/
structure EnI (w : World) (B r : Nat) (S : List (List UInt8)) (X : List UInt8) (N C i b : Nat) (bk mp : List UInt8 → Option Nat) (W : World) : Prop where
  ts : TS B r bk mp (undT S (some (X.take i))) (idT S) (N + i) (C + frT S X i) W
  nd : ∀ t, bk t ≠ none ↔ ndT S (some (X.take i)) t
  at' : bk (X.take i) = some b
  bel : Below B w W
/-- What comes of it. -/
def EnP (w : World) (B r : Nat) (S : List (List UInt8)) (N C : Nat) (W : World) : Prop :=
  ∃ bk mp, TS B r bk mp (undT S none) (idT S) N C W ∧ (∀ t, bk t ≠ none ↔ ndT S none t) ∧ Below B w W
section
variable {w W W' : World} {B r : Nat} {S : List (List UInt8)} {X : List UInt8} {N C i b : Nat} {bk mp : List UInt8 → Option Nat}
theorem EnI.first (h : TS B r bk mp (undT S none) (idT S) N C w) (hnd : ∀ t, bk t ≠ none ↔ ndT S none t) : EnI w B r S X N C 0 r bk mp (w.setCell ⟨r, 0, none⟩ (.int .i64 ((undT S none [] + 1 : Nat) : Int))) := by
  have hlow := h.low [] r (Or.inl h.root)
  refine ⟨(h.under h.root (undT S none [] + 1)).congr (fun t _ => ?_) (fun _ _ => rfl) (by omega), fun t => by rw [hnd t, List.take_zero, ndT_first], by rw [List.take_zero]; exact h.root, ⟨rfl, rfl, rfl, by simp, fun k hk => set_other w r 0 _ (by omega)⟩⟩
  rw [List.take_zero, undT_first]
  by_cases e : t = []
  · subst e; simp
  · rw [if_neg e, if_neg e]
theorem EnI.last (h : EnI w B r S X N C X.length b bk mp W) (hx : X ∉ S) : EnP w B r (S ++ [X]) (N + X.length) (C + frT S X X.length) ((W.setCell ⟨b, 1, none⟩ (.int .i64 (S.length : Int))).setCell ⟨b, 2, none⟩ (.bool true)) := by
  have hb := h.at'
  have hlow := h.ts.low _ b (Or.inl hb)
  refine ⟨bk, mp, (h.ts.ends hb S.length).congr (fun t _ => ?_) (fun t _ => ?_) (Nat.le_refl _), fun t => ?_, h.bel.trans ⟨rfl, rfl, rfl, by simp, fun k hk => (set_other _ b 2 _ (by omega)).trans (set_other W b 1 _ (by omega))⟩⟩
  · rw [List.take_length, undT_last]
  · rw [idT_last hx, List.take_length]
  · rw [h.nd t, List.take_length, ndT_last]
/-- One byte more. -/
theorem EnI.step (h : EnI w B r S X N C i b bk mp W) (hi : i < X.length) {c : UInt8} (hc : c = X.getD i 0) {bk' mp' : List UInt8 → Option Nat} {b' : Nat} {w2 : World} (hT : TS B r bk' mp' (undT S (some (X.take i))) (idT S) (N + i + 1) (C + frT S X i) w2) (hb' : bk' (X.take i ++ [c]) = some b') (ho : ∀ s, s ≠ X.take i ++ [c] → bk' s = bk s) (hbel : Below B W w2) :
    (bk (X.take i ++ [c]) = none → EnI w B r S X N C (i + 1) b' bk' mp' ((w2.setCell ⟨r, 4, none⟩ (.int .i64 ((C + frT S X i + 1 : Nat) : Int))).setCell ⟨b', 0, none⟩ (.int .i64 ((undT S (some (X.take i)) (X.take i ++ [c]) + 1 : Nat) : Int)))) ∧
    (bk (X.take i ++ [c]) ≠ none → EnI w B r S X N C (i + 1) b' bk' mp' (w2.setCell ⟨b', 0, none⟩ (.int .i64 ((undT S (some (X.take i)) (X.take i ++ [c]) + 1 : Nat) : Int)))) := by
  have hcc : X.take i ++ [c] = X.take (i + 1) := by
    rw [hc, List.getD_eq_getElem?_getD, List.getElem?_eq_getElem hi]
    exact List.take_append_getElem hi
  rw [hcc] at hb' ho ⊢
  have hnd : ∀ t, bk' t ≠ none ↔ ndT S (some (X.take (i + 1))) t := fun t => by
    rw [ndT_next hi]
    by_cases e : t = X.take (i + 1)
    · subst e
      rw [hb']
      simp
    · rw [ho t e, h.nd t]
      simp [e]
  have hU : ∀ t, (if t = X.take (i + 1) then undT S (some (X.take i)) (X.take (i + 1)) + 1 else undT S (some (X.take i)) t) = undT S (some (X.take (i + 1))) t := fun t => by
    rw [undT_next hi]
    by_cases e : t = X.take (i + 1)
    · subst e; simp
    · rw [if_neg e, if_neg e]
  have hany : S.any (fun s => (X.take (i + 1)).isPrefixOf s) = true ↔ bk (X.take (i + 1)) ≠ none := by
    rw [any_pre, h.nd, ndT_at hi]
  have hlow := hT.low _ b' (Or.inl hb')
  have hlr := hT.low [] r (Or.inl hT.root)
  constructor
  · intro hn
    have hf : frT S X (i + 1) = frT S X i + 1 := by
      show frT S X i + (if S.any (fun s => (X.take (i + 1)).isPrefixOf s) then 0 else 1) = _
      rw [if_neg (fun e => (hany.1 e) hn)]
    have h2 := (hT.more (C + frT S X i + 1)).under hb' (undT S (some (X.take i)) (X.take (i + 1)) + 1)
    refine ⟨?_, hnd, hb', (h.bel.trans hbel).trans ⟨rfl, rfl, rfl, by simp, fun k hk => (set_other _ b' 0 _ (by omega)).trans (set_other w2 r 4 _ (by omega))⟩⟩
    rw [hf]
    exact h2.congr (fun t _ => hU t) (fun _ _ => rfl) (by omega)
  · intro hn
    have hf : frT S X (i + 1) = frT S X i := by
      show frT S X i + (if S.any (fun s => (X.take (i + 1)).isPrefixOf s) then 0 else 1) = _
      rw [if_pos (hany.2 hn), Nat.add_zero]
    have h2 := hT.under hb' (undT S (some (X.take i)) (X.take (i + 1)) + 1)
    refine ⟨?_, hnd, hb', (h.bel.trans hbel).trans ⟨rfl, rfl, rfl, by simp, fun k hk => set_other _ b' 0 _ (by omega)⟩⟩
    rw [hf]
    exact h2.congr (fun t _ => hU t) (fun _ _ => rfl) (by omega)
end

set_option maxRecDepth 20000 in
set_option maxHeartbeats 4000000 in
theorem tenter_any {w : World} {B r : Nat} {S : List (List UInt8)} {N C : Nat} (h : EnP w B r S N C w) (hB : B ≤ w.heap.size) (hN : N ≤ 500000) (hC : C ≤ 500000) (hS : S.length ≤ 1000) (x : ByteArray) (hx : x.size ≤ 64) (hxS : x.data.toList ∉ S) :
    Calls Try.prog 25 #[.pointer (some ⟨r, 0, none⟩), .string x, .int .i64 (S.length : Int)] w fun e w' => e = .returned (.tuple #[]) ∧ EnP w B r (S ++ [x.data.toList]) (N + x.size) (C + frT S x.data.toList x.size) w' := by
  obtain ⟨bk0, mp0, hts, hnd, -⟩ := h
  have hX : x.data.toList.length = x.size := by simp
  have c0 := (hts.node [] r hts.root).c0
  have f0 := (hts.node [] r hts.root).fz 0
  have hu := undT_le S none []
  have HI := hide (EnI.first (X := x.data.toList) hts hnd)
  have hw0 : IntKind.i64.wrap ((undT S none [] : Int) + 1) = (undT S none [] : Int) + 1 := by rw [IntKind.wrap_i64]; omega
  rw [show ((undT S none [] + 1 : Nat) : Int) = (undT S none [] : Int) + 1 by omega] at HI
  have HX := hide hX
  clear hts hnd hX
  generalize undT S none [] = u0 at *
  go_enter Try.func25, Try.ntmps25
  go_wp2
  generalize w.setCell ⟨r, 0, none⟩ (.int .i64 ((u0 : Int) + 1)) = w0 at *
  clear c0 f0 hw0 hu
  go_loopw [6, 22] (fun p i wr => ∃ (k b : Nat) (bk mp : List UInt8 → Option Nat), p = .pointer (some ⟨b, 0, none⟩) ∧ i = .int .i64 k ∧ k ≤ x.size ∧ Hid (EnI w B r S x.data.toList N C k b bk mp wr)) (fun _ i _ => x.size - (intOf i).toNat)
  case atStart => exact ⟨0, r, bk0, mp0, rfl, rfl, Nat.zero_le _, HI⟩
  case round =>
    obtain ⟨k, b, bk, mp, rfl, rfl, hk, HE⟩ := hrel
    clear HI
    by_cases hlt : k < x.size
    · have hk0 : (0 : Int) ≤ (k : Int) := by omega
      have hk1 : (k : Int) < (x.size : Int) := by omega
      have HKI : Hid (k < x.data.toList.length) := hide (by rw [HX.out]; exact hlt)
      have HCC : Hid (x[k]'hlt = x.data.toList.getD k 0) := hide (by
        rw [List.getD_eq_getElem?_getD, List.getElem?_eq_getElem HKI.out]
        simp [ByteArray.getElem_eq_getElem_data])
      have HST := hide (tstep_any HE.out.ts (Nat.le_trans hB HE.out.bel.size) (by omega) HE.out.at' (x[k]'hlt) (fun e => undT_un (fun hn => (HE.out.nd _).2 hn e)))
      have HU := hide (undT_le S (some (x.data.toList.take k)) (x.data.toList.take k ++ [x[k]'hlt]))
      have HFR := hide (frT_le S x.data.toList k)
      go_wp2_with fail
      refine (unhide HST).mono ?_
      rintro e w2 ⟨bk', mp', b', rfl, hT, hb', ho, hbel⟩
      have HS := HE.out.step HKI.out HCC.out hT hb' ho hbel
      have hun := HU.out
      have hfr := HFR.out
      have hU0 : undT S (some (x.data.toList.take k)) (x.data.toList.take k ++ [x[k]'hlt]) ≤ 1001 := by omega
      have hC0 : C + frT S x.data.toList k ≤ 500064 := by omega
      have hn := hT.node _ b' hb'
      have c0 := hn.c0
      have f0 := hn.fz 0
      have c4 := hT.cnt
      have f4 := (hT.node [] r hT.root).fz 4
      have hm := ((hT.more (C + frT S x.data.toList k + 1)).node _ b' hb')
      have c0' := hm.c0
      clear HE HST HU HFR hbel ho hT hn hun hfr hm
      generalize C + frT S x.data.toList k = cn at *
      generalize hug : undT S (some (x.data.toList.take k)) (x.data.toList.take k ++ [x[k]'hlt]) = un at *
      have e1 : ((cn + 1 : Nat) : Int) = (cn : Int) + 1 := by omega
      have e2 : ((un + 1 : Nat) : Int) = (un : Int) + 1 := by omega
      have w1 : IntKind.i64.wrap ((cn : Int) + 1) = (cn : Int) + 1 := by rw [IntKind.wrap_i64]; omega
      have w2' : IntKind.i64.wrap ((un : Int) + 1) = (un : Int) + 1 := by rw [IntKind.wrap_i64]; omega
      clear hug
      rw [e1] at c0' HS
      rw [e2] at HS
      cases hfn : bk (x.data.toList.take k ++ [x[k]'hlt]) with
      | none =>
        have HN := hide (HS.1 hfn)
        clear HS e1 e2
        go_wp2
        exact ⟨⟨k + 1, b', bk', mp', rfl, by go_num, by omega, HN⟩, by simp [intOf]; omega⟩
      | some b2 =>
        have HN := hide (HS.2 (by rw [hfn]; simp))
        clear HS e1 e2 c0'
        go_wp2
        exact ⟨⟨k + 1, b', bk', mp', rfl, by go_num, by omega, HN⟩, by simp [intOf]; omega⟩
    · obtain rfl : x.size = k := by omega
      have HE' : Hid (EnI w B r S x.data.toList N C x.data.toList.length b bk mp wr) := hide (by rw [HX.out]; exact HE.out)
      have hn := HE.out.ts.node _ b HE.out.at'
      have c1 := hn.c1
      have c2 := hn.c2
      have f1 := hn.fz 1
      have f2 := hn.fz 2
      have c2' : (wr.setCell ⟨b, 1, none⟩ (.int .i64 (S.length : Int))).cell? ⟨b, 2, none⟩ = some (.bool (idT S (List.take x.size x.data.toList)).isSome) := (cell_set _ _ _ _ _ _ (by simp)).trans c2
      have HL := hide (HE'.out.last hxS)
      rw [HX.out] at HL
      clear HE HE' hn
      generalize idT S (List.take x.size x.data.toList) = o at *
      go_wp2
      go_end0
      exact ⟨rfl, HL.out⟩
end Go.Proofs.Ytadbffphmmkljaa
