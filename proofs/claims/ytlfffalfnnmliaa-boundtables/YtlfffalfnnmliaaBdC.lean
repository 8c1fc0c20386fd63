/- Contracts of package bound: Pieces. -/
import Derived.Test.YtlfffalfnnmliaaBdB
namespace Go.Proofs.Ytlfffalfnnmliaa
open Go.RowKit
set_option linter.unusedVariables false
set_option linter.unusedSimpArgs false

theorem rowB {w w' : World} {B : Nat} {E : TypeId} {size : Nat} {v : Value} {n : Nat} {xs : List Value} (h : w.ownsRow B E size v n xs) (hb : Below w.heap.size w w') : w'.ownsRow B E size v n xs :=
  h.kept (row := none) ⟨hb.os, hb.tape, hb.output, hb.size, fun k hk _ => hb.block k hk⟩ (by cases v.ownBlock <;> simp)
/-- Texts out of lists of bytes. -/
def bts (l : List (List UInt8)) : List ByteArray := l.map (fun x => ⟨x.toArray⟩)
theorem tv_get (l : List (List UInt8)) (i : Nat) (hi : i < l.length) : (tv l)[i]? = some (.string (gT (bts l) i)) := by
  simp [tv, gT, bts, hi]
theorem RdT.row {w : World} {base : Nat} {ao : Option Addr} {n cap : Nat} {l : List (List UInt8)} (h : w.ownsRow base 9 1 (.slice ao n cap) n (tv l)) (hl : l.length = n) : RdT w ao n (bts l) := by
  refine ⟨by simp [bts, hl], ?_⟩
  rcases Nat.eq_zero_or_pos n with h0 | h0
  · exact Or.inl h0
  obtain ⟨g, cap', e, hb, hg⟩ := h.form h0
  simp only [Value.slice.injEq] at e
  obtain ⟨rfl, -, rfl⟩ := e
  refine Or.inr ⟨g, 0, rfl, hg, fun i hi => ?_⟩
  rw [Nat.zero_add, h.cellAt i (by omega)]
  exact tv_get l i (by omega)
def szOf : Value → Nat
  | .string t => t.size
  | _ => 0
theorem qa_drop (q : Int → Int → Bool) (s : List UInt8) (a j : Nat) (ha : a ≤ s.length) (hj : 0 < j) : qa q (s.drop a) j = qa q s (a + j) := by
  have h := qa_right (q := q) (s.take a) (s.drop a) j hj
  rw [List.take_append_drop, List.length_take, Nat.min_eq_left ha] at h
  exact h.symm
/-- One piece more. -/
theorem pc_end (q : Int → Int → Bool) (s t : List UInt8) (a k : Nat) (ht : t = s.drop a) (ha : a = 0 ∨ qa q s a = true) (hlt : a < s.length) (h : EndP q t k) :
    pc q s (a + k) = pc q s a ++ [t.take k] ∧ 0 < k ∧ a + k ≤ s.length ∧ (a + k = s.length ∨ qa q s (a + k) = true) := by
  subst ht
  have hl : (s.drop a).length = s.length - a := by simp
  have h1 := h.le
  have h2 := h.pos (by omega)
  refine ⟨?_, h2, by omega, ?_⟩
  · have := pc_step ha (a + k) (by omega) (by omega) (fun j h3 h4 => by have := h.no (j - a) (by omega) (by omega); rw [qa_drop q s a _ (by omega) (by omega)] at this; rw [show a + (j - a) = j by omega] at this; exact this)
    rw [this, show a + k - a = k by omega]
  · by_cases e : a + k = s.length
    · exact Or.inl e
    · have := h.yes (by omega)
      rw [qa_drop q s a _ (by omega) h2] at this
      exact Or.inr this
/-- What holds at the head of Pieces' loop. -/
structure PiI (w : World) (q : Int → Int → Bool) (s : List UInt8) (a : Nat) (t : ByteArray) (v : Value) (n : Nat) (wr : World) : Prop where
  le : a ≤ s.length
  t : t.data.toList = s.drop a
  st : a = 0 ∨ a = s.length ∨ qa q s a = true
  len : n = (pc q s a).length
  row : wr.ownsRow w.heap.size 9 1 v n (tv (pc q s a))
  B : Below w.heap.size w wr
theorem PiI.size {w : World} {q : Int → Int → Bool} {s : List UInt8} {a : Nat} {t : ByteArray} {v : Value} {n : Nat} {wr : World} (h : PiI w q s a t v n wr) : t.size = s.length - a := by
  have h1 : t.data.toList.length = t.size := by simp
  rw [← h1, h.t]
  simp
theorem PiI.n_le {w : World} {q : Int → Int → Bool} {s : List UInt8} {a : Nat} {t : ByteArray} {v : Value} {n : Nat} {wr : World} (h : PiI w q s a t v n wr) : n ≤ a := by
  rw [h.len, pc_len]
  exact cnt_le s a

set_option maxRecDepth 20000 in
set_option maxHeartbeats 4000000 in
theorem pieces_any {pv : Value} {q : Int → Int → Bool} {w : World} (hT : Tb pv q w) (s : ByteArray) (hs : s.size ≤ 100000) :
    Calls Try.prog 33 #[pv, .string s] w fun e w' => (∃ ao n cap, e = .returned (.slice ao n cap) ∧ n = (pcs q s.data.toList).length ∧ w'.ownsRow w.heap.size 9 1 (.slice ao n cap) n (tv (pcs q s.data.toList))) ∧ Below w.heap.size w w' := by
  have HT := hide hT
  have hsl : s.data.toList.length = s.size := by simp
  have HSL := hide hsl
  clear hT hsl
  go_enter Try.func33, Try.ntmps33
  go_wp2
  go_loopw [1, 5] (fun sv v wr => ∃ (a n : Nat) (t : ByteArray) (ao : Option Addr) (cap : Nat), sv = .string t ∧ v = .slice ao n cap ∧ Hid (PiI w q s.data.toList a t (.slice ao n cap) n wr)) (fun sv _ _ => szOf sv)
  case atStart => exact ⟨0, 0, s, none, 0, rfl, rfl, hide ⟨Nat.zero_le _, by simp, Or.inl rfl, rfl, World.ownsRow_nil _ _ _ _, Below.refl _ _⟩⟩
  case round =>
    obtain ⟨a, n, t, ao, cap, rfl, rfl, HI⟩ := hrel
    by_cases h0 : t.size = 0
    · obtain rfl := ba_nil h0
      have hz : 0 = s.data.toList.length - a := HI.out.size
      go_wp2
      go_ret
      have ha : a = s.data.toList.length := by have := HI.out.le; omega
      refine ⟨⟨ao, n, cap, rfl, ?_, ?_⟩, HI.out.B⟩
      · rw [HI.out.len, ha]; rfl
      · have := HI.out.row; rw [ha] at this; exact this
    · have hne := ba_ne (show 0 < t.size by omega)
      have hsz := HI.out.size
      have hnl := HI.out.n_le
      have hle := HI.out.le
      rw [HSL.out] at hsz hle
      have HE := hide (end_any (HT.out.kept HI.out.B) t (by omega))
      have hsz2 : t.size + a = s.size := by omega
      clear hsz
      go_wp2_with fail
      refine (unhide HE).mono ?_
      rintro e w1 ⟨⟨k, rfl, hk⟩, hb1⟩
      obtain ⟨hp1, hp2, hp3, hp4⟩ := pc_end q s.data.toList t.data.toList a k HI.out.t (by rcases HI.out.st with h | h | h; · { exact Or.inl h }; · { rw [HSL.out] at h; omega }; · { exact Or.inr h }) (by rw [HSL.out]; omega) hk
      rw [HSL.out] at hp3
      have hkt : k ≤ t.size := by omega
      have hk0 : (0 : Int) ≤ (k : Int) := by omega
      have hk1 : (k : Int) ≤ (t.size : Int) := by omega
      have hB1 := HI.out.B.trans (hb1.mono HI.out.B.size)
      have hro := rowB HI.out.row hb1
      obtain ⟨g, cap1, w2, hrun, hown, hb2⟩ := app_text w1 w.heap.size ao n cap (pc q s.data.toList a) (t.extract 0 k) hro (by omega) hB1.size
      have HRUN := hide hrun
      have e1 : (t.extract 0 k).data.toList = t.data.toList.take k := by rw [Go.Lib.extract_data]; simp
      have e2 : (t.extract k t.size).data.toList = s.data.toList.drop (a + k) := by rw [Go.Lib.extract_data, HI.out.t, List.drop_drop, List.take_of_length_le]; simp; omega
      have HF : Hid (PiI w q s.data.toList (a + k) (t.extract k t.size) (.slice (some ⟨g, 0, none⟩) (n + 1) cap1) (n + 1) w2) := hide ⟨by rw [HSL.out]; omega, e2, by rcases hp4 with h | h; · { exact Or.inr (Or.inl h) }; · { exact Or.inr (Or.inr h) }, by rw [hp1, List.length_append, ← HI.out.len]; rfl, by rw [hp1, ← e1]; exact hown, hB1.trans hb2⟩
      have hsx : (t.extract k t.size).size = t.size - k := by simp
      have HSX := hide hsx
      clear hrun hown hb2 hro hb1 hB1 hp1 hp4 e1 e2 hk HE hsx
      go_wp2_with (at_builtin; refine Lib.wpList_append_run _ rfl _ _ _ _ rfl _ _ rfl rfl _ _ HRUN.out ?_)
      go_roundw
      case rel => exact ⟨a + k, n + 1, _, _, cap1, rfl, rfl, HF⟩
      case measure => simp only [szOf]; rw [HSX.out]; omega

end Go.Proofs.Ytlfffalfnnmliaa
