/- Contracts: slices.Reverse of bytes. -/
import Derived.Test.YtceofnkjdkbebaaNatB
import Derived.BigRegion
namespace Go.Proofs.Ytceofnkjdkbebaa
open Go.RowKit
set_option linter.unusedVariables false
set_option linter.unusedSimpArgs false

theorem getD_set (L : List Int) (a t : Nat) (y : Int) (ha : a < L.length) : (L.set a y).getD t 0 = if t = a then y else L.getD t 0 := by
  rw [List.getD_eq_getElem?_getD, List.getElem?_set, List.getD_eq_getElem?_getD]
  by_cases h : a = t
  · subst h; simp [ha]
  · rw [if_neg h, if_neg (fun e => h e.symm)]

theorem rev_step {L zs : List Int} {n a b : Nat} {x y : Int} (hl : L.length = n) (hab : a + b + 1 = n) (hlt : a < b) (hx : x = L.getD a 0) (hy : y = L.getD b 0)
    (hL : ∀ t, t < n → L.getD t 0 = if t < a ∨ (b : Int) < (t : Int) then zs.getD (n - 1 - t) 0 else zs.getD t 0) :
    ∀ t, t < n → ((L.set a y).set b x).getD t 0 = if t < a + 1 ∨ (b : Int) - 1 < (t : Int) then zs.getD (n - 1 - t) 0 else zs.getD t 0 := by
  intro t ht
  have hxa : x = zs.getD a 0 := by rw [hx, hL a (by omega), if_neg (by omega)]
  have hyb : y = zs.getD b 0 := by rw [hy, hL b (by omega), if_neg (by omega)]
  rw [getD_set _ _ _ _ (by rw [List.length_set]; omega), getD_set _ _ _ _ (by omega), hL t ht]
  by_cases h1 : t = b
  · rw [if_pos h1, if_pos (by omega), hxa, show n - 1 - t = a by omega]
  · rw [if_neg h1]
    by_cases h2 : t = a
    · rw [if_pos h2, if_pos (by omega), hyb, show n - 1 - t = b by omega]
    · rw [if_neg h2]
      by_cases h3 : t < a ∨ (b : Int) < t
      · rw [if_pos h3, if_pos (by omega)]
      · rw [if_neg h3, if_neg (by omega)]

theorem rev_final {L zs : List Int} {n a : Nat} {b : Int} (hl : L.length = n) (hz : zs.length = n) (hab : (a : Int) + b + 1 = n) (hge : b ≤ a)
    (hL : ∀ t, t < n → L.getD t 0 = if t < a ∨ b < (t : Int) then zs.getD (n - 1 - t) 0 else zs.getD t 0) : L = zs.reverse := by
  apply List.ext_getElem (by simp [hl, hz])
  intro t h1 h2
  have h := hL t (by omega)
  rw [List.getD_eq_getElem?_getD, List.getElem?_eq_getElem h1, Option.getD_some] at h
  rw [h, List.getElem_reverse]
  have hd : ∀ j (hj : j < zs.length), zs.getD j 0 = zs[j] := fun j hj => by rw [List.getD_eq_getElem?_getD, List.getElem?_eq_getElem hj, Option.getD_some]
  by_cases h3 : t < a ∨ b < (t : Int)
  · rw [if_pos h3, hd (n - 1 - t) (by omega)]
    congr 1
    omega
  · rw [if_neg h3, hd t (by omega)]
    congr 1
    omega

set_option maxHeartbeats 1600000 in
theorem reverse_any (base g n cap : Nat) (zs : List Int) (w : World) (hO : Own .u8 5 w base (some ⟨g, 0, none⟩) n cap zs) (hn : n ≤ 10000000) :
    Calls Try.prog 26 #[.slice (some ⟨g, 0, none⟩) n cap] w fun e w' => e = .returned (.tuple #[]) ∧ Own .u8 5 w' base (some ⟨g, 0, none⟩) n cap zs.reverse ∧ w.grownBy w' (some g) := by
  go_enter Try.func26, Try.ntmps26
  go_wp2
  go_loopw [2, 3] (fun i j wr => ∃ (a : Nat) (b : Int) (L : List Int), i = .int .i64 a ∧ j = .int .i64 b ∧ Hid ((a : Int) + b + 1 = n) ∧ -1 ≤ b ∧ b < n ∧ a ≤ n ∧ Own .u8 5 wr base (some ⟨g, 0, none⟩) n cap L ∧ Hid (∀ t, t < n → L.getD t 0 = if t < a ∨ b < (t : Int) then zs.getD (n - 1 - t) 0 else zs.getD t 0) ∧ Hid (a ≤ b + 2) ∧ w.grownBy wr (some g))
    (fun i _ _ => n - (intOf i).toNat)
  case atStart => exact ⟨0, (n : Int) - 1, zs, rfl, rfl, hide (by omega), by omega, by omega, by omega, hO, hide (fun t ht => by rw [if_neg (by omega)]), hide (by omega), World.grownBy.refl _ _⟩
  case round =>
    obtain ⟨a, b, L, rfl, rfl, hab, hb1, hbn, han, hOr, hL, hab2, hgr⟩ := hrel
    by_cases hlt : (a : Int) < b
    · obtain ⟨b, rfl⟩ := Int.eq_ofNat_of_zero_le (show 0 ≤ b by omega)
      have hbn' : b < n := by omega
      have han' : a < n := by omega
      obtain ⟨g', hg', hbg, hgs, hcell, hfr⟩ := hOr.at hbn'
      simp only [Option.some.injEq, Addr.mk.injEq, and_true] at hg'
      subst hg'
      obtain ⟨x, hx⟩ : ∃ x, x = L.getD a 0 := ⟨_, rfl⟩
      obtain ⟨y, hy⟩ : ∃ y, y = L.getD b 0 := ⟨_, rfl⟩
      have ca := hcell a han'
      have cb := hcell b hbn'
      rw [← hx] at ca
      rw [← hy] at cb
      have fa := hfr a
      have fb := hfr b
      have hne : ¬ a = b := by omega
      have hne' : ¬ b = a := by omega
      have HX := hide hx
      have HY := hide hy
      clear hx hy hcell hfr
      go_wp2
      go_region
      have hst := hide (((hOr.below ((Below.refl _ _).drew)).stored a han' y).stored b hbn' x)
      have HR := hide (rev_step hOr.1 (by have := hab.out; omega) (by omega) HX.out HY.out hL.out)
      have HG := hide (grownBy_trans (grownBy_trans hgr (below_grownBy ((Below.refl _ _).drew) _)) (grownBy_trans (grownBy_setCell wr.drew g a (.int .u8 y)) (grownBy_setCell _ g b (.int .u8 x))))
      clear hL hOr hgr
      go_wp2
      go_roundw
      case rel => exact ⟨a + 1, (b : Int) - 1, _, by go_num, rfl, hide (by have := hab.out; omega), by omega, by omega, by omega, hst.out, HR, hide (by omega), HG.out⟩
      case measure => simp [intOf]; omega
    · have HL := hide (rev_final hOr.1 hO.1 hab.out (by omega) hL.out)
      clear hL
      go_wp2
      go_end0
      exact ⟨rfl, by rw [← HL.out]; exact hOr, hgr⟩

end Go.Proofs.Ytceofnkjdkbebaa
