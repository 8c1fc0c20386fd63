/- The calls of the last region of NatMultiplies. -/
import Derived.Test.YtceofnkjdkbebaaMulB
import Derived.Test.YtceofnkjdkbebaaLawA
namespace Go.Proofs.Ytceofnkjdkbebaa
open Go.RowKit
set_option linter.unusedVariables false
set_option linter.unusedSimpArgs false

theorem big170 {a b : Int} (ha : 0 ≤ a) (ha' : a < 4294967296 ^ 8) (hb : 0 ≤ b) (hb' : b < 4294967296 ^ 9) : a * b < 10 ^ 170 := by
  have h1 : a * b ≤ 4294967296 ^ 8 * b := Int.mul_le_mul_of_nonneg_right (Int.le_of_lt ha') hb
  have h2 : (4294967296 : Int) ^ 8 * b ≤ 4294967296 ^ 8 * 4294967296 ^ 9 := Int.mul_le_mul_of_nonneg_left (Int.le_of_lt hb') (by decide)
  have h3 : (4294967296 : Int) ^ 8 * 4294967296 ^ 9 < 10 ^ 170 := by decide +kernel
  exact Int.lt_of_le_of_lt (Int.le_trans h1 h2) h3
theorem pv_lt8 {zs : List Int} (hD : Dg 4294967296 zs) (hl : zs.length ≤ 8) : 0 ≤ pv 4294967296 zs ∧ pv 4294967296 zs < 4294967296 ^ 8 := by
  have h := pv_bound (by decide) hD
  exact ⟨h.1, Int.lt_of_lt_of_le h.2 (pow_mono (by decide) hl)⟩
theorem pow89 {u : Int} (h : u < 4294967296 ^ 8) : u * 4294967296 < 4294967296 ^ 9 := by
  rw [show (9 : Nat) = 8 + 1 from rfl, Int.pow_succ]
  exact Int.mul_lt_mul_of_pos_right h (by decide)
theorem horner {A y P : Int} : A * P * 4294967296 + 0 + (A * y + 0) = A * (y + 4294967296 * P) := by
  rw [Int.mul_add, Int.mul_assoc, Int.mul_comm P]
  omega
theorem decStr_self {D E : List Int} (hD : Dg 10 D) (hN : Nz D) (hE : Dg 10 E) (hM : Nz E) (h : pv 10 D = pv 10 E) : decStr D = decStr E := decStr_eq hD hN h hE hM rfl

/-- A number in a slice of one. -/
theorem Nats.one {W : World} {b : Nat} {ao : Option Addr} {m cap : Nat} {V : Int} (hc : W.cell? ⟨b, 0, none⟩ = some (.slice ao m cap)) (hN : IsNat W ao m V) (hm : m ≤ 1000) : Nats W (some ⟨b, 0, none⟩) [(ao, m, cap, V)] := by
  refine ⟨Or.inr ⟨b, 0, rfl, fun i hi => ?_⟩, fun x hx => ?_⟩
  · match i, hi with
    | 0, _ => exact hc
  · simp at hx
    subst hx
    exact ⟨hN, hm⟩
theorem three_boxes (w : World) (v1 v2 v3 : Value) (T : TypeId) : ∃ W, W = ((w.alloc (.cells #[v1] T)).alloc (.cells #[v2] T)).alloc (.cells #[v3] T) ∧ Below w.heap.size w W ∧ W.cell? ⟨w.heap.size, 0, none⟩ = some v1 ∧ W.cell? ⟨w.heap.size + 1, 0, none⟩ = some v2 ∧ W.cell? ⟨w.heap.size + 1 + 1, 0, none⟩ = some v3 ∧ w.heap.size + 1 + 1 < W.heap.size :=
  ⟨_, rfl, ((below_alloc _ _).alloc (by simp) _).alloc (by simp; omega) _, (cell_old _ _ (by simp; omega)).trans ((cell_old _ _ (by simp)).trans (cell_new w v1 T rfl)), (cell_old _ _ (by simp)).trans (cell_new _ v2 T (by simp)), cell_new _ v3 T (by simp), by simp⟩
theorem undrew' {W W' : World} (hb : Below W.drew.heap.size W.drew W') : Below W.heap.size W W' := ⟨hb.os, hb.tape, hb.output, hb.size, hb.block⟩

theorem IsNat.len {w : World} {ao : Option Addr} {m : Nat} {V : Int} (h : IsNat w ao m V) {K : Nat} (hK : V < 4294967296 ^ K) : m ≤ K := by
  obtain ⟨D, hR, hD, hN, rfl⟩ := h
  by_cases h0 : D = []
  · have := hR.1; rw [h0] at this; simp at this; omega
  · have h1 := pv_lower (by decide) hD hN h0
    have h2 : (4294967296 : Int) ^ (D.length - 1) < 4294967296 ^ K := Int.lt_of_le_of_lt h1 hK
    have h3 : D.length - 1 < K := by
      rcases Nat.lt_or_ge (D.length - 1) K with h | h
      · exact h
      · exact absurd h2 (Int.not_lt.2 (pow_mono (by decide) h))
    have := hR.1
    omega
theorem mulpow {a b : Int} {i j : Nat} (ha : 0 ≤ a) (ha' : a < 4294967296 ^ i) (hb : 0 ≤ b) (hb' : b < 4294967296 ^ j) : a * b < 4294967296 ^ (i + j) := by
  rw [Int.pow_add]
  by_cases h0 : b = 0
  · rw [h0, Int.mul_zero]
    exact Int.mul_pos (pow_pos' (by decide) _) (pow_pos' (by decide) _)
  · have h1 : a * b < 4294967296 ^ i * b := Int.mul_lt_mul_of_pos_right ha' (by omega)
    have h2 : (4294967296 : Int) ^ i * b ≤ 4294967296 ^ i * 4294967296 ^ j := Int.mul_le_mul_of_nonneg_left (Int.le_of_lt hb') (Int.le_of_lt (pow_pos' (by decide) _))
    exact Int.lt_of_lt_of_le h1 h2

theorem ckeep {T W' : World} {b o : Nat} {v : Value} (hb : Below T.heap.size T W') (h : T.cell? ⟨b, o, none⟩ = some v) : W'.cell? ⟨b, o, none⟩ = some v := (hb.cell (World.block_lt_of_cell? T _ h)).trans h
theorem cell_new2 (w : World) (o : Obj) (v : Value) (T : TypeId) : ((w.alloc o).alloc (.cells #[v] T)).cell? ⟨w.heap.size + 1, 0, none⟩ = some v := cell_new _ v T (by simp)
theorem calloc {W : World} {o : Obj} {b k : Nat} {v : Value} (h : W.cell? ⟨b, k, none⟩ = some v) : (W.alloc o).cell? ⟨b, k, none⟩ = some v := (cell_old W o (World.block_lt_of_cell? W _ h)).trans h

/-- What stays through the last region: the numbers, and the boxes that hold them. -/
structure MuS (w : World) (t q : Nat) (aoX : Option Addr) (mX : Nat) (Vx : Int) (aoY : Option Addr) (mY : Nat) (Vy : Int) (aoZ : Option Addr) (mZ : Nat) (Vz : Int) (aoP : Option Addr) (mP : Nat) (aoW : Option Addr) (nW : Nat) (D : List Int) (W : World) : Prop where
  X : IsNat W aoX mX Vx
  Y : IsNat W aoY mY Vy
  Z : IsNat W aoZ mZ Vz
  P : IsNat W aoP mP (Vx * Vy)
  D : Reads .u8 W aoW nW D
  x7 : W.cell? ⟨t, 0, none⟩ = some (.slice aoX mX mX)
  x8 : W.cell? ⟨t + 1, 0, none⟩ = some (.slice aoY mY mY)
  x9 : W.cell? ⟨t + 1 + 1, 0, none⟩ = some (.slice aoZ mZ mZ)
  x12 : W.cell? ⟨q, 0, none⟩ = some (.slice aoP mP mP)
  B : Below w.heap.size w W
section
variable {w : World} {t q : Nat} {aoX : Option Addr} {mX : Nat} {Vx : Int} {aoY : Option Addr} {mY : Nat} {Vy : Int} {aoZ : Option Addr} {mZ : Nat} {Vz : Int} {aoP : Option Addr} {mP : Nat} {aoW : Option Addr} {nW : Nat} {D : List Int} {W W' : World}
theorem MuS.kept (h : MuS w t q aoX mX Vx aoY mY Vy aoZ mZ Vz aoP mP aoW nW D W) (hb : Below W.heap.size W W') : MuS w t q aoX mX Vx aoY mY Vy aoZ mZ Vz aoP mP aoW nW D W' :=
  ⟨h.X.kept hb, h.Y.kept hb, h.Z.kept hb, h.P.kept hb, h.D.kept hb, (hb.cell (World.block_lt_of_cell? W _ h.x7)).trans h.x7, (hb.cell (World.block_lt_of_cell? W _ h.x8)).trans h.x8, (hb.cell (World.block_lt_of_cell? W _ h.x9)).trans h.x9, (hb.cell (World.block_lt_of_cell? W _ h.x12)).trans h.x12, h.B.trans (hb.mono h.B.size)⟩

/-- The calls of the last region, whatever the world is. -/
structure MuC (aoX : Option Addr) (mX : Nat) (Vx : Int) (aoY : Option Addr) (mY : Nat) (Vy : Int) (aoZ : Option Addr) (mZ : Nat) (Vz : Int) (aoP : Option Addr) (mP : Nat) (aoW : Option Addr) (nW cW : Nat) (sd : ByteArray) (M : World → Prop) : Prop where
  kept : ∀ W W', M W → Below W.heap.size W W' → M W'
  str : ∀ W, M W → Calls Try.prog 11 #[.agg #[.slice aoP mP mP]] W.drew fun e w' => e = .returned (.string sd) ∧ Below W.heap.size W w'
  prt : ∀ W, M W → Calls Try.prog 12 #[.slice aoW nW cW] W fun e w' => e = .returned (.string sd) ∧ Below W.heap.size W w'
  pyx : ∀ T b, M T → T.cell? ⟨b, 0, none⟩ = some (.slice aoX mX mX) → Calls Try.prog 17 #[.agg #[.slice aoY mY mY], .slice (some ⟨b, 0, none⟩) 1 1] T fun e w' => ∃ ao m, e = .returned (.agg #[.slice ao m m]) ∧ IsNat w' ao m (Vx * Vy) ∧ m ≤ 1000 ∧ Below T.heap.size T w'
  ayz : ∀ T b, M T → T.cell? ⟨b, 0, none⟩ = some (.slice aoZ mZ mZ) → Calls Try.prog 10 #[.agg #[.slice aoY mY mY], .slice (some ⟨b, 0, none⟩) 1 1] T fun e w' => ∃ ao m, e = .returned (.agg #[.slice ao m m]) ∧ IsNat w' ao m (Vy + Vz) ∧ m ≤ 1000 ∧ Below T.heap.size T w'
  pxs : ∀ T b ao m, M T → T.cell? ⟨b, 0, none⟩ = some (.slice ao m m) → IsNat T ao m (Vy + Vz) → m ≤ 1000 → Calls Try.prog 17 #[.agg #[.slice aoX mX mX], .slice (some ⟨b, 0, none⟩) 1 1] T fun e w' => ∃ ao m, e = .returned (.agg #[.slice ao m m]) ∧ IsNat w' ao m (Vx * (Vy + Vz)) ∧ m ≤ 1000 ∧ Below T.heap.size T w'
  pxz : ∀ T b, M T → T.cell? ⟨b, 0, none⟩ = some (.slice aoZ mZ mZ) → Calls Try.prog 17 #[.agg #[.slice aoX mX mX], .slice (some ⟨b, 0, none⟩) 1 1] T fun e w' => ∃ ao m, e = .returned (.agg #[.slice ao m m]) ∧ IsNat w' ao m (Vx * Vz) ∧ m ≤ 1000 ∧ Below T.heap.size T w'
  apx : ∀ T b ao m, M T → T.cell? ⟨b, 0, none⟩ = some (.slice ao m m) → IsNat T ao m (Vx * Vz) → m ≤ 1000 → Calls Try.prog 10 #[.agg #[.slice aoP mP mP], .slice (some ⟨b, 0, none⟩) 1 1] T fun e w' => ∃ ao m, e = .returned (.agg #[.slice ao m m]) ∧ IsNat w' ao m (Vx * (Vy + Vz)) ∧ m ≤ 1000 ∧ Below T.heap.size T w'
  px0 : ∀ T, M T → Calls Try.prog 17 #[.agg #[.slice aoX mX mX], .slice none 0 0] T fun e w' => ∃ ao m, e = .returned (.agg #[.slice ao m m]) ∧ IsNat w' ao m Vx ∧ m ≤ 1000 ∧ Below T.heap.size T w'
  cmp : ∀ T a n b m V, IsNat T a n V → n ≤ 1000 → IsNat T b m V → m ≤ 1000 → Calls Try.prog 14 #[.agg #[.slice a n n], .agg #[.slice b m m]] T fun e w' => e = .returned (.int .i64 0) ∧ Below T.heap.size T w'
theorem muC (hx : 0 ≤ Vx ∧ Vx < 4294967296 ^ 8) (hy : 0 ≤ Vy ∧ Vy < 4294967296 ^ 8) (hz : 0 ≤ Vz ∧ Vz < 4294967296 ^ 20) (hmx : mX ≤ 8) (hmy : mY ≤ 8) (hmz : mZ ≤ 20) (hmp : mP ≤ 1000) (hnw : nW ≤ 400) (cW : Nat) (hD : Dg 10 D) (hN : Nz D) (hV : pv 10 D = Vx * Vy) : MuC aoX mX Vx aoY mY Vy aoZ mZ Vz aoP mP aoW nW cW (decStr D) (MuS w t q aoX mX Vx aoY mY Vy aoZ mZ Vz aoP mP aoW nW D) := by
  have hs : Vy + Vz < 4294967296 ^ 21 := by
    have h1 : (4294967296 : Int) ^ 8 + 4294967296 ^ 20 < 4294967296 ^ 21 := by decide +kernel
    exact Int.lt_trans (Int.add_lt_add hy.2 hz.2) h1
  have hs0 : 0 ≤ Vy + Vz := Int.add_nonneg hy.1 hz.1
  refine ⟨fun W W' h hb => h.kept hb, fun W h => ?_, fun W h => ?_, fun T b h hc => ?_, fun T b h hc => ?_, fun T b ao m h hc hi hm => ?_, fun T b h hc => ?_, fun T b ao m h hc hi hm => ?_, fun T h => ?_, fun T a n b m V h1 hn h2 hm => ?_⟩
  · refine (string_any aoP mP mP (Vx * Vy) W.drew (h.P.kept (Below.refl _ _).drew) (by omega)).mono ?_
    rintro e w' ⟨E, rfl, hE, hM, hp, hb⟩
    exact ⟨by rw [decStr_eq hE hM hp hD hN hV], undrew' hb⟩
  · exact print_any aoW nW cW D W h.D hD (by omega)
  · refine (product_any aoY mY mY Vy _ 1 1 _ T h.Y (by omega) (Nats.one hc h.X (by omega)) rfl (by omega)).mono ?_
    rintro e w' ⟨ao, m, rfl, hi, hm, hb⟩
    have e1 : Vy * prodN [(aoX, mX, mX, Vx)] = Vx * Vy := by simp [prodN, Int.mul_comm]
    rw [e1] at hi
    exact ⟨ao, m, rfl, hi, Nat.le_trans (hi.len (mulpow hx.1 hx.2 hy.1 hy.2)) (by omega), hb⟩
  · refine (add_any aoY mY mY Vy _ 1 1 _ T h.Y (by omega) (Nats.one hc h.Z (by omega)) rfl (by omega)).mono ?_
    rintro e w' ⟨ao, m, rfl, hi, hm, hb⟩
    have e1 : Vy + sumN [(aoZ, mZ, mZ, Vz)] = Vy + Vz := by simp [sumN]
    rw [e1] at hi
    exact ⟨ao, m, rfl, hi, Nat.le_trans (hi.len hs) (by omega), hb⟩
  · refine (product_any aoX mX mX Vx _ 1 1 _ T h.X (by omega) (Nats.one hc hi hm) rfl (by omega)).mono ?_
    rintro e w' ⟨ao', m', rfl, hi', hm', hb⟩
    have e1 : Vx * prodN [(ao, m, m, Vy + Vz)] = Vx * (Vy + Vz) := by simp [prodN]
    rw [e1] at hi'
    exact ⟨ao', m', rfl, hi', Nat.le_trans (hi'.len (mulpow hx.1 hx.2 hs0 hs)) (by omega), hb⟩
  · refine (product_any aoX mX mX Vx _ 1 1 _ T h.X (by omega) (Nats.one hc h.Z (by omega)) rfl (by omega)).mono ?_
    rintro e w' ⟨ao', m', rfl, hi', hm', hb⟩
    have e1 : Vx * prodN [(aoZ, mZ, mZ, Vz)] = Vx * Vz := by simp [prodN]
    rw [e1] at hi'
    exact ⟨ao', m', rfl, hi', Nat.le_trans (hi'.len (mulpow hx.1 hx.2 hz.1 hz.2)) (by omega), hb⟩
  · refine (add_any aoP mP mP (Vx * Vy) _ 1 1 _ T h.P (by omega) (Nats.one hc hi hm) rfl (by omega)).mono ?_
    rintro e w' ⟨ao', m', rfl, hi', hm', hb⟩
    have e1 : Vx * Vy + sumN [(ao, m, m, Vx * Vz)] = Vx * (Vy + Vz) := by simp [sumN, Int.mul_add]
    rw [e1] at hi'
    exact ⟨ao', m', rfl, hi', Nat.le_trans (hi'.len (mulpow hx.1 hx.2 hs0 hs)) (by omega), hb⟩
  · refine (product_any aoX mX mX Vx none 0 0 [] T h.X (by omega) ⟨Or.inl rfl, fun x hx => by cases hx⟩ rfl (by omega)).mono ?_
    rintro e w' ⟨ao', m', rfl, hi', hm', hb⟩
    have e1 : Vx * prodN [] = Vx := by simp [prodN]
    rw [e1] at hi'
    exact ⟨ao', m', rfl, hi', Nat.le_trans (hi'.len hx.2) (by omega), hb⟩
  · refine (compare_any a b n n m m V V T h1 h2 (by omega) (by omega)).mono ?_
    rintro e w' ⟨c, rfl, hc, hb⟩
    rw [hc.eq rfl]
    exact ⟨rfl, hb⟩
end

end Go.Proofs.Ytceofnkjdkbebaa
