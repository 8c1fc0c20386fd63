/- Contracts of the statements' own helpers: few, awake. -/
import Derived.Test.YtceofnkjdkbebaaRefB
namespace Go.Proofs.Ytceofnkjdkbebaa
open Go.RowKit
set_option linter.unusedVariables false
set_option linter.unusedSimpArgs false

/-- The slices of limbs that lie at ao, one behind the other: of each its length. -/
def Rows2 (w : World) (ao : Option Addr) (ls : List (Option Addr × Nat × Nat)) : Prop :=
  ls = [] ∨ ∃ b off, ao = some ⟨b, off, none⟩ ∧ ∀ i (h : i < ls.length), w.cell? ⟨b, off + i, none⟩ = some (.slice ls[i].1 ls[i].2.1 ls[i].2.2)

set_option maxHeartbeats 400000 in
theorem few_any (ao : Option Addr) (n cap : Nat) (ls : List (Option Addr × Nat × Nat)) (w : World) (hR : Rows2 w ao ls) (hl : ls.length = n) (hn : n ≤ 9223372036854775807) (hb : ∀ x ∈ ls, x.2.1 ≤ 9223372036854775807) :
    Calls Try.prog 5 #[.slice ao n cap] w fun e w' => e = .returned (.bool (ls.all (fun x => decide (x.2.1 ≤ 20)))) ∧ w' = w := by
  go_enter Try.func5, Try.ntmps5
  go_wp2
  go_loop [3] (fun i => ∃ k : Nat, k ≤ n ∧ i = .int .i64 k ∧ Hid ((ls.take k).all (fun x => decide (x.2.1 ≤ 20)) = true)) (fun i => n - (intOf i).toNat)
  case atStart => exact ⟨0, Nat.zero_le _, rfl, hide rfl⟩
  case round =>
    obtain ⟨k, hk, rfl, hall⟩ := hrel
    by_cases hlt : k < n
    · have hkl : k < ls.length := by omega
      rcases hR with hR | ⟨b, off, rfl, hc⟩
      · rw [hR] at hkl; simp at hkl
      · have hck := hc k hkl
        have hmem := hb ls[k] (List.getElem_mem hkl)
        have hts := List.take_succ_eq_append_getElem hkl
        obtain ⟨x, hx⟩ : ∃ x, x = ls[k] := ⟨_, rfl⟩
        rw [← hx] at hck hmem hts
        have hxm : x ∈ ls := by rw [hx]; exact List.getElem_mem hkl
        obtain ⟨xa, xn, xc⟩ := x
        dsimp only at hck hmem
        have HT := hide hts
        have HM := hide hxm
        clear hx hc hts hxm
        by_cases hx20 : xn ≤ 20
        · have HA : Hid ((ls.take (k + 1)).all (fun x => decide (x.2.1 ≤ 20)) = true) := by
            rw [HT.out, List.all_append, hall.out]
            exact hide (by simp [hx20])
          clear hall
          go_wp2
          go_round
          case rel => exact ⟨k + 1, by omega, by go_num, HA⟩
          case measure => simp [intOf]; omega
        · have HA : Hid (ls.all (fun x => decide (x.2.1 ≤ 20)) = false) := by
            apply hide
            rw [List.all_eq_false]
            exact ⟨_, HM.out, by simpa using hx20⟩
          have hx20' : 20 < xn := by omega
          clear hall hx20
          go_wp2
          go_ret
          exact ⟨by rw [HA.out]; rfl, rfl⟩
    · have HA : Hid (ls.all (fun x => decide (x.2.1 ≤ 20)) = true) := by
        have h1 := hall.out
        rw [List.take_of_length_le (by omega)] at h1
        exact hide h1
      clear hall
      go_wp2
      go_ret
      exact ⟨by rw [HA.out]; rfl, rfl⟩

theorem dec_ten (D : List Int) (hD : Dg 10 D) (hN : Nz D) (E : List Int) (hE : Dg 10 E) (hM : Nz E) (h : pv 10 D = pv 10 E) : D = E := pv_inj (by decide) hD hE hN hM h

theorem first_text (D : List Int) (hD : Dg 10 D) (hN : Nz D) (h : pv 10 D = 4294967296) : decStr D = ⟨#[52, 50, 57, 52, 57, 54, 55, 50, 57, 54]⟩ := by
  rw [dec_ten D hD hN [6, 9, 2, 7, 6, 9, 4, 9, 2, 4] (by intro a ha; simp at ha; omega) (Or.inr (by decide)) (by rw [h]; decide)]
  decide

theorem second_text (D : List Int) (hD : Dg 10 D) (hN : Nz D) (h : pv 10 D = 42949672959) : decStr D = ⟨#[52, 50, 57, 52, 57, 54, 55, 50, 57, 53, 57]⟩ := by
  rw [dec_ten D hD hN [9, 5, 9, 2, 7, 6, 9, 4, 9, 2, 4] (by intro a ha; simp at ha; omega) (Or.inr (by decide)) (by rw [h]; decide)]
  decide

set_option maxHeartbeats 800000 in
theorem awake_any (w : World) : Calls Try.prog 6 #[] w fun e w' => e = .returned (.bool true) ∧ Below w.heap.size w w' := by
  go_enter Try.func6, Try.ntmps6
  go_wp2_with fail
  refine (of_nat _ 2 2 [0, 1] _ ?_ (Dg.cons (by omega) (by omega) (Dg.cons (by omega) (by omega) (Dg.nil _))) (by omega)).mono ?_
  · refine ⟨rfl, Or.inr ⟨w.heap.size, 0, rfl, fun i hi => ?_⟩⟩
    match i, hi with
    | 0, _ => simp
    | 1, _ => simp
  rintro e w1 ⟨ao1, m1, rfl, hN1, hm1, hb1⟩
  have hv1 : pv 4294967296 [0, 1] = 4294967296 := by decide
  rw [hv1] at hN1
  have hB1 : Below w.heap.size w w1 := (below_alloc _ _).trans (hb1.mono (by simp))
  clear hb1 hv1
  go_wp2_with fail
  refine (times_any ao1 m1 m1 4294967296 10 _ (hN1.kept (below_alloc _ _)) (by omega) (by omega)).mono ?_
  rintro e w2 ⟨ao2, m2, rfl, hN2, hm2, hb2⟩
  obtain ⟨hc2, hf2, hs2⟩ := own_cell hb2
  have hN1 := hN1.kept ((below_alloc _ _).trans (hb2.mono (by simp)))
  have hB2 : Below w.heap.size w w2 := (hB1.alloc hB1.size _).trans (hb2.mono (by have := hB1.size; simp; omega))
  clear hb2 hf2
  go_wp2_with fail
  refine (int_nat 1 w2 (by omega) (by omega)).mono ?_
  rintro e w3 ⟨ao3, m3, rfl, hN3, hm3, hb3⟩
  have hc3 := (bcell hb3 hs2).trans hc2
  have hs3 : w1.heap.size < w3.heap.size := by have := hb3.size; omega
  have hN1 := hN1.kept hb3
  have hN2 := hN2.kept hb3
  have hB3 := hB2.trans (hb3.mono hB2.size)
  clear hb3 hc2
  go_wp2_with fail
  refine (sub_yes ao2 ao3 m2 m2 m3 m3 _ 1 w3 hN2 hN3 (by omega) (by omega) (by omega)).mono ?_
  rintro e w4 ⟨ao4, m4, rfl, hN4, hm4, hb4⟩
  have hc4 := (bcell hb4 hs3).trans hc3
  have hs4 : w1.heap.size < w4.heap.size := by have := hb4.size; omega
  have hN1 := hN1.kept hb4
  have hB4 := hB3.trans (hb4.mono hB3.size)
  clear hb4 hc3
  go_wp2_with fail
  refine (string_any ao1 m1 m1 4294967296 _ (hN1.kept (below_alloc _ _)) (by omega)).mono ?_
  rintro e w5 ⟨D5, rfl, hD5, hN5, hV5, hb5⟩
  rw [first_text D5 hD5 hN5 hV5]
  obtain ⟨hc5, hf5, hs5⟩ := own_cell hb5
  have hN4 := hN4.kept ((below_alloc _ _).trans (hb5.mono (by simp)))
  have hB5 : Below w.heap.size w w5 := (hB4.alloc hB4.size _).trans (hb5.mono (by have := hB4.size; simp; omega))
  clear hb5 hV5
  go_wp2_with fail
  refine (string_any ao4 m4 m4 _ w5 hN4 (by omega)).mono ?_
  rintro e w6 ⟨D6, rfl, hD6, hN6, hV6, hb6⟩
  rw [second_text D6 hD6 hN6 (by rw [hV6]; decide)]
  have hB6 := hB5.trans (hb6.mono hB5.size)
  clear hb6 hV6
  go_wp2
  go_ret
  exact ⟨rfl, hB6⟩

/-- What is known of a slice of integers that came in: it is nil; or it leads to a row of cap numbers, each of its kind. -/
def IsRow (k : IntKind) (w : World) (a : Option Addr) (len cap : Nat) (zs : List Int) : Prop :=
  (a = none ∧ len = 0 ∧ cap = 0 ∧ zs = []) ∨
  ∃ x, a = some x ∧ len ≤ cap ∧ cap ≤ maxLen ∧ zs.length = cap ∧ (∀ i, i < zs.length → w.cell? (x.add i) = some (.int k (zs.getD i 0))) ∧ ∀ n ∈ zs, (Lit.int k n).wf = true

theorem IsRow.reads {k : IntKind} {w : World} {a : Option Addr} {len cap : Nat} {zs : List Int} (h : IsRow k w a len cap zs) : Reads k w a len (zs.take len) ∧ len ≤ 9223372036854775807 := by
  rcases h with ⟨rfl, rfl, rfl, rfl⟩ | ⟨x, rfl, h1, h2, h3, h4, _⟩
  · exact ⟨Reads.nil _ _ _, by omega⟩
  · unfold maxLen at h2
    refine ⟨⟨by rw [List.length_take]; omega, ?_⟩, by omega⟩
    by_cases h0 : len = 0
    · exact Or.inl h0
    · right
      have hc := h4 0 (by omega)
      obtain ⟨b, off, spot⟩ := x
      have hs : spot = none := by
        cases spot with
        | none => rfl
        | some s =>
          exfalso
          simp only [Addr.add, if_pos rfl, World.cell?, Option.isSome_some, if_true] at hc
          split at hc <;> cases hc
      subst hs
      refine ⟨b, off, rfl, fun i hi => ?_⟩
      have := h4 i (by omega)
      rw [Addr.add_lit] at this
      rw [this]
      congr 2
      rw [List.getD_eq_getElem?_getD, List.getD_eq_getElem?_getD, List.getElem?_take_of_lt hi]

theorem IsRow.dg {w : World} {a : Option Addr} {len cap : Nat} {zs : List Int} (h : IsRow .u32 w a len cap zs) : Dg 4294967296 (zs.take len) := by
  rcases h with ⟨rfl, rfl, rfl, rfl⟩ | ⟨x, rfl, h1, h2, h3, h4, h5⟩
  · exact Dg.nil _
  · apply Dg.take
    intro z hz
    have := h5 z hz
    simp [Lit.wf, IntKind.min, IntKind.max, IntKind.signed, IntKind.bits] at this
    omega

theorem Cmp.lt {c V U : Int} (h : Cmp c V U) (hl : V < U) : c = -1 := by
  rcases h with ⟨h1, h2⟩ | ⟨h1, h2⟩ | ⟨h1, h2⟩ <;> omega
theorem Cmp.eq {c V U : Int} (h : Cmp c V U) (hl : V = U) : c = 0 := by
  rcases h with ⟨h1, h2⟩ | ⟨h1, h2⟩ | ⟨h1, h2⟩ <;> omega
theorem Cmp.gt {c V U : Int} (h : Cmp c V U) (hl : U < V) : c = 1 := by
  rcases h with ⟨h1, h2⟩ | ⟨h1, h2⟩ | ⟨h1, h2⟩ <;> omega

/-- One number is printed as one text. -/
theorem decStr_eq {D E : List Int} {V : Int} (hD : Dg 10 D) (hN : Nz D) (h1 : pv 10 D = V) (hE : Dg 10 E) (hM : Nz E) (h2 : pv 10 E = V) : decStr D = decStr E := by
  rw [pv_inj (by decide) hD hE hN hM (by rw [h1, h2])]

theorem wf_u64 {x : Int} (h : (Lit.int .u64 x).wf = true) : 0 ≤ x ∧ x < 18446744073709551616 := by
  simp [Lit.wf, IntKind.min, IntKind.max, IntKind.signed, IntKind.bits] at h
  omega
theorem wf_u32 {x : Int} (h : (Lit.int .u32 x).wf = true) : 0 ≤ x ∧ x < 4294967296 := by
  simp [Lit.wf, IntKind.min, IntKind.max, IntKind.signed, IntKind.bits] at h
  omega

end Go.Proofs.Ytceofnkjdkbebaa
