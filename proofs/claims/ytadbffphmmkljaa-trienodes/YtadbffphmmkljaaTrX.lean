/- What a trie of a table tells; the law's example; of no trie nothing comes. -/
import Derived.Test.YtadbffphmmkljaaTrW
import Derived.Test.YtadbffphmmkljaaTrL
import Derived.Test.YtadbffphmmkljaaTkK
namespace Go.Proofs.Ytadbffphmmkljaa
open Go.RowKit Go.Maps Go.Shelf
set_option linter.unusedVariables false
set_option linter.unusedSimpArgs false
attribute [local go_sem ↓] Go.wp_at_zero Go.wp_at_succ

set_option maxRecDepth 20000 in
set_option maxHeartbeats 4000000 in
/-- The same numbers twice. -/
theorem tints_same (w : World) (A B : Nat) (va vb : Value) (l : List Int) (ha : w.ownsRow A 3 1 va l.length (Mk.iv l)) (hb : w.ownsRow B 3 1 vb l.length (Mk.iv l)) (hn : l.length ≤ 1000000) :
    Calls Try.prog 14 #[va, vb] w fun e w' => e = .returned (.bool true) ∧ Below w.heap.size w w' := by
  obtain ⟨a1, c1, rfl⟩ := Mk.row_form ha
  obtain ⟨a2, c2, rfl⟩ := Mk.row_form hb
  have HA := hide ha
  have HB := hide hb
  clear ha hb
  go_enter Try.func14, Try.ntmps14
  go_wp2
  go_loopw [5] (fun i wr => ∃ (k : Nat), i = .int .i64 k ∧ k ≤ l.length ∧ Hid (Below w.heap.size w wr)) (fun i _ => l.length - (intOf i).toNat)
  case atStart => exact ⟨0, rfl, Nat.zero_le _, hide (Below.refl _ _)⟩
  case round =>
    obtain ⟨k, rfl, hk, HBl⟩ := hrel
    by_cases hlt : k < l.length
    · have hk0 : (0 : Int) ≤ (k : Int) := by omega
      have hk1 : (k : Int) < (l.length : Int) := by omega
      obtain ⟨g, cg, hvg, hgl, c0⟩ := Mk.row_at (Mk.row_keptB HA.out HBl.out) hlt
      obtain ⟨g2, cg2, hvg2, hgl2, c02⟩ := Mk.row_at (Mk.row_keptB HB.out HBl.out) hlt
      simp only [Value.slice.injEq] at hvg hvg2
      obtain ⟨rfl, _, rfl⟩ := hvg
      obtain ⟨rfl, _, rfl⟩ := hvg2
      generalize Mk.gI l k = x at *
      go_wp2
      go_quiet (fail)
      have HD : Hid (Below w.heap.size w (wr.drewN nq)) := hide (HBl.out.trans ⟨rfl, rfl, rfl, Nat.le_refl _, fun _ _ => rfl⟩)
      clear c0 c02
      generalize wr.drewN nq = wd at *
      go_wp2
      exact ⟨⟨k + 1, by go_num, by omega, HD⟩, by simp [intOf]; omega⟩
    · obtain rfl : k = l.length := by omega
      go_wp2
      go_ret
      exact ⟨rfl, HBl.out⟩

/- What a trie of a table tells. -/
section
variable {ρ : Ren} {B r : Nat} {tx : List ByteArray} {mg : List (Int × Int)} {w : World}
theorem lsT_64 (hk : Tok tx mg) : ∀ s ∈ lsT tx, s.length ≤ 64 := fun s hs => by
  obtain ⟨j, hj, rfl⟩ := List.mem_iff_getElem.1 hs
  rw [lsT_len] at hj
  have e1 := lsT_get tx hj
  rw [List.getElem?_eq_getElem (by rw [lsT_len]; exact hj)] at e1
  rw [Option.some.inj e1]
  have := hk.sz j hj
  simpa using this
theorem tri_begin (h : Tri B r tx w) (x : ByteArray) (hx : x.size ≤ 900000) :
    Calls Try.prog 15 #[.pointer (some ⟨r, 0, none⟩), .string x] w fun e w' => (∃ ao n cap, e = .returned (.slice ao n cap) ∧ n = (beT (lsT tx) x.data.toList x.size).length ∧ w'.ownsRow w.heap.size 3 1 (.slice ao n cap) n (nv (beT (lsT tx) x.data.toList x.size))) ∧ Below w.heap.size w w' := by
  obtain ⟨bk, mp, h1⟩ := h.read
  exact tbegin_any h1 x hx
theorem tri_within (Ly : Lays.n189 Try.prog ρ) (hf : ρ.f 189 = 28) (h : Tri B r tx w) (hk : Tok tx mg) (x : ByteArray) (hx : x.size ≤ 9223372036854775806) :
    Calls Try.prog 16 #[.pointer (some ⟨r, 0, none⟩), .string x] w fun e w' => (∃ ao n cap, e = .returned (.slice ao n cap) ∧ n = (wiT (lsT tx) x.data.toList).length ∧ w'.ownsRow w.heap.size 3 1 (.slice ao n cap) n (nv (wiT (lsT tx) x.data.toList))) ∧ Below w.heap.size w w' := by
  obtain ⟨bk, mp, h1⟩ := h.read
  exact twithin_any Ly hf h1 (lsT_nodup hk) (lsT_64 hk) (by rw [lsT_len]; exact hk.cap) x hx
theorem tri_longer (Ly : Lays.n189 Try.prog ρ) (hf : ρ.f 189 = 28) (h : Tri B r tx w) (hk : Tok tx mg) (x : ByteArray) (hx : x.size ≤ 9223372036854775806) :
    Calls Try.prog 17 #[.pointer (some ⟨r, 0, none⟩), .string x] w fun e w' => (∃ ao n cap, e = .returned (.slice ao n cap) ∧ n = (loT (lsT tx) x.data.toList).length ∧ w'.ownsRow w.heap.size 3 1 (.slice ao n cap) n (nv (loT (lsT tx) x.data.toList))) ∧ Below w.heap.size w w' := by
  obtain ⟨bk, mp, h1⟩ := h.read
  exact tlonger_any Ly hf h1 (lsT_nodup hk) (lsT_64 hk) (by rw [lsT_len]; exact hk.cap) x hx
theorem tri_longest (h : Tri B r tx w) (x : ByteArray) (hx : x.size ≤ 900000) :
    Calls Try.prog 12 #[.pointer (some ⟨r, 0, none⟩), .string x] w fun e w' => e = .returned (.tuple #[.int .i64 (((beT (lsT tx) x.data.toList x.size).getLastD 0 : Nat) : Int), .bool (decide (0 < (beT (lsT tx) x.data.toList x.size).length))]) ∧ Below w.heap.size w w' := by
  obtain ⟨bk, mp, h1⟩ := h.read
  exact tlongest_any h1 x hx
theorem tri_count (h : Tri B r tx w) (x : ByteArray) (hx : x.size ≤ 9223372036854775806) :
    Calls Try.prog 13 #[.pointer (some ⟨r, 0, none⟩), .string x] w fun e w' => e = .returned (.int .i64 ((wiT (lsT tx) x.data.toList).length : Int)) ∧ Below w.heap.size w w' := by
  obtain ⟨bk, mp, h1⟩ := h.read
  exact tcount_any h1 x hx
theorem tri_nodes (h : Tri B r tx w) :
    Calls Try.prog 19 #[.pointer (some ⟨r, 0, none⟩)] w fun e w' => e = .returned (.int .i64 (cnT (lsT tx) tx.length : Int)) ∧ w' = w := by
  obtain ⟨bk, mp, h1⟩ := h.read
  exact tnodes_any h1
end

theorem ex11b : beT (lsT (stT exM 2).1) [97, 98, 99, 100] 4 = [97, 256, 257] := by decide +kernel
theorem ex11l : loT (lsT (stT exM 2).1) [97, 98] = [257] := by decide +kernel

set_option maxRecDepth 20000 in
set_option maxHeartbeats 4000000 in
theorem awake11_any {ρ : Ren} (Ly : Lays.n189 Try.prog ρ) (hf : ρ.f 189 = 28) (w : World) : Calls Try.prog 6 #[] w fun e w' => e = .returned (.bool true) ∧ Below w.heap.size w w' := by
  have hlow := low1 w (.cells #[.int .i64 97, .int .i64 98, .int .i64 256, .int .i64 99] 44)
  have hM : ReadsM (w.alloc (.cells #[.int .i64 97, .int .i64 98, .int .i64 256, .int .i64 99] 44)) (some ⟨w.heap.size, 0, none⟩) 2 exM := by
    refine ⟨rfl, Or.inr ⟨_, _, rfl, fun i hi => ?_⟩⟩
    rcases (show i = 0 ∨ i = 1 by omega) with rfl | rfl
    · simp [gm, exM]
    · simp [gm, exM]
  have HN := hide (new_any _ 2 2 exM _ hM (by omega))
  have HLO := hide hlow
  clear hM hlow
  go_enter Try.func6, Try.ntmps6
  go_wp2_with fail
  refine (unhide HN).mono ?_
  rintro e w1 ⟨hE, hb1⟩
  have HB1 := hide (HLO.out.trans (hb1.mono HLO.out.size))
  rcases hE with ⟨k, hk, _, hne, _⟩ | ⟨_, p, F, v0, v1, b2, b3, rfl, hT, hF⟩
  · exfalso
    rcases (show k = 0 ∨ k = 1 by omega) with rfl | rfl
    · exact hne ex0
    · exact hne ex1
  have HTR := hide (trienew_any hT (stT_tok exM 2))
  clear hT hF hb1 HN
  go_wp2_with fail
  refine (unhide HTR).mono ?_
  rintro e w2 ⟨r, rfl, hTr, hb2⟩
  have HT2 := hide hTr
  have HB2 := hide (HB1.out.trans (hb2.mono HB1.out.size))
  have HBG := hide (tri_begin hTr ⟨#[97, 98, 99, 100]⟩ (by decide))
  have e1 : beT (lsT (stT exM 2).1) (⟨#[97, 98, 99, 100]⟩ : ByteArray).data.toList (⟨#[97, 98, 99, 100]⟩ : ByteArray).size = [97, 256, 257] := ex11b
  rw [e1] at HBG
  clear hTr hb2 HTR e1
  go_wp2_with fail
  refine (unhide HBG).mono ?_
  rintro e w3 ⟨⟨ao, n, cap, rfl, hn, hrow⟩, hb3⟩
  obtain rfl : n = 3 := hn
  have hl4 := low1 w3 (.cells #[.int .i64 97, .int .i64 256, .int .i64 257] 3)
  have HI := hide (tints_same _ _ w3.heap.size _ (.slice (some ⟨w3.heap.size, 0, none⟩) 3 3) [97, 256, 257] (Mk.row_keptB hrow hl4) (World.ownsRow_lit w3 #[.int .i64 97, .int .i64 256, .int .i64 257] 3 (Nat.le_refl _) (by unfold maxLen; omega) rfl) (by simp))
  have hb34 := hb3.trans (hl4.mono hb3.size)
  have HB4 := hide (HB2.out.trans (hb34.mono HB2.out.size))
  have HT4 := hide (HT2.out.kept hb34)
  clear hrow hb3 hl4 hb34 HBG
  go_wp2_with fail
  refine (unhide HI).mono ?_
  rintro e w5 ⟨rfl, hb5⟩
  have HB5 := hide (HB4.out.trans (hb5.mono HB4.out.size))
  have HLG := hide (tri_longer Ly hf (HT4.out.kept hb5) (stT_tok exM 2) ⟨#[97, 98]⟩ (by decide))
  have e1 : loT (lsT (stT exM 2).1) (⟨#[97, 98]⟩ : ByteArray).data.toList = [257] := ex11l
  rw [e1] at HLG
  clear hb5 HI e1
  go_wp2_with fail
  refine (unhide HLG).mono ?_
  rintro e w6 ⟨⟨ao2, n, cap2, rfl, hn, hrow⟩, hb3⟩
  obtain rfl : n = 1 := hn
  have hl4 := low1 w6 (.cells #[.int .i64 257] 3)
  have HI := hide (tints_same _ _ w6.heap.size _ (.slice (some ⟨w6.heap.size, 0, none⟩) 1 1) [257] (Mk.row_keptB hrow hl4) (World.ownsRow_lit w6 #[.int .i64 257] 1 (Nat.le_refl _) (by unfold maxLen; omega) rfl) (by simp))
  have hb34 := hb3.trans (hl4.mono hb3.size)
  have HB7 := hide (HB5.out.trans (hb34.mono HB5.out.size))
  clear hrow hb3 hl4 hb34 HLG
  go_wp2_with fail
  refine (unhide HI).mono ?_
  rintro e w8 ⟨rfl, hb5⟩
  have HB8 := hide (HB7.out.trans (hb5.mono HB7.out.size))
  clear hb5 HI
  go_wp2
  go_ret
  exact ⟨rfl, HB8.out⟩
end Go.Proofs.Ytadbffphmmkljaa
