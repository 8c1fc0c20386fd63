/- ChainNone: of no table nothing comes; of no bytes no tokens. -/
import Derived.Test.YtblbbenfaafcoabChK
import Derived.Test.YtblbbenfaafcoabChQ
namespace Go.Proofs.Ytblbbenfaafcoab
open Go.RowKit Go.Maps
set_option linter.unusedVariables false
set_option linter.unusedSimpArgs false
attribute [local go_sem ↓] Go.wp_at_zero Go.wp_at_succ

theorem made_nil (bl : Int) (s : ByteArray) : made [] bl s = bys s s.size := by
  unfold made rnds
  simp [enc]
/-- One of the first k isn't a byte. -/
def badP (l : List Int) (k : Nat) : Prop := ∃ x ∈ l.take k, x < 0 ∨ 255 < x
theorem badP_succ (l : List Int) {k : Nat} (h : k < l.length) : badP l (k + 1) ↔ badP l k ∨ (gI l k < 0 ∨ 255 < gI l k) := by
  unfold badP
  rw [take_succ_gI l h]
  constructor
  · rintro ⟨x, hx, hb⟩
    rcases List.mem_append.1 hx with hx | hx
    · exact Or.inl ⟨x, hx, hb⟩
    · simp at hx
      subst hx
      exact Or.inr hb
  · rintro (⟨x, hx, hb⟩ | hb)
    · exact ⟨x, List.mem_append_left _ hx, hb⟩
    · exact ⟨gI l k, by simp, hb⟩

set_option maxRecDepth 20000 in
set_option maxHeartbeats 16000000 in
theorem cnone_walk (s : ByteArray) (ao : Option Addr) (n cap : Nat) (l : List Int) (w : World) (hsz : s.size ≤ 9223372036854775807) (hI : RdI w ao n l) (hn : n ≤ 9223372036854775807) :
    Calls Try.prog 4 #[.string s, .slice ao n cap] w fun e w' => e = .returned (.bool true) ∧ Below w.heap.size w w' := by
  go_enter Try.func4, Try.ntmps4
  by_cases hbig : 100 < s.size
  · have hb : (100 : Int) < (s.size : Int) := by omega
    go_wp2_with fail
    refine (awake5_any _).mono ?_
    rintro e w1 ⟨rfl, hb1⟩
    go_wp2
    go_ret
    exact ⟨rfl, hb1⟩
  have hb : ¬ (100 : Int) < (s.size : Int) := by omega
  by_cases hbig2 : 20 < n
  · have hc : (20 : Int) < (n : Int) := by omega
    go_wp2_with fail
    refine (awake5_any _).mono ?_
    rintro e w1 ⟨rfl, hb1⟩
    go_wp2
    go_ret
    exact ⟨rfl, hb1⟩
  have hc : ¬ (20 : Int) < (n : Int) := by omega
  go_wp2_with fail
  refine (awake5_any _).mono ?_
  rintro e w1 ⟨rfl, hb1⟩
  have hM0 : ReadsM w1 none 0 [] := ⟨rfl, Or.inl rfl⟩
  have HN := hide (new_any none 0 0 [] w1 hM0 (by omega))
  have HB1 := hide hb1
  clear hb1 hM0
  go_wp2_with fail
  refine (unhide HN).mono ?_
  rintro e w2 ⟨hE, hb2⟩
  rcases hE with ⟨k, hk, _⟩ | ⟨_, p, F, v0, v1, b2, b3, rfl, hT, hF⟩
  · omega
  have hT0 : TAt F p v0 v1 b2 b3 (tb 256) [] (lgs (tb 256)) w2 := hT
  have hk : Tok (tb 256) [] := tok_begin
  have hl256 : (tb 256).length = 256 := tb_len 256
  have HB2 := hide (HB1.out.trans (hb2.mono HB1.out.size))
  have HI2 := hide (hI.kept HB2.out)
  have HT2 := hide hT0
  have hl := hI.1
  have HIT := hide (show ∀ x : Int, inT (tb 256) x ↔ ¬ (x < 0 ∨ 255 < x) from fun x => by unfold inT; rw [hl256]; omega)
  have HK := hide hk
  clear hT hT0 hF hb2 HN hI hl256 hk
  generalize tb 256 = tx at *
  go_wp2
  go_loop [8, 9] (fun b i => ∃ (k : Nat) (bd : Bool), b = .bool bd ∧ i = .int .i64 k ∧ k ≤ n ∧ Hid (bd = true ↔ badP l k)) (fun _ i => n - (intOf i).toNat)
  case atStart => exact ⟨0, false, rfl, rfl, Nat.zero_le _, hide (by unfold badP; simp)⟩
  case round =>
    obtain ⟨k, bd, rfl, rfl, hkn, HBD⟩ := hrel
    by_cases hlt : k < n
    · have hk0 : (0 : Int) ≤ (k : Int) := by omega
      have hk1 : (k : Int) < (n : Int) := by omega
      rcases HI2.out.2 with h0 | ⟨b, off, rfl, hbl, hcc⟩
      · omega
      have c0 := hcc k hlt
      have HS := hide (badP_succ l (show k < l.length by omega))
      clear hcc
      generalize gI l k = x at *
      cases bd with
      | true =>
        go_wp2
        go_round
        case rel => exact ⟨k + 1, true, rfl, by go_num, by omega, hide (by rw [HS.out]; simp [HBD.out.1 rfl])⟩
        case measure => simp [intOf]; omega
      | false =>
        have hnb : ¬ badP l k := fun h => by have := HBD.out.2 h; cases this
        have HNB := hide hnb
        clear hnb
        by_cases h1 : x < 0
        · have h1d : decide (x < 0) = true := by simpa using h1
          go_wp2
          go_round
          case rel => exact ⟨k + 1, true, rfl, by go_num, by omega, hide (by rw [HS.out]; simp [h1])⟩
          case measure => simp [intOf]; omega
        · have h1d : decide (x < 0) = false := by simpa using h1
          by_cases h2 : 255 < x
          · have h2d : decide (255 < x) = true := by simpa using h2
            go_wp2
            go_round
            case rel => exact ⟨k + 1, true, rfl, by go_num, by omega, hide (by rw [HS.out]; simp [h2])⟩
            case measure => simp [intOf]; omega
          · have h2d : decide (255 < x) = false := by simpa using h2
            go_wp2
            go_round
            case rel => exact ⟨k + 1, false, rfl, by go_num, by omega, hide (by rw [HS.out]; have := HNB.out; constructor; · { intro e; cases e }; · { rintro (e | e | e); · { exact absurd e this }; · { omega }; · { omega } })⟩
            case measure => simp [intOf]; omega
    · obtain rfl : k = n := by omega
      have HSP := hide (spans_any w2 HT2.out HK.out ao k cap l HI2.out (by omega))
      have htk : l.take k = l := by rw [← hl]; exact List.take_length
      have HBA : Hid (bd = true ↔ ∃ x ∈ l, ¬ inT tx x) := hide (by
        rw [HBD.out]
        unfold badP
        rw [htk]
        constructor
        · rintro ⟨x, hx, h⟩; exact ⟨x, hx, fun e => (HIT.out x).1 e h⟩
        · rintro ⟨x, hx, h⟩; refine ⟨x, hx, ?_⟩; by_cases e : x < 0 ∨ 255 < x; · { exact e }; · { exact absurd ((HIT.out x).2 e) h })
      have hml : (bys s s.size).length = s.size := bys_len s s.size (Nat.le_refl _)
      have CE := hide (fun (W : World) (h : Below w2.heap.size w2 W) (t : ByteArray) (ht : t.size ≤ 100000) => encode_any W (HT2.out.keptB h) HK.out t ht)
      clear HBD htk
      go_wp2_with fail
      refine (unhide HSP).mono ?_
      rintro e w3 ⟨hE, hb3⟩
      have hval : ∃ (av : Option Addr) (m cv : Nat), e = .returned (.slice av m cv) ∧ ((bd = true ∧ m = 0) ∨ (bd = false ∧ m = k)) := by
        rcases hE with ⟨hin, v, rfl, hv⟩ | ⟨hno, rfl⟩
        · obtain ⟨av, cv, rfl⟩ := row_form hv
          refine ⟨av, k, cv, rfl, Or.inr ⟨?_, rfl⟩⟩
          cases bd with
          | false => rfl
          | true => obtain ⟨x, hx, h⟩ := HBA.out.1 rfl; exact absurd (hin x hx) h
        · exact ⟨none, 0, 0, rfl, Or.inl ⟨HBA.out.2 hno, rfl⟩⟩
      obtain ⟨av, m, cv, rfl, hcase⟩ := hval
      have HC := hide hcase
      have HB3 := hide hb3
      have HE0 := hide (CE.out w3 hb3 ⟨#[]⟩ (by decide))
      rw [made_nil] at HE0
      clear hE hcase hb3 HSP
      go_wp2_with fail
      refine (encode_nil w3 s).mono ?_
      rintro e w4 ⟨rfl, hw⟩
      have hw2 := hw.symm
      clear hw
      subst hw2
      go_wp2_with fail
      refine (steps_nil w3 s).mono ?_
      rintro e w4 ⟨rfl, hw⟩
      have hw2 := hw.symm
      clear hw
      subst hw2
      go_wp2_with fail
      refine (unhide HE0).mono ?_
      rintro e w4 ⟨⟨v, rfl, hv4⟩, hb4⟩
      obtain ⟨a4, c4, hvv⟩ := row_form hv4
      subst hvv
      have HB4 := hide (HB3.out.trans (hb4.mono HB3.out.size))
      have HE1 := hide (CE.out w4 HB4.out s (by omega))
      rw [made_nil, hml] at HE1
      have hz : (bys (⟨#[]⟩ : ByteArray) (⟨#[]⟩ : ByteArray).size).length = 0 := rfl
      rw [hz]
      clear hv4 hb4 HE0 hz hml
      go_wp2_with fail
      refine (unhide HE1).mono ?_
      rintro e w5 ⟨⟨v, rfl, hv5⟩, hb5⟩
      obtain ⟨a5, c5, hvv⟩ := row_form hv5
      subst hvv
      have HB5 := hide (HB4.out.trans (hb5.mono HB4.out.size))
      clear hv5 hb5 HE1
      rcases HC.out with ⟨rfl, rfl⟩ | ⟨rfl, rfl⟩
      · go_wp2
        go_ret
        exact ⟨rfl, HB2.out.trans (HB5.out.mono HB2.out.size)⟩
      · go_wp2
        go_ret
        exact ⟨rfl, HB2.out.trans (HB5.out.mono HB2.out.size)⟩

end Go.Proofs.Ytblbbenfaafcoab
