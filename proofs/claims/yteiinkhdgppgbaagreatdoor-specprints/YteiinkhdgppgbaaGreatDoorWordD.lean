/- Contract: the reference's Unhex. -/
import Derived.Test.YteiinkhdgppgbaaGreatDoorWordC
import Derived.Deep.AppendLies
import Derived.Deep.RegionLaw
import Derived.Deep.RegionHeld3
namespace Go.Proofs.YteiinkhdgppgbaaGreatDoor
open Go.RowKit
set_option linter.unusedVariables false
set_option linter.unusedSimpArgs false

theorem info5 : (Tryz.prog.info? 5).map (fun i => (i.zero, i.size, i.bytes)) = some (some (.int .u8 0), 1, 1) := by kernel_rfl
theorem info5_parts : ∃ i, Tryz.prog.info? 5 = some i ∧ i.zero = some (.int .u8 0) ∧ i.size = 1 ∧ i.bytes = 1 := by
  have h := info5
  cases hi : Tryz.prog.info? 5 with
  | none => rw [hi] at h; simp at h
  | some i =>
    rw [hi] at h
    simp only [Option.map_some, Option.some.injEq, Prod.mk.injEq] at h
    exact ⟨i, rfl, h.1, h.2.1, h.2.2⟩

theorem ownsRow_lit {w : World} {base k : Nat} {v : Value} {xs : List Value} (x : Value) (h : w.ownsRow base 5 1 v k xs) : ((w.alloc (.cells #[x] 5)).drew).ownsRow base 5 1 v k xs := by
  refine h.kept (row := none) ⟨rfl, rfl, rfl, by simp, fun i hi _ => Below.heap_alloc w _ i hi⟩ ?_
  cases v.ownBlock with
  | none => exact Or.inl rfl
  | some b => exact Or.inr (by simp)
theorem ownsRow_owned {w : World} {base k e : Nat} {v : Value} {xs : List Value} (h : w.ownsRow base e 1 v k xs) : ∀ b, v.ownBlock = some b → base ≤ b := by
  intro b hb
  rcases h.2 with ⟨rfl, _⟩ | ⟨g, cap, cur, rfl, hg, _⟩
  · simp [Value.ownBlock] at hb
  · simp only [Value.ownBlock, Option.some.injEq] at hb
    omega
theorem step_append_byte {ops : Array Oper} {o : Oper} {a : Act} {K : Act → World → Prop} {Q : Exit → Act → World → Prop} {E : Prop} {w : World} {base k : Nat} {v : Value} {xs : List Value} {b : Int}
    (hgd : o.guard = none) (s x : Operand) (ho : o.op = .call { callee := .builtin .append, args := #[s, x], argTypes := #[45, 45] })
    (hs : a.eval s = v) (hx : a.eval x = .slice (some ⟨w.heap.size, 0, none⟩) 1 1) (hown : w.ownsRow base 5 1 v k xs) (hk : k ≤ 1000000) (hbase : base ≤ w.heap.size)
    (h : ∀ v' w', w'.ownsRow base 5 1 v' (k + 1) (xs ++ [.int .u8 b]) → Below base w w' → K (a.put o.dst v') w') :
    if Region.wanted o (yielded ops a.tmps) = true then Oper.wp Tryz.prog o a (w.alloc (.cells #[.int .u8 b] 5)).drew K Q else E := by
  obtain ⟨i0, hi, hz0, hz1, hz2⟩ := info5_parts
  refine step_append_lies (w := (w.alloc (.cells #[.int .u8 b] 5)).drew) hgd s x 45 ho base 5 i0 (.int .u8 0) 1 1 Tryz.underlying45 hi hz0 hz1 hz2 rfl (by omega) v k xs hs (ownsRow_lit _ hown) ⟨w.heap.size, 0, none⟩ 1 1 [.int .u8 b] hx rfl ?_ ?_ (by omega) ?_ (by omega) ?_ (w.heap.size + 1) ?_ ?_
  · exact World.news_of_block (cs := #[.int .u8 b]) (heap_alloc_new w _)
  · intro u hu
    simp only [List.mem_cons, List.not_mem_nil, or_false] at hu
    subst hu
    rfl
  · have : maxLen = 9223372036854775807 := rfl
    omega
  · simp; omega
  · simp
  · intro g cap w1 hown1 hgrow hat hlt
    refine h _ w1 hown1 ?_
    exact (((Below.refl base w).alloc hbase _).drew).grown hgrow (by simp; omega) (ownsRow_owned hown)
theorem wrap_nib (p q : Nat) (hp : p < 16) (hq : q < 16) : IntKind.u8.wrap (IntKind.i64.wrap (IntKind.i64.wrap (16 * (p : Int)) + q)) = ((16 * p + q).toUInt8.toNat : Int) := by
  have all : ∀ p q : Fin 16, IntKind.u8.wrap (IntKind.i64.wrap (IntKind.i64.wrap (16 * (p.val : Int)) + q.val)) = ((16 * p.val + q.val).toUInt8.toNat : Int) := by decide +kernel
  exact all ⟨p, hp⟩ ⟨q, hq⟩
theorem byteCells_ints (l : List UInt8) : Lib.byteCells l = (l.map (fun c => (c.toNat : Int))).map (Value.int .u8) := by simp [Lib.byteCells]
theorem str_ints (l : List UInt8) : strOfNums (l.map (fun c => (c.toNat : Int))) = ⟨l.toArray⟩ := by
  rw [strOfNums]
  congr 2
  rw [List.map_map]
  conv => rhs; rw [← List.map_id l]
  refine List.map_congr_left fun c _ => ?_
  simp
theorem conv_nil (w : World) : (convert 45 9 (.slice none 0 0)).run Tryz.prog w = .ok (.string ⟨#[]⟩) w := by
  rw [run_convert_bytes_string w 45 9 5 none 0 0 Tryz.underlying45 Tryz.underlying5 Tryz.underlying9]
  simp [Conv.bytesToString]
  rfl
theorem digit_at (c : UInt8) (w : World) (p : Nat) (h : dv c = p) :
    Calls Tryz.prog 76 #[.int .u8 c.toNat] w fun e w' => e = .returned (.int .i64 p) ∧ w' = w := by rw [← h]; exact digit_any c w
theorem dv_at {s : ByteArray} {j j' p : Nat} (h : j < s.size) (e : j' = j) (hp : dv s[j] = p) (h' : j' < s.size) : dv s[j'] = p := by subst e; exact hp

set_option maxRecDepth 20000 in
set_option maxHeartbeats 1600000 in
theorem refUnhex_any (s : ByteArray) (w : World) (hs : s.size ≤ 1000000) :
    Calls Tryz.prog 58 #[.string s] w fun e w' => e = .returned (.tuple #[.string (unhexS s).1, .bool (unhexS s).2]) ∧ Below w.heap.size w w' := by
  by_cases hd : s.toList = [45]
  · have HU := hide (show unhexS s = (⟨#[]⟩, true) by rw [unhexS, if_pos hd])
    have hd' : (s.toList == [45]) = true := by rw [hd]; rfl
    clear hd
    go_enter Tryz.func58, Tryz.ntmps58
    go_wp2
    go_ret2
    rw [HU.out]
    exact ⟨rfl, Below.refl _ _⟩
  have hd' : (s.toList == [45]) = false := by rw [Bool.eq_false_iff]; intro h; exact hd (by simpa using h)
  go_enter Tryz.func58, Tryz.ntmps58
  go_wp2
  obtain ⟨i0, hi, hz0, hz1, hz2⟩ := info5_parts
  go_loopw [4, 5] (fun b i wr => ∃ (k : Nat), 2 * k ≤ s.size ∧ i = .int .i64 (2 * k) ∧ wr.ownsRow w.heap.size 5 1 b k (Lib.byteCells (outs s.data.toList k)) ∧ Hid (∀ i, i < k → okAt s.data.toList i) ∧ Below w.heap.size w wr) (fun _ i _ => s.size - (intOf i).toNat)
  case atStart =>
    exact ⟨0, Nat.zero_le _, rfl, World.ownsRow_nil _ _ _ _, hide (fun i hi => absurd hi (Nat.not_lt_zero _)), Below.refl _ w⟩
  case round =>
    obtain ⟨k, hk, rfl, hown, hall, hbel⟩ := hrel
    have HOWN := hide hown
    clear hown
    have HI := hide (And.intro hi (And.intro hz0 (And.intro hz1 hz2)))
    clear hi hz0 hz1 hz2
    by_cases hlt : 2 * k < s.size
    · by_cases h1 : 2 * k + 1 < s.size
      case neg =>
        have HF := hide (show unhexS s = (⟨#[]⟩, false) by rw [unhexS, if_neg hd, if_pos (Or.inr (by omega))])
        clear hd
        go_wp2
        go_ret2
        rw [HF.out]
        exact ⟨rfl, hbel⟩
      have HA := hide (at0_eq s (2 * k) hlt)
      have HA1 := hide (at0_eq s (2 * k + 1) h1)
      have HN := hide (show ¬ okAt s.data.toList k → unhexS s = (⟨#[]⟩, false) by
        intro h
        rw [unhexS, if_neg hd]
        split
        · rfl
        · rw [if_neg (fun h' => h (h' k (by omega)))])
      clear hd
      obtain ⟨p, hp⟩ : ∃ p, dv s[2 * k] = p := ⟨_, rfl⟩
      obtain ⟨q, hq⟩ : ∃ q, dv s[2 * k + 1] = q := ⟨_, rfl⟩
      have HP := hide hp
      have HQ := hide hq
      have cP : ∀ w, Calls Tryz.prog 76 #[.int .u8 s[2 * k].toNat] w fun e w' => e = .returned (.int .i64 p) ∧ w' = w := by
        intro w; rw [← hp]; exact digit_any _ w
      have cQ : ∀ w, Calls Tryz.prog 76 #[.int .u8 s[2 * k + 1].toNat] w fun e w' => e = .returned (.int .i64 q) ∧ w' = w := by
        intro w; rw [← hq]; exact digit_any _ w
      have CP := hide cP
      have CQ := hide cQ
      clear cP cQ hp hq
      by_cases h15 : (p : Int) > 15
      · have HF := hide (HN.out (fun h => by have := h.1; rw [HA.out, HP.out] at this; omega))
        go_wp2_with (first | (go_at_call 76; refine (CP.out _).mono ?_; rintro e w1 ⟨rfl, rfl⟩) | fail)
        go_ret2
        rw [HF.out]
        exact ⟨rfl, hbel⟩
      by_cases h16 : (q : Int) > 15
      · have HF := hide (HN.out (fun h => by have := h.2; rw [HA1.out, HQ.out] at this; omega))
        go_wp2_with (first | (go_at_call 76; (first | (with_reducible refine (CP.out _).mono ?_) | (with_reducible refine (CQ.out _).mono ?_)); rintro e w1 ⟨rfl, rfl⟩) | fail)
        go_ret2
        rw [HF.out]
        exact ⟨rfl, hbel⟩
      go_wp2_with (first | (go_at_call 76; (first | (with_reducible refine (CP.out _).mono ?_) | (with_reducible refine (CQ.out _).mono ?_)); rintro e w1 ⟨rfl, rfl⟩) | fail)
      have HT : True := trivial
      have hb0 : 0 ≤ 2 * (k : Int) := by omega
      have hb1 : 2 * (k : Int) < s.size := by omega
      have hb2 : 0 ≤ 2 * (k : Int) + 1 := by omega
      have hb3 : 2 * (k : Int) + 1 < s.size := by omega
      have hwr : IntKind.i64.wrap (2 * (k : Int) + 1) = 2 * k + 1 := IntWalk.i64_in _ (by omega)
      go_region_held3 (fun W => True) (exact trivial) (first | (go_at_call 76; first | (refine (digit_at _ _ p ?_).mono ?_; exact dv_at hlt (by omega) HP.out _; rintro e w1 ⟨rfl, rfl⟩) | (refine (digit_at _ _ q ?_).mono ?_; exact dv_at h1 (by omega) HQ.out _; rintro e w1 ⟨rfl, rfl⟩)) | (refine step_append_byte (by rfl) _ _ (by rfl) (by rfl) (by rfl) HOWN.out (by omega) hbel.size ?_; intro v' w2 ho hb; have HO2 := hide ho; have HB2 := hide hb; clear ho hb))
      all_goals (
        go_wp2
        go_roundw
        case rel =>
          refine ⟨k + 1, by omega, by go_num, ?_, ?_, hbel.trans HB2.out⟩
          · have h2 := HO2.out
            rw [wrap_nib p q (by omega) (by omega)] at h2
            rw [outs_succ, byteCells_append, outAt, HA.out, HA1.out, HP.out, HQ.out]
            exact h2
          · refine hide fun i hi => ?_
            by_cases hik : i = k
            · subst hik
              exact ⟨by rw [HA.out, HP.out]; omega, by rw [HA1.out, HQ.out]; omega⟩
            · exact hall.out i (by omega)
        case measure => simp [intOf]; omega)
    · have hks : 2 * k = s.size := by omega
      have HK : Hid (unhexS s = (⟨(outs s.data.toList k).toArray⟩, decide (0 < k))) := by
        refine hide ?_
        rw [unhexS, if_neg hd]
        by_cases h0 : k = 0
        · subst h0
          rw [if_pos (Or.inl (by omega))]
          rfl
        · rw [if_neg (by omega), if_pos (by rw [show s.size / 2 = k by omega]; exact hall.out), show s.size / 2 = k by omega]
          simp
          omega
      have hO := HOWN.out
      rw [byteCells_ints] at hO
      obtain ⟨ao, cap, hv, hO2⟩ := Own.ofRow hO
      have HO := hide hO2
      have hge : (s.size : Int) ≤ 2 * (k : Int) := by omega
      clear hO2 hO HOWN hks hd hk hlt
      subst hv
      rcases HO.out.2 with ⟨rfl, rfl, rfl⟩ | ⟨g, cur, rfl, _, hg, _, _, ht⟩
      · have hs0 : s.size = 0 := by omega
        have hs1 : ¬ 0 < s.size := by omega
        clear hge
        have hcv := conv_nil wr
        go_wp2
        go_ret2
        rw [HK.out]
        exact ⟨rfl, hbel⟩
      · have hcv := run_convert_bytes_arg (P := Tryz.prog) wr 45 5 Tryz.underlying45 Tryz.underlying5 g 0 k cap _ HO.out.1 (by intro i hi; rw [Nat.zero_add]; exact row_cell hg HO.out.1 ht i hi) 9 Tryz.underlying9
        rw [str_ints] at hcv
        clear ht hg
        go_wp2
        go_ret2
        rw [HK.out]
        exact ⟨rfl, hbel⟩
end Go.Proofs.YteiinkhdgppgbaaGreatDoor
