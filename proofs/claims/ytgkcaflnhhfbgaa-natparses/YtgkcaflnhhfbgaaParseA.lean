/- Contracts: isPrinted, groupValue, Parse. -/
import Derived.Test.YtgkcaflnhhfbgaaLawA
namespace Go.Proofs.Ytgkcaflnhhfbgaa
open Go.RowKit
set_option linter.unusedVariables false
set_option linter.unusedSimpArgs false

/-- A text's bytes as numbers. -/
def nums (s : ByteArray) : List Int := s.data.toList.map (fun c => (c.toNat : Int))
theorem nums_length (s : ByteArray) : (nums s).length = s.size := by rw [nums, List.length_map, Array.length_toList]; rfl
theorem nums_getD (s : ByteArray) (k : Nat) (h : k < s.size) : (nums s).getD k 0 = (s[k].toNat : Int) := by
  have h' : k < s.data.toList.length := by rw [Array.length_toList]; exact h
  rw [nums, List.getD_eq_getElem?_getD, List.getElem?_map, List.getElem?_eq_getElem h']
  rfl
theorem nums_range (s : ByteArray) : ∀ c ∈ nums s, 0 ≤ c ∧ c < 256 := by
  intro c hc
  obtain ⟨u, _, rfl⟩ := List.mem_map.1 hc
  have := u.toNat_lt
  omega
theorem nums_inj {s t : ByteArray} (h : nums s = nums t) : s = t := by
  have h1 : s.data.toList = t.data.toList := by
    have inj : ∀ (a b : List UInt8), a.map (fun c => (c.toNat : Int)) = b.map (fun c => (c.toNat : Int)) → a = b := by
      intro a
      induction a with
      | nil => intro b hb; cases b with
        | nil => rfl
        | cons x r => simp at hb
      | cons x r ih => intro b hb; cases b with
        | nil => simp at hb
        | cons y q =>
          simp only [List.map_cons, List.cons.injEq] at hb
          rw [ih q hb.2, UInt8.toNat_inj.1 (by omega : x.toNat = y.toNat)]
    exact inj _ _ h
  apply ByteArray.ext
  exact Array.toList_inj.1 h1

/-- Is it a digit? -/
def isDg (c : Int) : Bool := decide (48 ≤ c ∧ c ≤ 57)
/-- Is the text a number as it is printed? -/
def printed (l : List Int) : Bool := l.all isDg && (l == [48] || (!l.isEmpty && l.getD 0 0 != 48))

theorem nums_toList (s : ByteArray) : nums s = s.toList.map (fun c => (c.toNat : Int)) := by rw [nums, ByteArray.toList_eq]
theorem size_toList (s : ByteArray) : s.toList.length = s.size := by rw [ByteArray.toList_eq, Array.length_toList]; rfl

theorem all_take_succ (l : List Int) (k : Nat) (h : k < l.length) : (l.take (k + 1)).all isDg = ((l.take k).all isDg && isDg (l.getD k 0)) := by
  rw [take_getD l k h, List.all_append]
  simp

set_option maxHeartbeats 800000 in
theorem isPrinted_any (s : ByteArray) (w : World) (hs : s.size ≤ 10000) :
    Calls Try.prog 32 #[.string s] w fun e w' => e = .returned (.bool (printed (nums s))) ∧ w' = w := by
  go_enter Try.func32, Try.ntmps32
  go_wp2
  go_loop [6] (fun i => ∃ k : Nat, k ≤ s.size ∧ i = .int .i64 k ∧ Hid (((nums s).take k).all isDg = true)) (fun i => s.size - (intOf i).toNat)
  case atStart => exact ⟨0, Nat.zero_le _, rfl, hide rfl⟩
  case round =>
    obtain ⟨k, hk, rfl, hall⟩ := hrel
    by_cases hlt : k < s.size
    · have hnk : Hid ((nums s).getD k 0 = (s[k].toNat : Int)) := hide (nums_getD s k hlt)
      have hno : ∀ c, isDg c = false → (nums s).getD k 0 = c → printed (nums s) = false := by
        intro c hc he
        have : (nums s).all isDg = false := by
          rw [List.all_eq_false]
          refine ⟨c, ?_, by simp [hc]⟩
          rw [← he, List.getD_eq_getElem?_getD, List.getElem?_eq_getElem (by rw [nums_length]; exact hlt)]
          exact List.getElem_mem _
        simp [printed, this]
      have HNO := hide hno
      clear hno
      by_cases h1 : (s[k].toNat : Int) < 48
      · have HP := hide (HNO.out _ (by simp [isDg]; omega) hnk.out)
        clear hall
        go_wp2
        go_ret
        exact ⟨by rw [HP.out]; rfl, rfl⟩
      · by_cases h2 : 57 < (s[k].toNat : Int)
        · have HP := hide (HNO.out _ (by simp [isDg]; omega) hnk.out)
          clear hall
          go_wp2
          go_ret
          exact ⟨by rw [HP.out]; rfl, rfl⟩
        · have HA : Hid (((nums s).take (k + 1)).all isDg = true) := by
            rw [all_take_succ _ _ (by rw [nums_length]; exact hlt), hall.out, hnk.out]
            exact hide (by simp [isDg]; omega)
          clear hall
          go_wp2
          go_round
          case rel => exact ⟨k + 1, by omega, by go_num, HA⟩
          case measure => simp [intOf]; omega
    · have HA : Hid ((nums s).all isDg = true) := by
        have h1 := hall.out
        rw [List.take_of_length_le (by rw [nums_length]; omega)] at h1
        exact hide h1
      clear hall
      by_cases h1 : s.toList = [48]
      · have HP : Hid (printed (nums s) = true) := by
          have e : nums s = [48] := by rw [nums_toList, h1]; rfl
          rw [e]; exact hide (by decide)
        go_wp2
        go_ret
        exact ⟨by rw [HP.out]; rfl, rfl⟩
      · by_cases h2 : s.toList = []
        · have HP : Hid (printed (nums s) = false) := by
            have e : nums s = [] := by rw [nums_toList, h2]; rfl
            rw [e]; exact hide (by decide)
          go_wp2
          go_ret
          exact ⟨by rw [HP.out]; rfl, rfl⟩
        · have hpos : 0 < s.size := by rw [← size_toList]; exact List.length_pos_iff.2 h2
          have h1' : (s.toList == [48]) = false := by simpa using h1
          have h2' : s.toList.isEmpty = false := by simpa using h2
          have HP : Hid (printed (nums s) = (((s[0]'hpos).toNat : Int) != 48)) := by
            have e1 : (nums s == [48]) = false := by
              rw [beq_eq_false_iff_ne]
              intro e
              apply h1
              have : nums s = nums ⟨#[48]⟩ := by rw [e]; rfl
              rw [nums_inj this, ByteArray.toList_eq]
            have e2 : (nums s).isEmpty = false := by
              rw [List.isEmpty_eq_false_iff]
              intro e
              have := nums_length s
              rw [e] at this
              simp at this
              omega
            have e3 := nums_getD s 0 hpos
            exact hide (by rw [printed, HA.out, e1, e2, e3]; simp)
          clear h1 h2
          go_wp2
          all_goals (go_ret; exact ⟨by rw [HP.out]; rfl, rfl⟩)

/-- The number that digits of a text tell, the highest first. -/
def tv (l : List Int) : Int := l.foldl (fun a c => 10 * a + (c - 48)) 0

theorem foldl_tv (l : List Int) : ∀ a : Int, l.foldl (fun a c => 10 * a + (c - 48)) a = a * 10 ^ l.length + tv l := by
  induction l with
  | nil => intro a; simp [tv]
  | cons x r ih =>
    intro a
    have h1 := ih (10 * a + (x - 48))
    have h2 := ih (10 * 0 + (x - 48))
    simp only [tv, List.foldl_cons, List.length_cons, Int.pow_succ] at h1 h2 ⊢
    rw [h1, h2]
    simp only [Int.add_mul, Int.mul_zero, Int.zero_add]
    rw [show 10 * a * 10 ^ r.length = a * (10 ^ r.length * 10) by rw [Int.mul_comm 10 a, Int.mul_assoc, Int.mul_comm 10]]
    omega

theorem tv_append (a b : List Int) : tv (a ++ b) = tv a * 10 ^ b.length + tv b := by
  have := foldl_tv b (tv a)
  rw [← this, tv, tv, List.foldl_append]

theorem tv_snoc (a : List Int) (c : Int) : tv (a ++ [c]) = 10 * tv a + (c - 48) := by
  rw [tv, List.foldl_append]; rfl

theorem tv_bound (l : List Int) (h : l.all isDg = true) : 0 ≤ tv l ∧ tv l < 10 ^ l.length := by
  induction l with
  | nil => simp [tv]
  | cons x r ih =>
    simp only [List.all_cons, Bool.and_eq_true] at h
    have h1 := ih h.2
    have h2 : 48 ≤ x ∧ x ≤ 57 := by simpa [isDg] using h.1
    have e : tv (x :: r) = (x - 48) * 10 ^ r.length + tv r := by
      have := tv_append [x] r
      simpa [tv] using this
    rw [e, List.length_cons, Int.pow_succ]
    have hp := pow_pos' (show (0 : Int) < 10 by decide) r.length
    have h3 : 0 ≤ (x - 48) * 10 ^ r.length := Int.mul_nonneg (by omega) (by omega)
    have h4 : (x - 48) * 10 ^ r.length ≤ 9 * 10 ^ r.length := Int.mul_le_mul_of_nonneg_right (by omega) (by omega)
    omega

theorem all_take {l : List Int} (h : l.all isDg = true) (k : Nat) : (l.take k).all isDg = true := by
  rw [List.all_eq_true] at h ⊢
  intro x hx
  exact h x (List.mem_of_mem_take hx)
theorem all_drop {l : List Int} (h : l.all isDg = true) (k : Nat) : (l.drop k).all isDg = true := by
  rw [List.all_eq_true] at h ⊢
  intro x hx
  exact h x (List.mem_of_mem_drop hx)
theorem all_getD {l : List Int} (h : l.all isDg = true) (k : Nat) (hk : k < l.length) : 48 ≤ l.getD k 0 ∧ l.getD k 0 ≤ 57 := by
  rw [List.all_eq_true] at h
  have := h (l.getD k 0) (by rw [List.getD_eq_getElem?_getD, List.getElem?_eq_getElem hk]; exact List.getElem_mem _)
  simpa [isDg] using this

set_option maxHeartbeats 400000 in
theorem groupValue_any (s : ByteArray) (w : World) (hs : s.size ≤ 9) (hd : (nums s).all isDg = true) :
    Calls Try.prog 34 #[.string s] w fun e w' => e = .returned (.int .u32 (tv (nums s))) ∧ w' = w := by
  have HD := hide hd
  clear hd
  go_enter Try.func34, Try.ntmps34
  go_wp2
  go_loop [3, 7] (fun v i => ∃ (k : Nat) (x : Int), k ≤ s.size ∧ i = .int .i64 k ∧ v = .int .u32 x ∧ 0 ≤ x ∧ x < 1000000000 ∧ Hid (x = tv ((nums s).take k))) (fun _ i => s.size - (intOf i).toNat)
  case atStart => exact ⟨0, 0, Nat.zero_le _, rfl, rfl, by omega, by omega, hide rfl⟩
  case round =>
    obtain ⟨k, x, hk, rfl, rfl, hx0, hx1, hx⟩ := hrel
    by_cases hlt : k < s.size
    · have hg := nums_getD s k hlt
      have hdg := all_getD HD.out k (by rw [nums_length]; exact hlt)
      rw [hg] at hdg
      have hx8 : x < 100000000 := by
        rw [hx.out]
        have h1 := (tv_bound _ (all_take HD.out k)).2
        have h2 := pow_mono (show (1 : Int) < 10 by decide) (show ((nums s).take k).length ≤ 8 by rw [List.length_take]; omega)
        have h3 : (10 : Int) ^ 8 = 100000000 := by decide
        omega
      have HX : Hid (x * 10 + ((s[k].toNat : Int) - 48) = tv ((nums s).take (k + 1))) := by
        rw [take_getD _ k (by rw [nums_length]; exact hlt), tv_snoc, hg, ← hx.out, Int.mul_comm]
        exact hide rfl
      clear hg hx
      go_wp2
      go_round
      case rel => exact ⟨k + 1, _, by omega, by go_num, rfl, by omega, by omega, HX⟩
      case measure => simp [intOf]; omega
    · have HX : Hid (x = tv (nums s)) := by
        have h1 := hx.out
        rw [List.take_of_length_le (by rw [nums_length]; omega)] at h1
        exact hide h1
      clear hx
      go_wp2
      go_ret
      exact ⟨by rw [← HX.out]; rfl, rfl⟩

theorem nums_extract (s : ByteArray) (a b : Nat) : nums (s.extract a b) = ((nums s).take b).drop a := by
  rw [nums, nums, ByteArray.data_extract, Array.toList_extract, List.extract_eq_take_drop, List.map_take, List.map_drop, ← List.drop_take]

theorem size_extract' (s : ByteArray) (a b : Nat) (hb : b ≤ s.size) : (s.extract a b).size = b - a := by
  rw [← nums_length, nums_extract, List.length_drop, List.length_take, nums_length]; omega

set_option maxHeartbeats 400000 in
theorem parse_long (s : ByteArray) (w : World) (hs : 10000 < s.size) (hm : s.size ≤ 9223372036854775807) :
    Calls Try.prog 14 #[.string s] w fun e w' => e = .returned (.tuple #[.agg #[.slice none 0 0], .bool false]) ∧ Below w.heap.size w w' := by
  go_enter Try.func14, Try.ntmps14
  go_wp2
  refine bodyPost_ret (v := .tuple #[.agg #[.slice none 0 0], .bool false]) (by simp [results, Try.results14, go_sem]) rfl ⟨rfl, ?_⟩
  exact below_alloc _ _

set_option maxHeartbeats 400000 in
theorem parse_no (s : ByteArray) (w : World) (hs : s.size ≤ 10000) (hp : printed (nums s) = false) :
    Calls Try.prog 14 #[.string s] w fun e w' => e = .returned (.tuple #[.agg #[.slice none 0 0], .bool false]) ∧ Below w.heap.size w w' := by
  have HP := hide hp
  clear hp
  go_enter Try.func14, Try.ntmps14
  go_wp2_with fail
  refine (isPrinted_any s _ hs).mono ?_
  rintro e w1 ⟨rfl, hw⟩
  rw [HP.out]
  subst hw
  go_wp2
  refine bodyPost_ret (v := .tuple #[.agg #[.slice none 0 0], .bool false]) (by simp [results, Try.results14, go_sem]) rfl ⟨rfl, ?_⟩
  exact below_alloc _ _

set_option maxHeartbeats 1600000 in
theorem parse_yes (s : ByteArray) (w : World) (hs : s.size ≤ 10000) (hp : printed (nums s) = true) :
    Calls Try.prog 14 #[.string s] w fun e w' => ∃ ao m, e = .returned (.tuple #[.agg #[.slice ao m m], .bool true]) ∧ IsNat w' ao m (tv (nums s)) ∧ m ≤ s.size ∧ Below w.heap.size w w' := by
  have HP := hide hp
  have HA : Hid ((nums s).all isDg = true) := by
    rw [printed, Bool.and_eq_true] at hp
    exact hide hp.1
  clear hp
  obtain ⟨W, hW, hbW, hcW, hsW⟩ := one_box w (.slice none 0 0) 26
  have hfW : W.frozen? ⟨w.heap.size, 0, none⟩ = false := by rw [hW]; exact frozen_new _ _ _ rfl
  have hWs : W.heap.size = w.heap.size + 1 := by rw [hW]; simp
  go_enter Try.func14, Try.ntmps14
  go_wp2_with fail
  rw [← hW]
  clear hW
  have HWS := hide hWs
  clear hWs
  refine (isPrinted_any s W hs).mono ?_
  rintro e w1 ⟨rfl, hw⟩
  rw [HP.out]
  subst hw
  go_wp2
  go_loopg [0, 4] s.size (fun gk v0 v4 wr => ∃ (S : ByteArray) (p : Nat) (aoL : Option Addr) (m : Nat) (ls : List Int), v0 = .string S ∧ v4 = .slice aoL m m ∧ gk = S.size ∧ p ≤ s.size ∧ S.size + p = s.size ∧ Hid (nums S = (nums s).drop p) ∧ Own .u32 34 wr (w.heap.size + 1) aoL m m ls ∧ Dg 4294967296 ls ∧ Nz ls ∧ Hid (pv 4294967296 ls = tv ((nums s).take p)) ∧ (p = 0 ∨ S.size % 9 = 0) ∧ m ≤ p ∧ Below (w.heap.size + 1) w1 wr)
  case atStart => exact ⟨s, 0, none, 0, [], rfl, rfl, rfl, Nat.zero_le _, rfl, hide rfl, Own.nil _ _ _ _, Dg.nil _, Or.inl rfl, hide rfl, Or.inl rfl, Nat.le_refl _, Below.refl _ _⟩
  case round =>
    obtain ⟨S, p, aoL, m, ls, rfl, rfl, hgk, hps, hSp, hS, hO, hD, hN, hpv, hp9, hmp, hbr⟩ := hrel
    have hcr := (bcell hbr (b := w.heap.size) (o := 0) (by omega)).trans hcW
    have hfr := (bfrozen hbr (b := w.heap.size) (o := 0) (by omega)).trans hfW
    have hsr : w.heap.size < wr.heap.size := by have := hbr.size; omega
    by_cases h0 : S.size = 0
    · have hpn : p = s.size := by omega
      have HV : Hid (pv 4294967296 ls = tv (nums s)) := by
        have h1 := hpv.out
        rw [hpn, List.take_of_length_le (by rw [nums_length]; exact Nat.le_refl _)] at h1
        exact hide h1
      clear hpn hpv hp9 hSp
      go_wp2
      refine bodyPost_ret (v := .tuple #[.agg #[.slice aoL m m], .bool true]) (by simp [results, Try.results14, go_sem, hcr]) rfl ⟨aoL, m, rfl, ?_, by omega, ?_⟩
      · have h := (hO.kept (grownBy_setCell wr w.heap.size 0 (.slice aoL m m)) (own_ne hO (by omega))).reads
        exact ⟨ls, h, hD, hN, HV.out⟩
      · exact bset (hbW.trans (hbr.mono (by omega))) (Nat.le_refl _) _
    · obtain ⟨q, hq, hq1, hq9, hqS, hqm, hqr⟩ : ∃ q : Nat, (((S.size : Int) - 1) % 9 + 1 = q) ∧ 1 ≤ q ∧ q ≤ 9 ∧ q ≤ S.size ∧ Hid ((S.size - q) % 9 = 0) ∧ Hid (p = 0 ∨ q = 9) :=
        ⟨(S.size - 1) % 9 + 1, by omega, by omega, by omega, by omega, hide (by omega), hide (by omega)⟩
      have hS1 : 0 < S.size := by omega
      have hgs : (S.extract 0 q).size = q := by rw [size_extract' _ _ _ hqS]; omega
      have hgn : nums (S.extract 0 q) = ((nums s).drop p).take q := by rw [nums_extract, hS.out, List.drop_zero]
      have hgd : (nums (S.extract 0 q)).all isDg = true := by rw [hgn]; exact all_take (all_drop HA.out p) q
      have hgb := tv_bound _ hgd
      have hgl : (nums (S.extract 0 q)).length = q := by rw [nums_length, hgs]
      have hgv : 0 ≤ tv (nums (S.extract 0 q)) ∧ tv (nums (S.extract 0 q)) < 4294967296 := by
        refine ⟨hgb.1, ?_⟩
        have h1 := hgb.2
        rw [hgl] at h1
        have h2 := pow_mono (show (1 : Int) < 10 by decide) hq9
        have h3 : (10 : Int) ^ 9 = 1000000000 := by decide
        omega
      have HGC := hide (groupValue_any (S.extract 0 q) wr (by rw [hgs]; exact hq9) hgd)
      have hen : nums (S.extract q S.size) = (nums s).drop (p + q) := by
        rw [nums_extract, List.take_of_length_le (by rw [nums_length]; exact Nat.le_refl _), hS.out, List.drop_drop]
      have hes : (S.extract q S.size).size = S.size - q := size_extract' _ _ _ (Nat.le_refl _)
      obtain ⟨G, hG⟩ : ∃ G, G = tv (nums (S.extract 0 q)) := ⟨_, rfl⟩
      have htk : (nums s).take (p + q) = (nums s).take p ++ nums (S.extract 0 q) := by rw [hgn, List.take_add]
      have hval : pv 4294967296 ls * 1000000000 + G = tv ((nums s).take (p + q)) := by
        rw [htk, tv_append, hgl, ← hG, hpv.out]
        rcases hqr.out with h | h
        · rw [h, List.take_zero]; simp [tv]
        · rw [h, show (10 : Int) ^ 9 = 1000000000 from by decide]
      rw [← hG] at hgv HGC
      have HVAL := hide hval
      have HGK := hide hgk
      have HEN := hide hen
      have HES := hide hes
      have HSP := hide hSp
      have hSb : S.size ≤ 10000 := by omega
      have hpq : p + q ≤ s.size := by omega
      clear hgs hgn hgd hgb hgl hen hes htk hval hG h0 hp9 hpv hgk hSp
      go_wp2_with fail
      refine (unhide HGC).mono ?_
      rintro e w2 ⟨rfl, hw2⟩
      subst hw2
      go_wp2_with fail
      refine (timesPlus_any (w.heap.size + 1) aoL m m ls 1000000000 G w2 hO hD (by omega) (by omega) hgv (by omega)).mono ?_
      rintro e w3 ⟨ao3, cap3, ds, rfl, hO3, hD3, hp3, hg3⟩
      have hb3 : Below (w.heap.size + 1) w1 w3 := hbr.grown hg3 (by omega) (fun b hb => (hO.lt b hb).1)
      have HP3 := hide hp3
      clear hp3 hg3 hO hbr
      go_wp2_with fail
      refine (cut_any (w.heap.size + 1) ao3 (m + 1) cap3 ds w3 hO3 (by omega)).mono ?_
      rintro e w4 ⟨ao4, m4, rfl, hO4, _, hw4⟩
      subst hw4
      have hm4 : m4 ≤ m + 1 := by have h1 := chop_len ds; rw [hO4.1, hO3.1] at h1; exact h1
      go_wp2
      go_roundg (S.size - q)
      case measure => rw [HGK.out]; omega
      case rel => exact ⟨S.extract q S.size, p + q, ao4, m4, chop ds, rfl, rfl, HES.out.symm, hpq, by rw [HES.out]; have := HSP.out; omega, HEN, hO4, chop_Dg hD3, chop_Nz ds, hide (by rw [chop_pv, HP3.out]; exact HVAL.out), Or.inr (by rw [HES.out]; exact hqm.out), by omega, hb3⟩

end Go.Proofs.Ytgkcaflnhhfbgaa
