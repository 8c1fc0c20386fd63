/- What TrieBegins wants: begins, Find as one number, two rows side by side. -/
import Derived.Test.YtadbffphmmkljaaTrX
import Derived.Test.YtadbffphmmkljaaTkMk
namespace Go.Proofs.Ytadbffphmmkljaa
open Go.RowKit Go.Maps Go.Shelf
set_option linter.unusedVariables false
set_option linter.unusedSimpArgs false

/-- The tokens up to i that begin with t; those of them that are longer. -/
def wiU (S : List (List UInt8)) (t : List UInt8) (i : Nat) : List Nat := (List.range i).filter (fun k => t.isPrefixOf (S.getD k []))
def loU (S : List (List UInt8)) (t : List UInt8) (i : Nat) : List Nat := (List.range i).filter (fun k => t.isPrefixOf (S.getD k []) && decide (t.length < (S.getD k []).length))
theorem wiU_all (S : List (List UInt8)) (t : List UInt8) : wiU S t S.length = wiT S t := rfl
theorem loU_all (S : List (List UInt8)) (t : List UInt8) : loU S t S.length = loT S t := rfl
theorem wiU_next (S : List (List UInt8)) (t : List UInt8) (i : Nat) : wiU S t (i + 1) = wiU S t i ++ (if t.isPrefixOf (S.getD i []) then [i] else []) := by
  unfold wiU
  rw [List.range_succ, List.filter_append]
  simp [List.filter_cons]
theorem loU_next (S : List (List UInt8)) (t : List UInt8) (i : Nat) : loU S t (i + 1) = loU S t i ++ (if t.isPrefixOf (S.getD i []) && decide (t.length < (S.getD i []).length) then [i] else []) := by
  unfold loU
  rw [List.range_succ, List.filter_append]
  simp [List.filter_cons]
theorem wiU_len (S : List (List UInt8)) (t : List UInt8) (i : Nat) : (wiU S t i).length ≤ i := by
  have := List.length_filter_le (fun k => t.isPrefixOf (S.getD k [])) (List.range i)
  rw [List.length_range] at this
  exact this
theorem loU_len (S : List (List UInt8)) (t : List UInt8) (i : Nat) : (loU S t i).length ≤ i := by
  have := List.length_filter_le (fun k => t.isPrefixOf (S.getD k []) && decide (t.length < (S.getD k []).length)) (List.range i)
  rw [List.length_range] at this
  exact this
/-- The token of these bytes, or -1. -/
def fdI (S : List (List UInt8)) (t : List UInt8) : Int := match idT S t with | some k => (k : Int) | none => -1
theorem fnd_fd {tx : List ByteArray} {mg : List (Int × Int)} (hk : Tok tx mg) {s : ByteArray} {x : Int} (h : Fnd tx s x) : x = fdI (lsT tx) s.data.toList := by
  unfold fdI
  rcases h with ⟨rfl, hn⟩ | ⟨i, rfl, hi, he⟩
  · have : idT (lsT tx) s.data.toList = none := by
      cases e : idT (lsT tx) s.data.toList with
      | none => rfl
      | some k =>
        have h1 := idT_some e
        obtain ⟨hk1, h2⟩ := List.getElem?_eq_some_iff.1 h1
        rw [lsT_len] at hk1
        rw [lsT_get tx hk1] at h1
        have h3 : gs tx k = s := toList_inj (Option.some.inj h1)
        exact absurd (gs_mem.2 ⟨k, hk1, h3⟩) hn
    rw [this]
  · have : idT (lsT tx) s.data.toList = some i := idT_of (lsT_nodup hk) (by rw [lsT_get tx hi, he])
    rw [this]
theorem beqT (a b : ByteArray) : (a.toList == b.toList) = decide (a = b) := by
  rw [Bool.eq_iff_iff]
  simp only [beq_iff_eq, decide_eq_true_eq]
  constructor
  · intro h
    rw [ByteArray.toList_eq, ByteArray.toList_eq] at h
    exact ByteArray.ext (Array.ext' h)
  · intro h; rw [h]
theorem ext_toList (s : ByteArray) {n : Nat} (h : n ≤ s.size) : (s.extract 0 n).data.toList = s.data.toList.take n := by
  simp [ByteArray.data_extract]
theorem pre_iff {s t : ByteArray} (h : t.size ≤ s.size) : decide (s.extract 0 t.size = t) = t.data.toList.isPrefixOf s.data.toList := by
  rw [Bool.eq_iff_iff, decide_eq_true_iff, List.isPrefixOf_iff_prefix, List.prefix_iff_eq_take]
  have ht : t.data.toList.length = t.size := by simp
  rw [ht]
  constructor
  · intro e
    have := congrArg (fun x : ByteArray => x.data.toList) e
    simp only [ext_toList s h] at this
    exact this.symm
  · intro e
    refine toList_inj ?_
    rw [ext_toList s h]
    exact e.symm
theorem pre_not {s t : ByteArray} (h : s.size < t.size) : t.data.toList.isPrefixOf s.data.toList = false := by
  cases e : t.data.toList.isPrefixOf s.data.toList with
  | false => rfl
  | true =>
    have := (List.isPrefixOf_iff_prefix.1 e).length_le
    simp at this
    omega

set_option maxRecDepth 20000 in
set_option maxHeartbeats 2000000 in
theorem tbegins_any (s t : ByteArray) (w : World) :
    Calls Try.prog 11 #[.string s, .string t] w fun e w' => e = .returned (.bool (t.data.toList.isPrefixOf s.data.toList)) ∧ w' = w := by
  by_cases h : t.size ≤ s.size
  · have HP := hide (pre_iff h)
    have h0 : (0 : Int) ≤ (t.size : Int) := by omega
    have h1 : (t.size : Int) ≤ (s.size : Int) := by omega
    generalize t.data.toList.isPrefixOf s.data.toList = b at *
    go_enter Try.func11, Try.ntmps11
    go_wp2
    go_ret
    exact ⟨by rw [← HP.out, ← beqT]; rfl, rfl⟩
  · have HP := hide (pre_not (s := s) (t := t) (by omega))
    have h1 : ¬ (t.size : Int) ≤ (s.size : Int) := by omega
    generalize t.data.toList.isPrefixOf s.data.toList = b at *
    go_enter Try.func11, Try.ntmps11
    go_wp2
    go_ret
    exact ⟨by rw [HP.out]; rfl, rfl⟩

/-- A number is put behind others; another row is as it was. -/
theorem app_two (W : World) (base : Nat) (a1 a2 : Option Addr) (n1 c1 n2 c2 : Nat) (l1 : List Int) (X2 : List Value) (x : Int) (h1 : W.ownsRow base 3 1 (.slice a1 n1 c1) n1 (Mk.iv l1)) (h2 : W.ownsRow base 3 1 (.slice a2 n2 c2) n2 X2) (hd : ∀ k, (Value.slice a1 n1 c1).ownBlock = some k → (Value.slice a2 n2 c2).ownBlock ≠ some k) (hn : n1 ≤ 1000000) (hb : base ≤ W.heap.size) :
    ∃ g cap1 w1, (Builtin.append_ #[35, 35] 35 #[.slice a1 n1 c1, .slice (some ⟨W.heap.size, 0, none⟩) 1 1]).run Try.prog (W.alloc (.cells #[.int .i64 x] 3)) = .ok (.slice (some ⟨g, 0, none⟩) (n1 + 1) cap1) w1 ∧
      w1.ownsRow base 3 1 (.slice (some ⟨g, 0, none⟩) (n1 + 1) cap1) (n1 + 1) (Mk.iv (l1 ++ [x])) ∧ w1.ownsRow base 3 1 (.slice a2 n2 c2) n2 X2 ∧
      (∀ k, (Value.slice (some ⟨g, 0, none⟩) (n1 + 1) cap1).ownBlock = some k → (Value.slice a2 n2 c2).ownBlock ≠ some k) ∧ Below base W w1 := by
  obtain ⟨i0, hi, hz0, hz1, hz2⟩ := info_parts Mk.info_int
  obtain ⟨g, cap1, w1, hrun, hown, hgrow, hg, _⟩ := run_append_lies (P := Try.prog) (W.alloc (.cells #[.int .i64 x] 3)) 35 35 base 3 i0 _ 1 8 Try.underlying35 hi hz0 hz1 hz2 rfl (by omega) (.slice a1 n1 c1) n1 (Mk.iv l1) (h1.alloc _) ⟨W.heap.size, 0, none⟩ 1 1 [.int .i64 x] rfl (World.news_of_block (heap_alloc_new W _)) (by simp [Value.oneCell']) (by omega) (by unfold maxLen; omega) (by omega) (by simp; omega) (W.heap.size + 1) (by simp)
  refine ⟨g, cap1, w1, hrun, by rw [Mk.iv_append]; exact hown, (h2.alloc _).kept hgrow ?_, fun k hk e2 => ?_, ?_⟩
  · cases h : (Value.slice a2 n2 c2).ownBlock with
    | none => exact Or.inl rfl
    | some k => exact Or.inr (fun e => hd k e.symm h)
  · obtain rfl : g = k := by simpa [Value.ownBlock] using hk
    rcases hg with hg | hg
    · exact hd g hg e2
    · have := (h2.lt g e2).2
      omega
  · have h3 : Below base W (W.alloc (.cells #[.int .i64 x] 3)) := (Mk.low1 W _).mono hb
    exact h3.trans ⟨hgrow.os, hgrow.tape, hgrow.output, hgrow.size, fun k hk => hgrow.block k (by simp; omega) (fun e => by have := (h1.lt k e.symm).1; omega)⟩
end Go.Proofs.Ytadbffphmmkljaa
