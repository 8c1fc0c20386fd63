/- Contracts of package token: Len, Bytes, Find, Pair, Parents, Longest; of a table, and of none. -/
import Derived.Test.YtadbffphmmkljaaTkA
import Derived.BigRegion
namespace Go.Proofs.Ytadbffphmmkljaa
open Go.RowKit Go.Maps
set_option linter.unusedVariables false
set_option linter.unusedSimpArgs false

theorem ret_int {k : IntKind} {a b : Int} (h : a = b) : Ending.returned (.int k a) = .returned (.int k b) := by rw [h]

theorem tlen_nil (w : World) : Calls Try.prog 23 #[.pointer none] w fun e w' => e = .returned (.int .i64 0) ∧ w' = w := by
  go_enter Try.func23, Try.ntmps23
  go_wp2
  go_ret
  exact ⟨rfl, rfl⟩

section
variable {F : List Nat} {p : Nat} {v0 v1 : Value} {b2 b3 : Nat} {tx : List ByteArray} {mg : List (Int × Int)} {lg : Int} {w : World}

theorem tlen_any (h : TAt F p v0 v1 b2 b3 tx mg lg w) :
    Calls Try.prog 23 #[.pointer (some ⟨p, 0, none⟩)] w fun e w' => e = .returned (.int .i64 tx.length) ∧ w' = w := by
  obtain ⟨ao, cap, rfl⟩ := row_form h.r0
  have hp0 := h.cells.1
  clear h
  go_enter Try.func23, Try.ntmps23
  go_wp2
  go_ret
  exact ⟨rfl, rfl⟩

set_option maxHeartbeats 1000000 in
theorem tbytes_none (id : Int) (pv : Value) (n : Nat) (w : World) (HL : Hid (Calls Try.prog 23 #[pv] w fun e w' => e = .returned (.int .i64 n) ∧ w' = w)) (hid : id < 0 ∨ (n : Int) ≤ id) :
    Calls Try.prog 24 #[pv, .int .i64 id] w fun e w' => e = .returned (.tuple #[.string ⟨#[]⟩, .bool false]) ∧ w' = w := by
  rcases (show id < 0 ∨ (¬ id < 0 ∧ (n : Int) ≤ id) by omega) with h0 | ⟨h0, h1⟩
  · have hb : decide (id < 0) = true := by simpa using h0
    go_enter Try.func24, Try.ntmps24
    go_wp2
    (try simp only [Exit.inBlock, Exit.then])
    exact bodyPost_ret (v := .tuple #[.string ⟨#[]⟩, .bool false]) (by simp [results, Try.results24, go_sem]) rfl ⟨rfl, rfl⟩
  · have hb : decide (id < 0) = false := by simpa using h0
    go_enter Try.func24, Try.ntmps24
    go_wp2_with fail
    refine (unhide HL).mono ?_
    rintro e w' ⟨rfl, hw⟩
    have hw2 := hw.symm
    clear hw
    subst hw2
    go_wp2
    (try simp only [Exit.inBlock, Exit.then])
    exact bodyPost_ret (v := .tuple #[.string ⟨#[]⟩, .bool false]) (by simp [results, Try.results24, go_sem]) rfl ⟨rfl, rfl⟩

set_option maxHeartbeats 1000000 in
theorem tbytes_any (h : TAt F p v0 v1 b2 b3 tx mg lg w) (i : Nat) (hi : i < tx.length) :
    Calls Try.prog 24 #[.pointer (some ⟨p, 0, none⟩), .int .i64 i] w fun e w' => e = .returned (.tuple #[.string (gs tx i), .bool true]) ∧ w' = w := by
  have HL := hide (tlen_any h)
  obtain ⟨g, cap, rfl, hc⟩ := h.text hi
  have hp0 := h.cells.1
  have hb : decide ((i : Int) < 0) = false := by simp
  have hi0 : (0 : Int) ≤ (i : Int) := by omega
  have hi1 : (i : Int) < (tx.length : Int) := by omega
  clear h
  go_enter Try.func24, Try.ntmps24
  go_wp2_with fail
  refine (unhide HL).mono ?_
  rintro e w' ⟨rfl, hw⟩
  have hw2 := hw.symm
  clear hw
  subst hw2
  go_wp2
  (try simp only [Exit.inBlock, Exit.then])
  exact bodyPost_ret (v := .tuple #[.string (gs tx i), .bool true]) (by simp [results, Try.results24, go_sem]) rfl ⟨rfl, rfl⟩

theorem tfind_nil (s : ByteArray) (w : World) : Calls Try.prog 29 #[.pointer none, .string s] w fun e w' => e = .returned (.tuple #[.int .i64 0, .bool false]) ∧ w' = w := by
  go_enter Try.func29, Try.ntmps29
  go_wp2
  (try simp only [Exit.inBlock, Exit.then])
  exact bodyPost_ret (v := .tuple #[.int .i64 0, .bool false]) (by simp [results, Try.results29, go_sem]) rfl ⟨rfl, rfl⟩

theorem tfind_none (h : TAt F p v0 v1 b2 b3 tx mg lg w) (s : ByteArray) (hs : s.size ≤ maxLen) (hn : s ∉ tx) :
    Calls Try.prog 29 #[.pointer (some ⟨p, 0, none⟩), .string s] w fun e w' => e = .returned (.tuple #[.int .i64 0, .bool false]) ∧ w' = w := by
  have hl := (h.m2.look keyS Try.underlying67 Try.underlying3 zeroI (sk_key hs)).1 (fun e => hn (sk_mem.1 e))
  have hp2 := h.cells.2.2.1
  clear h
  go_enter Try.func29, Try.ntmps29
  go_wp2
  (try simp only [Exit.inBlock, Exit.then])
  exact bodyPost_ret (v := .tuple #[.int .i64 0, .bool false]) (by simp [results, Try.results29, go_sem]) rfl ⟨rfl, rfl⟩

theorem tfind_any (h : TAt F p v0 v1 b2 b3 tx mg lg w) (i : Nat) (hi : i < tx.length) (s : ByteArray) (hs : s.size ≤ maxLen) (he : gs tx i = s) :
    Calls Try.prog 29 #[.pointer (some ⟨p, 0, none⟩), .string s] w fun e w' => e = .returned (.tuple #[.int .i64 i, .bool true]) ∧ w' = w := by
  have hl := (h.m2.look keyS Try.underlying67 Try.underlying3 zeroI (sk_key hs)).2 i (by
    rw [List.getElem?_map, List.getElem?_eq_getElem hi, ← he, gs, List.getD_eq_getElem?_getD, List.getElem?_eq_getElem hi]
    rfl)
  rw [Int.zero_add] at hl
  have hp2 := h.cells.2.2.1
  clear h he
  go_enter Try.func29, Try.ntmps29
  go_wp2
  (try simp only [Exit.inBlock, Exit.then])
  exact bodyPost_ret (v := .tuple #[.int .i64 i, .bool true]) (by simp [results, Try.results29, go_sem]) rfl ⟨rfl, rfl⟩

theorem kp_mem {m : Int × Int} {mg : List (Int × Int)} (hw : wfM m) (hg : ∀ x ∈ mg, wfM x) (h : kp m ∈ mg.map kp) : m ∈ mg := by
  obtain ⟨t, ht, e⟩ := List.mem_map.1 h
  rw [← kp_inj (hg t ht) hw e]; exact ht

end

end Go.Proofs.Ytadbffphmmkljaa
