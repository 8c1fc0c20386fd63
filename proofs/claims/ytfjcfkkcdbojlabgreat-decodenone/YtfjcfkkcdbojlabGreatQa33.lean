/- Contracts of package mark: isRight, New. Contracts of the document's answer for marks: Check, Ints. -/
import Derived.Test.YtfjcfkkcdbojlabGreatQa32
import Derived.WideKeyEntry
import Derived.BigRegion
namespace Go.Proofs.YtfjcfkkcdbojlabGreat.Mk
open Go.RowKit Go.Maps
set_option linter.unusedVariables false
set_option linter.unusedSimpArgs false

/-- A special token that may be there. -/
def rgt (x : Int × ByteArray) : Prop := 0 ≤ x.1 ∧ x.1 ≤ 1073741824 ∧ 0 < x.2.size ∧ x.2.size ≤ 64
def GoodAt (L : List (Int × ByteArray)) (k : Nat) : Prop := rgt (gS L k) ∧ k < 32 ∧ ∀ j, j < k → (gS L j).1 ≠ (gS L k).1 ∧ (gS L j).2 ≠ (gS L k).2
def ErrAt (L : List (Int × ByteArray)) (k : Nat) (e : Int) : Prop := (¬ rgt (gS L k) ∧ e = 1) ∨ (rgt (gS L k) ∧ 32 ≤ k ∧ e = 3) ∨ (rgt (gS L k) ∧ k < 32 ∧ (∃ j, j < k ∧ ((gS L j).1 = (gS L k).1 ∨ (gS L j).2 = (gS L k).2)) ∧ e = 10)
/-- How many can be there, and the error of the next one. -/
def ChkR (L : List (Int × ByteArray)) (k : Nat) (e : Int) : Prop := (∀ i, i < k → GoodAt L i) ∧ (k = L.length ∧ e = 0 ∨ k < L.length ∧ ErrAt L k e)
theorem err_good {L : List (Int × ByteArray)} {k : Nat} {e : Int} (h : ErrAt L k e) (g : GoodAt L k) : False := by
  obtain ⟨g1, g2, g3⟩ := g
  rcases h with h | h | h
  · exact h.1 g1
  · omega
  · obtain ⟨_, _, ⟨j, hj, h1⟩, _⟩ := h
    rcases h1 with h1 | h1
    · exact (g3 j hj).1 h1
    · exact (g3 j hj).2 h1
theorem err_uniq {L : List (Int × ByteArray)} {k : Nat} {e e' : Int} (h : ErrAt L k e) (h' : ErrAt L k e') : e = e' := by
  rcases h with ⟨h1, rfl⟩ | ⟨h1, h2, rfl⟩ | ⟨h1, h2, h3, rfl⟩ <;> rcases h' with ⟨g1, rfl⟩ | ⟨g1, g2, rfl⟩ | ⟨g1, g2, g3, rfl⟩ <;> first | rfl | (exact absurd ‹rgt (gS L k)› ‹¬ rgt (gS L k)›) | omega
theorem err_ne {L : List (Int × ByteArray)} {k : Nat} {e : Int} (h : ErrAt L k e) : e ≠ 0 := by
  rcases h with ⟨_, rfl⟩ | ⟨_, _, rfl⟩ | ⟨_, _, _, rfl⟩ <;> decide
theorem chk_uniq {L : List (Int × ByteArray)} {k k' : Nat} {e e' : Int} (h : ChkR L k e) (h' : ChkR L k' e') : k = k' ∧ e = e' := by
  obtain ⟨g, h⟩ := h
  obtain ⟨g', h'⟩ := h'
  rcases h with ⟨rfl, rfl⟩ | ⟨hk, he⟩
  · rcases h' with ⟨rfl, rfl⟩ | ⟨hk', he'⟩
    · exact ⟨rfl, rfl⟩
    · exact absurd (g _ hk') (fun x => err_good he' x)
  · rcases h' with ⟨rfl, rfl⟩ | ⟨hk', he'⟩
    · exact absurd (g' _ hk) (fun x => err_good he x)
    · have : k = k' := by
        rcases Nat.lt_trichotomy k k' with h1 | h1 | h1
        · exact absurd (g' _ h1) (fun x => err_good he x)
        · exact h1
        · exact absurd (g _ h1) (fun x => err_good he' x)
      subst this
      exact ⟨rfl, err_uniq he he'⟩

theorem right_yes (x1 : Int) (x2 : ByteArray) (w : World) (h : rgt (x1, x2)) : Calls Tryz.prog 70 #[.agg #[.int .i64 x1, .string x2]] w fun e w' => e = .returned (.bool true) ∧ Below w.heap.size w w' := by
  obtain ⟨h1, h2, h3, h4⟩ := h
  simp only at h1 h2 h3 h4
  have he := isEmpty_false (show ¬ x2.size = 0 by omega)
  go_enter Tryz.func70, Tryz.ntmps70
  go_wp2
  go_ret
  exact ⟨by simp; omega, low1 _ _⟩
theorem right_no (x1 : Int) (x2 : ByteArray) (w : World) (h : ¬ rgt (x1, x2)) : Calls Tryz.prog 70 #[.agg #[.int .i64 x1, .string x2]] w fun e w' => e = .returned (.bool false) ∧ Below w.heap.size w w' := by
  unfold rgt at h
  simp only at h
  by_cases h1 : 0 ≤ x1
  · by_cases h2 : x1 ≤ 1073741824
    · by_cases h3 : x2.size = 0
      · have he := isEmpty_true h3
        clear h h3
        go_enter Tryz.func70, Tryz.ntmps70
        go_wp2
        go_ret
        exact ⟨rfl, low1 _ _⟩
      · have he := isEmpty_false h3
        have h4 : ¬ x2.size ≤ 64 := by omega
        clear h
        go_enter Tryz.func70, Tryz.ntmps70
        go_wp2
        go_ret
        exact ⟨by simp; omega, low1 _ _⟩
    · clear h
      go_enter Tryz.func70, Tryz.ntmps70
      go_wp2
      go_ret
      exact ⟨rfl, low1 _ _⟩
  · clear h
    go_enter Tryz.func70, Tryz.ntmps70
    go_wp2
    go_ret
    exact ⟨rfl, low1 _ _⟩

/-- A new entry of a map, made ahead, filled behind. -/
theorem entry_new {P : Program} {K E : TypeId} {off : Int} {w : World} {b : Nat} {ks : List Lit} (h : MapK P K E off w b ks) (KY : Keyed P K) {t : TypeId} (ht : P.underlying t = some (.map K E)) (he : P.underlying E = some (.int .i64)) (hz : ∀ w, (zeroValue E).run P w = .ok (.int .i64 0) w) {key : Value} {l : Lit} (hkey : keyOf P K key = some l) (hl : l ∉ ks) (hn : ks.length < maxLen) {v : Int} (hv : v = off + ks.length) (hw : (Lit.int .i64 v).wf = true) :
    ∃ (st : Nat) (o1 o2 : Obj), (Instr.mapEntry t (.map (some b)) key).run P w = .ok (.tuple #[.int .i64 0, .int .i64 st]) (Go.ChangeMaps.setBlock w b o1) ∧ (∀ w2 : World, w2.heap[b]? = some o1 → (Instr.entryStore t (.map (some b)) (.int .i64 st) (.int .i64 v)).run P w2 = .ok () (Go.ChangeMaps.setBlock w2 b o2)) ∧ ∀ w3 : World, w3.heap[b]? = some o2 → MapK P K E off w3 b (ks ++ [l]) := by
  obtain ⟨w', hrun, hm', hg⟩ := h.put KY ht he hkey hl hn hv hw
  have hlk := (h.look KY ht he hz hkey).1 hl
  obtain ⟨n, D, hn1, ⟨es, clock, hb, F, hs, hD⟩, hh, ha⟩ := h
  obtain ⟨s1, s2, _⟩ := F.stamped
  rcases KY.find w hkey es.toList F.keys with ⟨h1, h2⟩ | ⟨j, e0, h1, h2, h3⟩
  · refine ⟨clock, .map (es.push ⟨key, .int .i64 0, clock⟩) (clock + 1), .map (es.push ⟨key, .int .i64 v, clock⟩) (clock + 1), ?_, fun w2 hw2 => ?_, fun w3 hw3 => ?_⟩
    · simp [Instr.mapEntry, run_underlying ht, MapKept.run_getObj_map hb, KY.check w false hkey, h1, hz, MapKept.run_setObj_map _ hb, Result.andThen, Go.ChangeMaps.setBlock, goInt]
    · have hidx : (es.push ⟨key, .int .i64 0, clock⟩).findIdx? (fun e => ((e.born : Nat) : Int) == ((clock : Nat) : Int)) = some es.size := by
        rw [WideElems.findIdx_arr]
        have := WideElems.findIdx_born (l := (es.push ⟨key, .int .i64 0, clock⟩).toList) (j := es.size) (e0 := ⟨key, .int .i64 0, clock⟩) (by
          simp only [Array.toList_push, List.map_append, List.map_cons, List.map_nil]
          refine List.nodup_append.2 ⟨s2, by simp, fun a ha c hc e1 => ?_⟩
          simp only [List.mem_singleton] at hc
          obtain ⟨x, hx, rfl⟩ := List.mem_map.1 ha
          have := s1 x hx
          omega) (by simp)
        exact this
      have hmod : (es.push ⟨key, .int .i64 0, clock⟩).modify es.size (fun e => { e with val := .int .i64 v }) = es.push ⟨key, .int .i64 v, clock⟩ := by
        apply Array.ext'
        rw [Array.toList_modify, Array.toList_push, Array.toList_push, ← Array.length_toList, WideElems.modify_last]
      simp [Instr.entryStore, MapKept.run_getObj_map hw2, asInt, asIntOf, goInt, hidx, hmod, MapKept.run_setObj_map _ hw2, Result.andThen, Go.ChangeMaps.setBlock]
    · have hup : (Instr.mapUpdate t (.map (some b)) key (.int .i64 v)).run P w = .ok () (Go.ChangeMaps.setBlock w b (.map (es.push ⟨key, .int .i64 v, clock⟩) (clock + 1))) := by
        simp [Instr.mapUpdate, run_underlying ht, MapKept.run_getObj_map hb, KY.check w false hkey, h1, MapKept.run_setObj_map _ hb, Result.andThen, Go.ChangeMaps.setBlock]
      rw [hrun] at hup
      have e : w' = Go.ChangeMaps.setBlock w b (.map (es.push ⟨key, .int .i64 v, clock⟩) (clock + 1)) := by simpa using hup
      refine hm'.keep ?_
      rw [hw3, e]
      have hlt : b < w.heap.size := (Array.getElem?_eq_some_iff.1 hb).1
      simp [Go.ChangeMaps.setBlock, hlt]
  · exfalso
    have hj : es[j]? = some e0 := by simpa using h2
    simp [Instr.lookup, run_underlying ht, MapKept.run_getObj_map hb, KY.check w _ hkey, h1, hj, Result.andThen] at hlk
end Go.Proofs.YtfjcfkkcdbojlabGreat.Mk

namespace Go.Proofs.YtfjcfkkcdbojlabGreat.Mk
open Go.RowKit Go.Maps
set_option linter.unusedVariables false
set_option linter.unusedSimpArgs false

section
variable {ao : Option Addr} {cap : Nat} {L : List (Int × ByteArray)} {w : World}
end
end Go.Proofs.YtfjcfkkcdbojlabGreat.Mk
