/- The document's at and hex: what a word tells. -/
import Derived.Test.YteiinkhdgppgbaaGreatDoorSpT
import Derived.Test.YteiinkhdgppgbaaGreatDoorWordD
import Derived.Test.YteiinkhdgppgbaaGreatDoorWordK
namespace Go.Proofs.YteiinkhdgppgbaaGreatDoor
open Go.RowKit
set_option linter.unusedVariables false
set_option linter.unusedSimpArgs false

def atP (l : List ByteArray) (i : Nat) : Int := if l.length ≤ i then -1 else if (parseS (gT l i).data.toList 1073741824).2 = true then (parseS (gT l i).data.toList 1073741824).1 else -1
def hexP (l : List ByteArray) (i : Nat) : ByteArray := if l.length ≤ i then ⟨#[]⟩ else if (unhexS (gT l i)).2 = true then (unhexS (gT l i)).1 else ⟨#[]⟩

set_option maxHeartbeats 1600000 in
theorem rat_any (ao : Option Addr) (n cap i : Nat) (l : List ByteArray) (w : World) (h : RdT w ao n l) (hs : ∀ k, k < n → (gT l k).size ≤ 1000000) (hi : i ≤ 1000) :
    Calls Tryz.prog 41 #[.slice ao n cap, .int .i64 (i : Int)] w fun e w' => e = .returned (.int .i64 (atP l i)) ∧ Below w.heap.size w w' := by
  have hl := h.1
  unfold atP
  by_cases a : n ≤ i
  · rw [if_pos (by omega)]
    have a1 : (n : Int) ≤ (i : Int) := by omega
    go_enter Tryz.func41, Tryz.ntmps41
    go_wp2
    go_ret
    exact ⟨rfl, Below.refl _ _⟩
  rw [if_neg (by omega)]
  have a1 : ¬ (n : Int) ≤ (i : Int) := by omega
  have a2 : (i : Int) < (n : Int) := by omega
  have a3 : (0 : Int) ≤ (i : Int) := by omega
  rcases h.2 with h0 | ⟨b, off, rfl, hbl, hc⟩
  · omega
  have hk := hc i (by omega)
  have K := refParse_any (gT l i) 1073741824 w (hs i (by omega))
  clear hc h hl hs
  generalize gT l i = t at *
  obtain ⟨p, hp⟩ : ∃ p, parseS t.data.toList 1073741824 = p := ⟨_, rfl⟩
  rw [hp] at K ⊢
  clear hp
  obtain ⟨z, ok⟩ := p
  cases ok with
  | true =>
    go_enter Tryz.func41, Tryz.ntmps41
    go_wp2_with fail
    refine K.mono ?_
    rintro e w1 ⟨rfl, hb⟩
    go_wp2
    go_ret
    exact ⟨rfl, hb⟩
  | false =>
    go_enter Tryz.func41, Tryz.ntmps41
    go_wp2_with fail
    refine K.mono ?_
    rintro e w1 ⟨rfl, hb⟩
    go_wp2
    go_ret
    exact ⟨rfl, hb⟩
set_option maxHeartbeats 1600000 in
theorem rhex_any (ao : Option Addr) (n cap i : Nat) (l : List ByteArray) (w : World) (h : RdT w ao n l) (hs : ∀ k, k < n → (gT l k).size ≤ 1000000) (hi : i ≤ 1000) :
    Calls Tryz.prog 42 #[.slice ao n cap, .int .i64 (i : Int)] w fun e w' => e = .returned (.string (hexP l i)) ∧ Below w.heap.size w w' := by
  have hl := h.1
  unfold hexP
  by_cases a : n ≤ i
  · rw [if_pos (by omega)]
    have a1 : (n : Int) ≤ (i : Int) := by omega
    go_enter Tryz.func42, Tryz.ntmps42
    go_wp2
    go_ret
    exact ⟨rfl, Below.refl _ _⟩
  rw [if_neg (by omega)]
  have a1 : ¬ (n : Int) ≤ (i : Int) := by omega
  have a2 : (i : Int) < (n : Int) := by omega
  have a3 : (0 : Int) ≤ (i : Int) := by omega
  rcases h.2 with h0 | ⟨b, off, rfl, hbl, hc⟩
  · omega
  have hk := hc i (by omega)
  have K := refUnhex_any (gT l i) w (hs i (by omega))
  clear hc h hl hs
  generalize gT l i = t at *
  obtain ⟨p, hp⟩ : ∃ p, unhexS t = p := ⟨_, rfl⟩
  rw [hp] at K ⊢
  clear hp
  obtain ⟨z, ok⟩ := p
  cases ok with
  | true =>
    go_enter Tryz.func42, Tryz.ntmps42
    go_wp2_with fail
    refine K.mono ?_
    rintro e w1 ⟨rfl, hb⟩
    go_wp2
    go_ret
    exact ⟨rfl, hb⟩
  | false =>
    go_enter Tryz.func42, Tryz.ntmps42
    go_wp2_with fail
    refine K.mono ?_
    rintro e w1 ⟨rfl, hb⟩
    go_wp2
    go_ret
    exact ⟨rfl, hb⟩
end Go.Proofs.YteiinkhdgppgbaaGreatDoor
