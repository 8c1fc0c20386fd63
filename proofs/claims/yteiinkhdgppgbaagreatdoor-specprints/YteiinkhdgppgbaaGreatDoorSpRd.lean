/- Contract: the reader's head. -/
import Derived.Test.YteiinkhdgppgbaaGreatDoorSpRc
import Derived.Test.YteiinkhdgppgbaaGreatDoorSpAd
namespace Go.Proofs.YteiinkhdgppgbaaGreatDoor
open Go.RowKit
set_option linter.unusedVariables false
set_option linter.unusedSimpArgs false

/-- What a line's taking leaves. -/
def TakeP (w0 : World) (p n k0 : Nat) (res : Option Sp) (e : Ending) (w' : World) : Prop := match res with
  | some s' => e = .returned (.bool true) ∧ ∃ x', RAt w0 p x' s' n k0 w'
  | none => e = .returned (.bool false) ∧ ∃ x' s', RAt w0 p x' s' n k0 w'
theorem TakeP.no {w0 : World} {p n k0 : Nat} {res : Option Sp} (hr : res = none) {x : Sv} {s : Sp} {w' : World} (h : RAt w0 p x s n k0 w') : TakeP w0 p n k0 res (.returned (.bool false)) w' := by
  subst hr
  exact ⟨rfl, x, s, h⟩
theorem TakeP.yes {w0 : World} {p n k0 : Nat} {res : Option Sp} {s' : Sp} (hr : res = some s') {x : Sv} {w' : World} (h : RAt w0 p x s' n k0 w') : TakeP w0 p n k0 res (.returned (.bool true)) w' := by
  subst hr
  exact ⟨rfl, x, h⟩
theorem toList_lit {a : ByteArray} {l : List UInt8} : (a.toList == l) = true ↔ a.data.toList = l := by
  rw [beq_iff_eq, ByteArray.toList_eq]
theorem take0_len (s : Sp) (ws : List (List UInt8)) (h : ws.length ≠ 1) : takeL s 0 ws = none := by
  match ws with
  | [] => rfl
  | [_] => exact absurd rfl h
  | _ :: _ :: _ => rfl

set_option maxHeartbeats 4000000 in
set_option maxRecDepth 20000 in
theorem rhead_any (w0 : World) (p : Nat) (x : Sv) (s : Sp) (n k0 : Nat) (W : World) (h : RAt w0 p x s n k0 W) (ao : Option Addr) (m cap : Nat) (ws : List ByteArray) (hR : ReadsS W ao m ws) (hbp : ∀ b off, ao = some ⟨b, off, none⟩ → b ≠ p) :
    Calls Tryz.prog 66 #[.pointer (some ⟨p, 0, none⟩), .slice ao m cap] W (TakeP w0 p n k0 (takeL s 0 (bl ws))) := by
  by_cases hm : m = 1
  case neg =>
    have h1 : ((m : Int) != 1) = true := by simp; omega
    have HT := hide (take0_len s (bl ws) (by unfold bl; rw [List.length_map, hR.1]; exact hm))
    have HH := hide h
    clear h hR hm hbp
    go_enter Tryz.func66, Tryz.ntmps66
    go_wp2
    go_ret
    exact TakeP.no HT.out HH.out
  subst hm
  obtain ⟨t, rfl⟩ := one_word hR.1
  obtain ⟨b, off, rfl, hc⟩ := hR.at (show 0 < 1 by omega)
  have c0 : W.cell? ⟨b, off, none⟩ = some (.string t) := hc 0 (by omega)
  have hne := hbp b off rfl
  have r0 : W.cell? ⟨p, 0, none⟩ = some (.bool x.r) := h.cell 0
  have f0 := h.free 0
  have d0 : ∀ v, (W.setCell ⟨p, 0, none⟩ v).cell? ⟨b, off, none⟩ = some (.string t) := fun v => (World.cell?_setCell_other W ⟨p, 0, none⟩ ⟨b, off, none⟩ v (fun e => hne (by cases e; rfl))).trans c0
  have d1 := d0 (.bool true)
  have d2 := d0 (.bool false)
  have HT : Hid (takeL s 0 (bl [t]) = if t.data.toList = wRanks then some { s with ranked := true } else if t.data.toList = wMerges then some { s with ranked := false } else none) := hide rfl
  have HH := hide h
  clear h hR hbp hc d0
  cases hq : (t.toList == ([114, 97, 110, 107, 115] : List UInt8)) with
  | true =>
    have HE := hide (show t.data.toList = wRanks from toList_lit.1 hq)
    rw [if_pos HE.out] at HT
    go_enter Tryz.func66, Tryz.ntmps66
    go_wp2
    go_ret
    exact TakeP.yes HT.out (HH.out.setR true)
  | false =>
    have HE := hide (show t.data.toList ≠ wRanks from fun e => by rw [toList_lit.2 (show t.data.toList = [114, 97, 110, 107, 115] from e)] at hq; cases hq)
    rw [if_neg HE.out] at HT
    cases hq2 : (t.toList == ([109, 101, 114, 103, 101, 115] : List UInt8)) with
    | true =>
      have HE2 := hide (show t.data.toList = wMerges from toList_lit.1 hq2)
      rw [if_pos HE2.out] at HT
      go_enter Tryz.func66, Tryz.ntmps66
      go_wp2
      go_ret
      exact TakeP.yes HT.out (HH.out.setR false)
    | false =>
      have HE2 := hide (show t.data.toList ≠ wMerges from fun e => by rw [toList_lit.2 (show t.data.toList = [109, 101, 114, 103, 101, 115] from e)] at hq2; cases hq2)
      rw [if_neg HE2.out] at HT
      go_enter Tryz.func66, Tryz.ntmps66
      go_wp2
      go_ret
      exact TakeP.no HT.out (HH.out.setR false)
end Go.Proofs.YteiinkhdgppgbaaGreatDoor
