/- The document's Lines: a spec's lines. -/
import Derived.Test.YteiinkhdgppgbaaGreatDoorSpT
import Derived.Test.YteiinkhdgppgbaaGreatDoorWordC
import Derived.Test.YteiinkhdgppgbaaGreatDoorWordJ
import Derived.Test.YteiinkhdgppgbaaGreatDoorWordN
import Derived.Laws.OwnMore
import Derived.Lib.ItoaLen
namespace Go.Proofs.YteiinkhdgppgbaaGreatDoor
open Go.RowKit
set_option linter.unusedVariables false
set_option linter.unusedSimpArgs false

theorem step_app_run {P : Program} {w : World} {ops : Array Oper} {o : Oper} {a : Act} {K : Act → World → Prop} {Q : Exit → Act → World → Prop} {E : Prop} (hgd : o.guard = none) (s x : Operand) (t tn : TypeId)
    (ho : o.op = .call { callee := .builtin .append, args := #[s, x], argTypes := #[t, tn] }) (vs vx : Value) (hs : a.eval s = vs) (hx : a.eval x = vx)
    (v' : Value) (w' : World) (hr : (Builtin.append_ #[t, tn] o.type #[vs, vx]).run P w = .ok v' w') (h : K (a.put o.dst v') w') :
    if Region.wanted o (yielded ops a.tmps) = true then Oper.wp P o a w K Q else E := by
  have hw : Region.wanted o (yielded ops a.tmps) = true := by simp [Region.wanted, hgd]
  rw [if_pos hw]
  exact Lib.wp_append_run w s x t tn ho vs vx hs hx v' w' hr h

/-- Ints within the machine's. -/
def I64 (n : Int) : Prop := -9223372036854775808 ≤ n ∧ n ≤ 9223372036854775807
structure LnB (x : Sv) (s : Sp) : Prop where
  m : ∀ k, k < x.n1 → I64 (gM s.merges k).1 ∧ I64 (gM s.merges k).2
  t : ∀ k, k < x.n2 → (gT s.tokens k).size ≤ 100000
  sp : ∀ k, k < x.n3 → I64 (gS s.specials k).1 ∧ (gS s.specials k).2.size ≤ 100000
  c : ∀ k, k < x.n4 → I64 (gC s.classes k).1 ∧ I64 (gC s.classes k).2.1 ∧ I64 (gC s.classes k).2.2
  j : ∀ k, k < x.n5 → I64 (gM s.joins k).1 ∧ I64 (gM s.joins k).2
  n : x.n1 ≤ 100000 ∧ x.n2 ≤ 100000 ∧ x.n3 ≤ 100000 ∧ x.n4 ≤ 100000 ∧ x.n5 ≤ 100000
theorem take_gM {l : List (Int × Int)} {k : Nat} (h : k < l.length) : l.take (k + 1) = l.take k ++ [gM l k] := by
  rw [List.take_succ_eq_append_getElem h]; unfold gM; rw [List.getD_eq_getElem?_getD, List.getElem?_eq_getElem h]; rfl
/-- The lines so far. -/
structure LnI (w : World) (W0 : World) (x : Sv) (s : Sp) (ls : List (List UInt8)) (ao : Option Addr) (n cap : Nat) (W : World) : Prop where
  i : SpI w w.heap.size x s W
  b : Below W0.heap.size W0 W
  o : W.ownsRow W0.heap.size 9 1 (.slice ao n cap) n (tv ls)
  l : ls.length = n
theorem row_low {B : Nat} {W W' : World} {t : TypeId} {v : Value} {n : Nat} {us : List Value} (h : W.ownsRow B t 1 v n us) (hb : Below W.heap.size W W') : W'.ownsRow B t 1 v n us := 
  h.kept (row := none) ⟨hb.os, hb.tape, hb.output, hb.size, fun k hk _ => hb.block k hk⟩ (by cases v.ownBlock <;> simp)
theorem LnI.next {w W0 : World} {x : Sv} {s : Sp} {ls : List (List UInt8)} {ao : Option Addr} {n cap : Nat} {W W' : World} (h : LnI w W0 x s ls ao n cap W) (hb : Below W.heap.size W W') : LnI w W0 x s ls ao n cap W' :=
  ⟨h.i.next hb, h.b.trans (hb.mono h.b.size), row_low h.o hb, h.l⟩
theorem LnI.app {w W0 : World} {x : Sv} {s : Sp} {ls : List (List UInt8)} {ao : Option Addr} {n cap : Nat} {W : World} (h0 : SpI w w.heap.size x s W0) (h : LnI w W0 x s ls ao n cap W) (t : ByteArray) (hn : n ≤ 1000000) :
    ∃ g cap1 W1, (Builtin.append_ #[23, 23] 23 #[.slice ao n cap, .slice (some ⟨W.heap.size, 0, none⟩) 1 1]).run Tryz.prog (W.alloc (.cells #[.string t] 9)) = .ok (.slice (some ⟨g, 0, none⟩) (n + 1) cap1) W1 ∧ LnI w W0 x s (ls ++ [t.data.toList]) (some ⟨g, 0, none⟩) (n + 1) cap1 W1 := by
  obtain ⟨g, cap1, w1, hrun, hown, hb⟩ := app_text W W0.heap.size ao n cap ls t h.o hn h.b.size
  refine ⟨g, cap1, w1, hrun, ⟨h0.next (h.b.trans hb), h.b.trans hb, hown, ?_⟩⟩
  rw [List.length_append, h.l]
  rfl
theorem un_drew {W W' : World} (h : Below W.drew.heap.size W.drew W') : Below W.heap.size W W' := ⟨h.os, h.tape, h.output, h.size, h.block⟩
theorem LnI.new {w : World} {x : Sv} {s : Sp} {W0 W : World} (h0 : SpI w w.heap.size x s W0) (hb : Below W0.heap.size W0 W) (t : ByteArray) : LnI w W0 x s [t.data.toList] (some ⟨W.heap.size, 0, none⟩) 1 1 (W.alloc (.cells #[.string t] 9)) :=
  ⟨(h0.next hb).next (low_alloc _ _), hb.trans ((low_alloc W _).mono hb.size), World.ownsRow_lit W #[.string t] 1 hb.size (by unfold maxLen; omega) rfl, rfl⟩
end Go.Proofs.YteiinkhdgppgbaaGreatDoor
