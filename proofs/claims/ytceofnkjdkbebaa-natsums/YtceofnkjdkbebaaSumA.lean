/- NatSums: numbers one behind the other. -/
import Derived.Test.YtceofnkjdkbebaaMulD
import Derived.Test.YtceofnkjdkbebaaRefC
import Derived.Lib.AppendZeros
import Derived.Deep.AppendLies
import Derived.Laws.OwnMore
namespace Go.Proofs.Ytceofnkjdkbebaa
open Go.RowKit
set_option linter.unusedVariables false
set_option linter.unusedSimpArgs false

theorem info_nat : (Try.prog.info? 30).map (fun i => (i.zero, i.size, i.bytes)) = some (some (.agg #[.slice none 0 0]), 1, 24) := by kernel_rfl

theorem own_ne_row {k : IntKind} {e : TypeId} {w : World} {base : Nat} {ao : Option Addr} {n cap : Nat} {zs : List Int} {B : Nat} {E : TypeId} {size : Nat} {v : Value} {m : Nat} {xs : List Value} (h : Own k e w base ao n cap zs) (hr : w.ownsRow B E size v m xs) (hne : e ≠ E) : blk ao = none ∨ blk ao ≠ v.ownBlock := by
  rcases h.2 with ⟨rfl, _⟩ | ⟨g, cur, rfl, _, hg, _⟩
  · exact Or.inl rfl
  · right
    intro he
    rcases hr.2 with ⟨rfl, _⟩ | ⟨g', cap', cur', rfl, _, hg', _⟩
    · simp [blk, Value.ownBlock] at he
    · simp [blk, Value.ownBlock] at he
      subst he
      rw [hg] at hg'
      simp at hg'
      exact hne hg'.2

/-- A number with memory of its own. -/
def OwnN (w : World) (base : Nat) (ao : Option Addr) (m : Nat) (V : Int) : Prop := ∃ ds, Own .u32 43 w base ao m m ds ∧ Dg 4294967296 ds ∧ Nz ds ∧ pv 4294967296 ds = V
theorem OwnN.isNat {w : World} {base : Nat} {ao : Option Addr} {m : Nat} {V : Int} (h : OwnN w base ao m V) : IsNat w ao m V := by
  obtain ⟨ds, hO, r⟩ := h
  exact ⟨ds, hO.reads, r⟩
theorem OwnN.below {w w' : World} {base : Nat} {ao : Option Addr} {m : Nat} {V : Int} (h : OwnN w base ao m V) (hb : Below w.heap.size w w') : OwnN w' base ao m V := by
  obtain ⟨ds, hO, r⟩ := h
  exact ⟨ds, hO.below hb, r⟩
def OwnD (w : World) (base : Nat) (ao : Option Addr) (m cap : Nat) (V : Int) : Prop := ∃ D, Own .u8 5 w base ao m cap D ∧ Dg 10 D ∧ Nz D ∧ pv 10 D = V
theorem OwnD.isDec {w : World} {base : Nat} {ao : Option Addr} {m cap : Nat} {V : Int} (h : OwnD w base ao m cap V) : IsDec w ao m V := by
  obtain ⟨ds, hO, r⟩ := h
  exact ⟨ds, hO.reads, r⟩
theorem OwnD.below {w w' : World} {base : Nat} {ao : Option Addr} {m cap : Nat} {V : Int} (h : OwnD w base ao m cap V) (hb : Below w.heap.size w w') : OwnD w' base ao m cap V := by
  obtain ⟨ds, hO, r⟩ := h
  exact ⟨ds, hO.below hb, r⟩

abbrev Tup := Option Addr × Nat × Nat × Int
def vls (ls : List Tup) : List Value := ls.map (fun x => Value.slice x.1 x.2.1 x.2.2.1)

/-- What holds at the head of the first loop. -/
structure SuI (w : World) (ls : List Tup) (v : Value) (aoD : Option Addr) (nD cD : Nat) (S : Int) (wr : World) : Prop where
  row : wr.ownsRow w.heap.size 30 1 v ls.length (vls ls)
  els : ∀ x ∈ ls, OwnN wr w.heap.size x.1 x.2.1 x.2.2.2 ∧ x.2.1 ≤ 20 ∧ x.2.2.1 = x.2.1 ∧ x.2.2.2 < 4294967296 ^ 20
  dec : OwnD wr w.heap.size aoD nD cD S
  B : Below w.heap.size w wr

theorem row_kept' {w w' : World} {B : Nat} {E : TypeId} {size : Nat} {v : Value} {n : Nat} {xs : List Value} (h : w.ownsRow B E size v n xs) (hb : Below w.heap.size w w') : w'.ownsRow B E size v n xs :=
  h.kept (row := none) ⟨hb.os, hb.tape, hb.output, hb.size, fun k hk _ => hb.block k hk⟩ (by cases v.ownBlock <;> simp)
theorem SuI.kept {w : World} {ls : List Tup} {v : Value} {aoD : Option Addr} {nD cD : Nat} {S : Int} {wr w' : World} (h : SuI w ls v aoD nD cD S wr) (hb : Below wr.heap.size wr w') : SuI w ls v aoD nD cD S w' :=
  ⟨row_kept' h.row hb, fun x hx => ⟨(h.els x hx).1.below hb, (h.els x hx).2⟩, h.dec.below hb, h.B.trans (hb.mono h.B.size)⟩

/-- A number is put behind others. -/
theorem SuI.app {w : World} {ls : List Tup} {ao : Option Addr} {n cap : Nat} {aoD : Option Addr} {nD cD : Nat} {S : Int} {wr : World} (h : SuI w ls (.slice ao n cap) aoD nD cD S wr) (hn : n = ls.length) (hl : ls.length ≤ 100) {ax : Option Addr} {mx : Nat} {V : Int} (hx : OwnN wr w.heap.size ax mx V) (hm : mx ≤ 20) (hV : V < 4294967296 ^ 20) :
    ∃ g cap1 w1, (Builtin.append_ #[25, 25] 25 #[.slice ao n cap, .slice (some ⟨wr.heap.size, 0, none⟩) 1 1]).run Try.prog (wr.alloc (.cells #[.slice ax mx mx] 30)) = .ok (.slice (some ⟨g, 0, none⟩) (n + 1) cap1) w1 ∧ SuI w (ls ++ [(ax, mx, mx, V)]) (.slice (some ⟨g, 0, none⟩) (n + 1) cap1) aoD nD cD S w1 := by
  subst hn
  obtain ⟨i0, hi, hz0, hz1, hz2⟩ := info_parts info_nat
  have hb := below_alloc wr (.cells #[.slice ax mx mx] 30)
  have ha := h.kept hb
  have hxa := hx.below hb
  obtain ⟨g, cap1, w1, hrun, hown, hgrow, _, _⟩ := run_append_lies (P := Try.prog) (wr.alloc (.cells #[.slice ax mx mx] 30)) 25 25 w.heap.size 30 i0 _ 1 24 Try.underlying25 hi hz0 hz1 hz2 rfl (by omega) (.slice ao ls.length cap) ls.length (vls ls) ha.row ⟨wr.heap.size, 0, none⟩ 1 1 [.slice ax mx mx] rfl (World.news_of_block (heap_alloc_new wr _)) (by simp [Value.oneCell']) (by omega) (by unfold maxLen; omega) (by omega) ha.B.size (wr.heap.size + 1) (by simp)
  have keepN : ∀ {a : Option Addr} {m : Nat} {U : Int}, OwnN (wr.alloc (.cells #[.slice ax mx mx] 30)) w.heap.size a m U → OwnN w1 w.heap.size a m U := by
    rintro a m U ⟨ds, hO, r⟩
    exact ⟨ds, hO.kept hgrow (own_ne_row hO ha.row (by decide)), r⟩
  refine ⟨g, cap1, w1, hrun, ⟨?_, fun x hx' => ?_, ?_, ?_⟩⟩
  · have e : vls (ls ++ [(ax, mx, mx, V)]) = vls ls ++ [.slice ax mx mx] := by simp [vls]
    rw [e, List.length_append]
    exact hown
  · rcases List.mem_append.1 hx' with h1 | h1
    · exact ⟨keepN (ha.els x h1).1, (ha.els x h1).2⟩
    · simp at h1
      subst h1
      exact ⟨keepN hxa, hm, rfl, hV⟩
  · obtain ⟨D, hO, r⟩ := ha.dec
    exact ⟨D, hO.kept hgrow (own_ne_row hO ha.row (by decide)), r⟩
  · exact ha.B.trans ⟨hgrow.os, hgrow.tape, hgrow.output, hgrow.size, fun k hk => hgrow.block k (by have := ha.B.size; omega) (fun e => by have := (ha.row.lt k e.symm).1; omega)⟩

theorem SuI.nats {w : World} {ls : List Tup} {ao : Option Addr} {n cap : Nat} {aoD : Option Addr} {nD cD : Nat} {S : Int} {wr : World} (h : SuI w ls (.slice ao n cap) aoD nD cD S wr) : Nats wr ao ls := by
  refine ⟨?_, fun x hx => ⟨(h.els x hx).1.isNat, by have := (h.els x hx).2.1; omega⟩⟩
  by_cases h0 : ls = []
  · exact Or.inl h0
  · right
    have hp : 0 < ls.length := List.length_pos_iff.2 h0
    obtain ⟨g, c, hv, _, _⟩ := h.row.form hp
    simp only [Value.slice.injEq] at hv
    obtain ⟨rfl, rfl, rfl⟩ := hv
    refine ⟨g, 0, rfl, fun i hi => ?_⟩
    rw [Nat.zero_add, h.row.cellAt i (by omega)]
    simp [vls, hi]
theorem sum_bound : ∀ (ls : List Tup), (∀ x ∈ ls, 0 ≤ x.2.2.2 ∧ x.2.2.2 < 4294967296 ^ 20) → 0 ≤ sumN ls ∧ sumN ls ≤ ls.length * 4294967296 ^ 20
  | [], _ => by simp [sumN]
  | x :: r, h => by
    have h1 := sum_bound r (fun y hy => h y (List.mem_cons_of_mem _ hy))
    have h2 := h x List.mem_cons_self
    have e : sumN (x :: r) = x.2.2.2 + sumN r := by simp [sumN]
    rw [e]
    refine ⟨Int.add_nonneg h2.1 h1.1, ?_⟩
    rw [List.length_cons, Int.natCast_add, Int.add_mul]
    have h3 := h2.2
    have h4 := h1.2
    generalize (4294967296 : Int) ^ 20 = Q at *
    generalize sumN r = s at *
    generalize ((r.length : Int) * Q) = z at *
    simp
    omega
theorem sum_lt {ls : List Tup} (hl : ls.length ≤ 10) (h : ∀ x ∈ ls, 0 ≤ x.2.2.2 ∧ x.2.2.2 < 4294967296 ^ 20) : sumN ls < 4294967296 ^ 21 := by
  have h1 := (sum_bound ls h).2
  have h2 : (ls.length : Int) * 4294967296 ^ 20 ≤ 10 * 4294967296 ^ 20 := Int.mul_le_mul_of_nonneg_right (by omega) (by decide)
  have h3 : (10 : Int) * 4294967296 ^ 20 < 4294967296 ^ 21 := by decide +kernel
  exact Int.lt_of_le_of_lt (Int.le_trans h1 h2) h3
theorem sum_len {w : World} {ao : Option Addr} {m : Nat} {ls : List Tup} (h : IsDec w ao m (sumN ls)) (hl : ls.length ≤ 10) (hs : ∀ x ∈ ls, 0 ≤ x.2.2.2 ∧ x.2.2.2 < 4294967296 ^ 20) : m ≤ 300 :=
  Nat.le_trans (h.len (K := 210) (Int.lt_trans (sum_lt hl hs) (by decide +kernel))) (by omega)

end Go.Proofs.Ytceofnkjdkbebaa
