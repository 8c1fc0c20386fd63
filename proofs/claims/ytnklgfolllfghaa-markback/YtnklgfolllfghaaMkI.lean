/- Contracts of package mark: New. -/
import Derived.Test.YtnklgfolllfghaaMkF
import Derived.Deep.RegionHeld3
import Derived.Lib.BufferMore
import Derived.Deep.RegionLaw
import Derived.Deep.AppendLies
namespace Go.Proofs.Ytnklgfolllfghaa.Mk
open Go.RowKit Go.Maps
set_option linter.unusedVariables false
set_option linter.unusedSimpArgs false

/-- What holds at the head of New's loop. -/
structure NwI (w : World) (p b1 b2 : Nat) (L : List (Int × ByteArray)) (k : Nat) (ao : Option Addr) (cap : Nat) (wr : World) : Prop where
  st : wr.heap[p]? = some (.cells #[.slice ao k cap, .map (some b1)] 52 (0, 0))
  row : wr.ownsRow w.heap.size 34 2 (.slice ao k cap) k (sv (L.take k))
  m1 : MapI wr b1 (L.take k)
  m2 : MapT wr b2 (L.take k)
  ne : b1 ≠ b2
  lo : w.heap.size ≤ p ∧ w.heap.size ≤ b1 ∧ w.heap.size ≤ b2
  bel : Below w.heap.size w wr
section
variable {w : World} {p b1 b2 : Nat} {L : List (Int × ByteArray)} {k : Nat} {ao : Option Addr} {cap : Nat} {wr wr' : World}
theorem NwI.lt (h : NwI w p b1 b2 L k ao cap wr) : p < wr.heap.size := (Array.getElem?_eq_some_iff.1 h.st).1
theorem NwI.low (h : NwI w p b1 b2 L k ao cap wr) (hb : Below wr.heap.size wr wr') : NwI w p b1 b2 L k ao cap wr' :=
  ⟨(hb.block p h.lt).trans h.st, row_keptB h.row hb, h.m1.keep (hb.block _ h.m1.lt), h.m2.keep (hb.block _ h.m2.lt), h.ne, h.lo, h.bel.trans (hb.mono h.bel.size)⟩
theorem NwI.cell0 (h : NwI w p b1 b2 L k ao cap wr) : wr.cell? ⟨p, 0, none⟩ = some (.slice ao k cap) := by simp [World.cell?, h.st]
theorem NwI.cell1 (h : NwI w p b1 b2 L k ao cap wr) : wr.cell? ⟨p, 1, none⟩ = some (.map (some b1)) := by simp [World.cell?, h.st]
theorem NwI.free (h : NwI w p b1 b2 L k ao cap wr) (o : Nat) : wr.frozen? ⟨p, o, none⟩ = false := by simp [World.frozen?, h.st]
theorem NwI.pb1 (h : NwI w p b1 b2 L k ao cap wr) : p ≠ b1 := fun e => by
  obtain ⟨es, c, hm⟩ := h.m1.isMap
  have := h.st
  rw [e, hm] at this
  cases this
theorem NwI.pb2 (h : NwI w p b1 b2 L k ao cap wr) : p ≠ b2 := fun e => by
  obtain ⟨es, c, hm⟩ := h.m2.isMap
  have := h.st
  rw [e, hm] at this
  cases this
theorem row_ne {W : World} {B : Nat} {E : TypeId} {size : Nat} {v : Value} {n : Nat} {xs : List Value} {q : Nat} (h : W.ownsRow B E size v n xs) (hq : ∀ cur, W.heap[q]? ≠ some (.cells cur E (0, 0))) : some q ≠ v.ownBlock := by
  intro e
  rcases h.2 with ⟨rfl, _⟩ | ⟨g, cap, cur, rfl, _, hg, _⟩
  · simp [Value.ownBlock] at e
  · simp only [Value.ownBlock, Option.some.injEq] at e
    subst e
    exact hq cur hg
theorem NwI.pne (h : NwI w p b1 b2 L k ao cap wr) : some p ≠ (Value.slice ao k cap).ownBlock := row_ne h.row (fun cur e => by rw [h.st] at e; simp at e)
theorem NwI.b1ne (h : NwI w p b1 b2 L k ao cap wr) : some b1 ≠ (Value.slice ao k cap).ownBlock := row_ne h.row (fun cur e => by obtain ⟨es, c, hm⟩ := h.m1.isMap; rw [hm] at e; cases e)
theorem NwI.b2ne (h : NwI w p b1 b2 L k ao cap wr) : some b2 ≠ (Value.slice ao k cap).ownBlock := row_ne h.row (fun cur e => by obtain ⟨es, c, hm⟩ := h.m2.isMap; rw [hm] at e; cases e)
theorem NwI.start (w : World) (L : List (Int × ByteArray)) : NwI w (w.heap.size + 1) w.heap.size (w.heap.size + 2) L 0 none 0 (((w.alloc (.map #[] 0)).alloc (.cells #[.slice none 0 0, .map (some w.heap.size)] 52)).alloc (.map #[] 0)) := by
  have h1 := low1 w (.map #[] 0)
  have h2 := low1 (w.alloc (.map #[] 0)) (.cells #[.slice none 0 0, .map (some w.heap.size)] 52)
  have h3 := low1 ((w.alloc (.map #[] 0)).alloc (.cells #[.slice none 0 0, .map (some w.heap.size)] 52)) (.map #[] 0)
  refine ⟨?_, by simpa [sv] using World.ownsRow_nil _ _ _ _, ?_, ?_, by omega, ⟨by omega, by omega, by omega⟩, ?_⟩
  · rw [h3.block _ (by simp)]
    have := heap_alloc_new (w.alloc (.map #[] 0)) (.cells #[.slice none 0 0, .map (some w.heap.size)] 52)
    simpa using this
  · have hm := MapK.made Try.prog 3 3 0 w
    have := (hm.keep (h2.block _ hm.lt))
    have h4 := this.keep (h3.block _ this.lt)
    simpa [MapI, ids] using h4
  · have hm := MapK.made Try.prog 9 3 0 ((w.alloc (.map #[] 0)).alloc (.cells #[.slice none 0 0, .map (some w.heap.size)] 52))
    simpa [MapT, txs] using hm
  · exact h1.trans ((h2.mono (by simp)).trans (h3.mono (by simp; omega)))
/-- What is not in the lists. -/
theorem ids_not (hk : k ≤ L.length) (x : Int) : ik x ∈ ids (L.take k) ↔ ∃ j, j < k ∧ (gS L j).1 = x := by
  unfold ids
  constructor
  · intro h
    obtain ⟨y, hy, e⟩ := List.mem_map.1 h
    obtain ⟨j, hj, rfl⟩ := List.getElem_of_mem hy
    rw [List.length_take] at hj
    refine ⟨j, by omega, ?_⟩
    rw [← ik_inj e, ← gS_take L (show j < k by omega), gS, List.getD_eq_getElem?_getD, List.getElem?_eq_getElem (by rw [List.length_take]; omega)]
    rfl
  · rintro ⟨j, hj, rfl⟩
    have : gS (L.take k) j ∈ L.take k := gS_mem (by rw [List.length_take]; omega)
    rw [gS_take L hj] at this
    exact List.mem_map.2 ⟨_, this, rfl⟩
theorem txs_not (hk : k ≤ L.length) (x : ByteArray) : sk x ∈ txs (L.take k) ↔ ∃ j, j < k ∧ (gS L j).2 = x := by
  unfold txs
  constructor
  · intro h
    obtain ⟨y, hy, e⟩ := List.mem_map.1 h
    obtain ⟨j, hj, rfl⟩ := List.getElem_of_mem hy
    rw [List.length_take] at hj
    refine ⟨j, by omega, ?_⟩
    rw [← sk_inj e, ← gS_take L (show j < k by omega), gS, List.getD_eq_getElem?_getD, List.getElem?_eq_getElem (by rw [List.length_take]; omega)]
    rfl
  · rintro ⟨j, hj, rfl⟩
    have : gS (L.take k) j ∈ L.take k := gS_mem (by rw [List.length_take]; omega)
    rw [gS_take L hj] at this
    exact List.mem_map.2 ⟨_, this, rfl⟩
end
/-- A look-up by number, told by whether it is there: in any world. -/
theorem look_id (L : List (Int × ByteArray)) (k : Nat) {x : Int} (hx : wfI x) : ∃ (v : Int) (z : Bool), (z = true ↔ ik x ∈ ids (L.take k)) ∧ ∀ (wr : World) (b1 : Nat), MapI wr b1 (L.take k) → (Instr.lookup 50 (.map (some b1)) (.int .i64 x) true).run Try.prog wr = .ok (.tuple #[.int .i64 v, .bool z]) wr := by
  by_cases e : ik x ∈ ids (L.take k)
  · obtain ⟨i, hi, he⟩ := List.getElem_of_mem e
    refine ⟨0 + i, true, by simp [e], fun wr b1 h => ?_⟩
    have hl := h.look keyI Try.underlying50 Try.underlying3 zeroI (ik_key hx)
    exact hl.2 i (by rw [List.getElem?_eq_getElem hi, he])
  · refine ⟨0, false, by simp [e], fun wr b1 h => ?_⟩
    have hl := h.look keyI Try.underlying50 Try.underlying3 zeroI (ik_key hx)
    exact hl.1 e
theorem look_tx (L : List (Int × ByteArray)) (k : Nat) {x : ByteArray} (hx : x.size ≤ maxLen) : ∃ (v : Int) (z : Bool), (z = true ↔ sk x ∈ txs (L.take k)) ∧ ∀ (wr : World) (b2 : Nat), MapT wr b2 (L.take k) → (Instr.lookup 53 (.map (some b2)) (.string x) true).run Try.prog wr = .ok (.tuple #[.int .i64 v, .bool z]) wr := by
  by_cases e : sk x ∈ txs (L.take k)
  · obtain ⟨i, hi, he⟩ := List.getElem_of_mem e
    refine ⟨0 + i, true, by simp [e], fun wr b2 h => ?_⟩
    have hl := h.look keyS Try.underlying53 Try.underlying3 zeroI (sk_key hx)
    exact hl.2 i (by rw [List.getElem?_eq_getElem hi, he])
  · refine ⟨0, false, by simp [e], fun wr b2 h => ?_⟩
    have hl := h.look keyS Try.underlying53 Try.underlying3 zeroI (sk_key hx)
    exact hl.1 e

/-- A new entry of a map: made ahead and filled behind, or at once; in any world that has the block. -/
theorem ent_new {P : Program} {K E : TypeId} {off : Int} {w : World} {b : Nat} {ks : List Lit} (h : MapK P K E off w b ks) (KY : Keyed P K) {t : TypeId} (ht : P.underlying t = some (.map K E)) (he : P.underlying E = some (.int .i64)) (hz : ∀ w, (zeroValue E).run P w = .ok (.int .i64 0) w) {key : Value} {l : Lit} (hkey : keyOf P K key = some l) (hl : l ∉ ks) (hn : ks.length < maxLen) {v : Int} (hv : v = off + ks.length) (hw : (Lit.int .i64 v).wf = true) :
    ∃ (st : Nat) (o1 o2 : Obj), (∀ w1 : World, w1.heap[b]? = w.heap[b]? → (Instr.mapEntry t (.map (some b)) key).run P w1 = .ok (.tuple #[.int .i64 0, .int .i64 st]) (Go.ChangeMaps.setBlock w1 b o1)) ∧ (∀ w2 : World, w2.heap[b]? = some o1 → (Instr.entryStore t (.map (some b)) (.int .i64 st) (.int .i64 v)).run P w2 = .ok () (Go.ChangeMaps.setBlock w2 b o2)) ∧ (∀ w1 : World, w1.heap[b]? = w.heap[b]? → (Instr.mapUpdate t (.map (some b)) key (.int .i64 v)).run P w1 = .ok () (Go.ChangeMaps.setBlock w1 b o2)) ∧ ∀ w3 : World, w3.heap[b]? = some o2 → MapK P K E off w3 b (ks ++ [l]) := by
  obtain ⟨w', hrun, hm', hg⟩ := h.put KY ht he hkey hl hn hv hw
  have hlk := (h.look KY ht he hz hkey).1 hl
  obtain ⟨n, D, hn1, ⟨es, clock, hb, F, hs, hD⟩, hh, ha⟩ := h
  obtain ⟨s1, s2, _⟩ := F.stamped
  rcases KY.find w hkey es.toList F.keys with ⟨h1, h2⟩ | ⟨j, e0, h1, h2, h3⟩
  · have hfind : ∀ w1 : World, (Instr.findKey K key es.toList).run P w1 = .ok none w1 := fun w1 => by
      rcases KY.find w1 hkey es.toList F.keys with ⟨g1, g2⟩ | ⟨j, e0, g1, g2, g3⟩
      · exact g1
      · exact absurd g3 (h2 e0 (List.mem_of_getElem? g2))
    have hup : ∀ w1 : World, w1.heap[b]? = w.heap[b]? → (Instr.mapUpdate t (.map (some b)) key (.int .i64 v)).run P w1 = .ok () (Go.ChangeMaps.setBlock w1 b (.map (es.push ⟨key, .int .i64 v, clock⟩) (clock + 1))) := fun w1 hw1 => by
      have hb1 := hw1.trans hb
      simp [Instr.mapUpdate, run_underlying ht, MapKept.run_getObj_map hb1, KY.check w1 false hkey, hfind w1, MapKept.run_setObj_map _ hb1, Result.andThen, Go.ChangeMaps.setBlock]
    refine ⟨clock, .map (es.push ⟨key, .int .i64 0, clock⟩) (clock + 1), .map (es.push ⟨key, .int .i64 v, clock⟩) (clock + 1), fun w1 hw1 => ?_, fun w2 hw2 => ?_, hup, fun w3 hw3 => ?_⟩
    · have hb1 := hw1.trans hb
      simp [Instr.mapEntry, run_underlying ht, MapKept.run_getObj_map hb1, KY.check w1 false hkey, hfind w1, hz, MapKept.run_setObj_map _ hb1, Result.andThen, Go.ChangeMaps.setBlock, goInt]
    · have hidx : (es.push ⟨key, .int .i64 0, clock⟩).findIdx? (fun e => ((e.born : Nat) : Int) == ((clock : Nat) : Int)) = some es.size := by
        rw [WideElems.findIdx_arr]
        have := WideElems.findIdx_born (l := (es.push ⟨key, .int .i64 0, clock⟩).toList) (j := es.size) (e0 := ⟨key, .int .i64 0, clock⟩) (by
          simp only [Array.toList_push, List.map_append, List.map_cons, List.map_nil]
          refine List.nodup_append.2 ⟨s2, by simp, fun a ha c hc e1 => ?_⟩
          simp only [List.mem_singleton] at hc
          obtain ⟨x, hx, rfl⟩ := List.mem_map.1 ha
          have := s1 x hx
          omega) (by simp)
        exact this
      have hmod : (es.push ⟨key, .int .i64 0, clock⟩).modify es.size (fun e => { e with val := .int .i64 v }) = es.push ⟨key, .int .i64 v, clock⟩ := by
        apply Array.ext'
        rw [Array.toList_modify, Array.toList_push, Array.toList_push, ← Array.length_toList, WideElems.modify_last]
      simp [Instr.entryStore, MapKept.run_getObj_map hw2, asInt, asIntOf, goInt, hidx, hmod, MapKept.run_setObj_map _ hw2, Result.andThen, Go.ChangeMaps.setBlock]
    · have hup := hup w rfl
      rw [hrun] at hup
      have e : w' = Go.ChangeMaps.setBlock w b (.map (es.push ⟨key, .int .i64 v, clock⟩) (clock + 1)) := by simpa using hup
      refine hm'.keep ?_
      rw [hw3, e]
      have hlt : b < w.heap.size := (Array.getElem?_eq_some_iff.1 hb).1
      simp [Go.ChangeMaps.setBlock, hlt]
  · exfalso
    have hj : es[j]? = some e0 := by simpa using h2
    simp [Instr.lookup, run_underlying ht, MapKept.run_getObj_map hb, KY.check w _ hkey, h1, hj, Result.andThen] at hlk

/-- A block is laid anew. -/
theorem sb_other (w : World) {b k : Nat} (o : Obj) (h : k ≠ b) : (Go.ChangeMaps.setBlock w b o).heap[k]? = w.heap[k]? := by
  simp [Go.ChangeMaps.setBlock, Array.getElem?_setIfInBounds_ne (Ne.symm h)]
theorem sb_same (w : World) {b : Nat} (o : Obj) (h : b < w.heap.size) : (Go.ChangeMaps.setBlock w b o).heap[b]? = some o := by
  simp [Go.ChangeMaps.setBlock, h]
theorem sb_size (w : World) (b : Nat) (o : Obj) : (Go.ChangeMaps.setBlock w b o).heap.size = w.heap.size := by simp [Go.ChangeMaps.setBlock]
theorem sb_cell (w : World) {b : Nat} (o : Obj) {p : Addr} (h : p.block ≠ b) : (Go.ChangeMaps.setBlock w b o).cell? p = w.cell? p := by
  simp only [World.cell?, sb_other w o h]
theorem sb_frl (w : World) {b : Nat} (o : Obj) {F : List Nat} (h : b ∈ F) : FrL F w (Go.ChangeMaps.setBlock w b o) :=
  ⟨rfl, rfl, rfl, by rw [sb_size]; exact Nat.le_refl _, fun k _ hk => sb_other w o (fun e => hk (by rw [e]; exact h))⟩
/-- Two blocks are laid anew. -/
structure TwoB (w W : World) (b1 b2 : Nat) (o1 o2 : Obj) : Prop where
  fr : FrL [b1, b2] w W
  one : W.heap[b1]? = some o1
  two : W.heap[b2]? = some o2
theorem two1 {w : World} {b1 b2 : Nat} (hne : b1 ≠ b2) (h1 : b1 < w.heap.size) (h2 : b2 < w.heap.size) (o0 o1 o2 : Obj) : TwoB w (Go.ChangeMaps.setBlock (Go.ChangeMaps.setBlock (Go.ChangeMaps.setBlock w b1 o0) b1 o1) b2 o2) b1 b2 o1 o2 :=
  ⟨((sb_frl w o0 (by simp)).trans' (sb_frl _ o1 (by simp))).trans' (sb_frl _ o2 (by simp)), by rw [sb_other _ _ hne, sb_same _ _ (by rw [sb_size]; exact h1)], sb_same _ _ (by rw [sb_size, sb_size]; exact h2)⟩
theorem two2 {w : World} {b1 b2 : Nat} (hne : b1 ≠ b2) (h1 : b1 < w.heap.size) (h2 : b2 < w.heap.size) (o0 o1 o2 : Obj) : TwoB w (Go.ChangeMaps.setBlock (Go.ChangeMaps.setBlock (Go.ChangeMaps.setBlock w b1 o0) b2 o2) b1 o1) b1 b2 o1 o2 :=
  ⟨((sb_frl w o0 (by simp)).trans' (sb_frl _ o2 (by simp))).trans' (sb_frl _ o1 (by simp)), sb_same _ _ (by rw [sb_size, sb_size]; exact h1), by rw [sb_other _ _ (Ne.symm hne), sb_same _ _ (by rw [sb_size]; exact h2)]⟩
theorem two3 {w : World} {b1 b2 : Nat} (hne : b1 ≠ b2) (h1 : b1 < w.heap.size) (h2 : b2 < w.heap.size) (o0 o1 o2 : Obj) : TwoB w (Go.ChangeMaps.setBlock (Go.ChangeMaps.setBlock (Go.ChangeMaps.setBlock w b2 o2) b1 o0) b1 o1) b1 b2 o1 o2 :=
  ⟨((sb_frl w o2 (by simp)).trans' (sb_frl _ o0 (by simp))).trans' (sb_frl _ o1 (by simp)), sb_same _ _ (by rw [sb_size, sb_size]; exact h1), by rw [sb_other _ _ (Ne.symm hne), sb_other _ _ (Ne.symm hne), sb_same _ _ h2]⟩
theorem cell_old (w : World) (o : Obj) {b off : Nat} (hb : b < w.heap.size) : (w.alloc o).cell? ⟨b, off, none⟩ = w.cell? ⟨b, off, none⟩ := (low1 w o).cell (p := ⟨b, off, none⟩) hb
theorem frozen_old (w : World) (o : Obj) {b off : Nat} (hb : b < w.heap.size) : (w.alloc o).frozen? ⟨b, off, none⟩ = w.frozen? ⟨b, off, none⟩ := by simp only [World.frozen?, (low1 w o).block b hb]
theorem take_succ_sv (L : List (Int × ByteArray)) (k : Nat) (x1 : Int) (x2 : ByteArray) (h : L.take (k + 1) = L.take k ++ [(x1, x2)]) : sv (L.take (k + 1)) = sv (L.take k) ++ [.int .i64 x1, .string x2] ∧ ids (L.take (k + 1)) = ids (L.take k) ++ [ik x1] ∧ txs (L.take (k + 1)) = txs (L.take k) ++ [sk x2] := by
  rw [h]
  refine ⟨?_, by simp [ids], by simp [txs]⟩
  generalize L.take k = l
  induction l with
  | nil => rfl
  | cons a r ih => simp [sv, ih]
/-- What holds behind the maps' new entries. -/
structure NwM (w : World) (p b1 b2 : Nat) (L : List (Int × ByteArray)) (k : Nat) (ao : Option Addr) (cap : Nat) (wr : World) : Prop where
  st : wr.heap[p]? = some (.cells #[.slice ao k cap, .map (some b1)] 52 (0, 0))
  row : wr.ownsRow w.heap.size 34 2 (.slice ao k cap) k (sv (L.take k))
  m1 : MapI wr b1 (L.take (k + 1))
  m2 : MapT wr b2 (L.take (k + 1))
  ne : b1 ≠ b2
  lo : w.heap.size ≤ p ∧ w.heap.size ≤ b1 ∧ w.heap.size ≤ b2
  bel : Below w.heap.size w wr
section
variable {w : World} {p b1 b2 : Nat} {L : List (Int × ByteArray)} {k : Nat} {ao : Option Addr} {cap : Nat} {wr wn : World} {x1 : Int} {x2 : ByteArray}
theorem NwM.lt (h : NwM w p b1 b2 L k ao cap wr) : p < wr.heap.size := (Array.getElem?_eq_some_iff.1 h.st).1
theorem NwM.pne (h : NwM w p b1 b2 L k ao cap wr) : some p ≠ (Value.slice ao k cap).ownBlock := row_ne h.row (fun cur e => by rw [h.st] at e; simp at e)
theorem NwM.b1ne (h : NwM w p b1 b2 L k ao cap wr) : some b1 ≠ (Value.slice ao k cap).ownBlock := row_ne h.row (fun cur e => by obtain ⟨es, c, hm⟩ := h.m1.isMap; rw [hm] at e; cases e)
theorem NwM.b2ne (h : NwM w p b1 b2 L k ao cap wr) : some b2 ≠ (Value.slice ao k cap).ownBlock := row_ne h.row (fun cur e => by obtain ⟨es, c, hm⟩ := h.m2.isMap; rw [hm] at e; cases e)
theorem NwM.pb1 (h : NwM w p b1 b2 L k ao cap wr) : p ≠ b1 := fun e => by
  obtain ⟨es, c, hm⟩ := h.m1.isMap
  have := h.st
  rw [e, hm] at this
  cases this
theorem NwM.pb2 (h : NwM w p b1 b2 L k ao cap wr) : p ≠ b2 := fun e => by
  obtain ⟨es, c, hm⟩ := h.m2.isMap
  have := h.st
  rw [e, hm] at this
  cases this
theorem NwI.mid (h : NwI w p b1 b2 L k ao cap wr) {o1 o2 : Obj} (hT : TwoB wr.drew wn b1 b2 o1 o2) (hx : L.take (k + 1) = L.take k ++ [(x1, x2)])
    (h1 : ∀ w3 : World, w3.heap[b1]? = some o1 → MapK Try.prog 3 3 0 w3 b1 (ids (L.take k) ++ [ik x1])) (h2 : ∀ w3 : World, w3.heap[b2]? = some o2 → MapK Try.prog 9 3 0 w3 b2 (txs (L.take k) ++ [sk x2])) : NwM w p b1 b2 L k ao cap wn := by
  obtain ⟨_, e1, e2⟩ := take_succ_sv L k x1 x2 hx
  have fr : FrL [b1, b2] wr wn := ⟨hT.fr.os, hT.fr.tape, hT.fr.output, hT.fr.size, hT.fr.block⟩
  refine ⟨(fr.block p h.lt (by simp only [List.mem_cons, List.not_mem_nil, or_false, not_or]; exact ⟨h.pb1, h.pb2⟩)).trans h.st, row_frl h.row fr (fun i hi => ?_), ?_, ?_, h.ne, h.lo, ?_⟩
  · simp only [List.mem_cons, List.not_mem_nil, or_false, not_or]
    exact ⟨fun e => h.b1ne (by rw [hi, e]), fun e => h.b2ne (by rw [hi, e])⟩
  · unfold MapI
    rw [e1]
    exact h1 wn hT.one
  · unfold MapT
    rw [e2]
    exact h2 wn hT.two
  · refine h.bel.trans (fr.below h.bel.size (fun i hi => ?_))
    simp only [List.mem_cons, List.not_mem_nil, or_false] at hi
    rcases hi with rfl | rfl
    · exact h.lo.2.1
    · exact h.lo.2.2
theorem NwM.app (h : NwM w p b1 b2 L k ao cap wn) (hx : L.take (k + 1) = L.take k ++ [(x1, x2)]) {wa w3 : World} (ha : Below wn.heap.size wn wa) {g cap1 : Nat} (hgt : wn.heap.size ≤ wa.heap.size) (hg : wa.grownBy w3 (Value.slice ao k cap).ownBlock) (hat : (Value.slice ao k cap).ownBlock = some g ∨ g = wa.heap.size)
    (hown : w3.ownsRow w.heap.size 34 2 (.slice (some ⟨g, 0, none⟩) (k + 1) cap1) (k + 1) (sv (L.take k) ++ [.int .i64 x1, .string x2])) : NwI w p b1 b2 L (k + 1) (some ⟨g, 0, none⟩) cap1 (w3.setCell ⟨p, 0, none⟩ (.slice (some ⟨g, 0, none⟩) (k + 1) cap1)) := by
  obtain ⟨e0, e1, e2⟩ := take_succ_sv L k x1 x2 hx
  have hb : ∀ i, i < wn.heap.size → some i ≠ (Value.slice ao k cap).ownBlock → w3.heap[i]? = wn.heap[i]? := fun i hi hn => (hg.block i (by omega) (fun e => hn e)).trans (ha.block i hi)
  have hp3 : w3.heap[p]? = some (.cells #[.slice ao k cap, .map (some b1)] 52 (0, 0)) := (hb p h.lt h.pne).trans h.st
  have hpg : p ≠ g := fun e => by
    rcases hat with h1 | h1
    · exact h.pne (by rw [h1, e])
    · have := h.lt; omega
  have hoth : ∀ i, i ≠ p → (w3.setCell ⟨p, 0, none⟩ (.slice (some ⟨g, 0, none⟩) (k + 1) cap1)).heap[i]? = w3.heap[i]? := fun i hi => Below.heap_setCell _ _ _ _ hi
  refine ⟨?_, ?_, ?_, ?_, h.ne, h.lo, ?_⟩
  · rw [Lib.heap_setCell_same hp3]
    rfl
  · rw [e0]
    refine row_frl hown (F := [p]) ⟨rfl, rfl, rfl, by simp, fun i _ hi => hoth i (by simpa using hi)⟩ (fun i hi => ?_)
    simp only [Value.ownBlock, Option.some.injEq] at hi
    simp only [List.mem_singleton]
    omega
  · exact h.m1.keep (hoth b1 (fun e => h.pb1 e.symm) |>.trans (hb b1 h.m1.lt h.b1ne))
  · exact h.m2.keep (hoth b2 (fun e => h.pb2 e.symm) |>.trans (hb b2 h.m2.lt h.b2ne))
  · have hB : Below w.heap.size w w3 := ⟨hg.os.trans (ha.os.trans h.bel.os), hg.tape.trans (ha.tape.trans h.bel.tape), hg.output.trans (ha.output.trans h.bel.output), Nat.le_trans h.bel.size (Nat.le_trans hgt hg.size), fun i hi => (hb i (Nat.lt_of_lt_of_le hi h.bel.size) (fun e => by have := (h.row.lt i e.symm).1; omega)).trans (h.bel.block i hi)⟩
    exact hB.setCell (p := ⟨p, 0, none⟩) h.lo.1 _
end
end Go.Proofs.Ytnklgfolllfghaa.Mk
