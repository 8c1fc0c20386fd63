/- Contracts of package mark: New. Contracts of package mark: New. -/
import Derived.Test.YtdpmjaelbjjanaaGreatZQa31
import Derived.Deep.RegionHeld3
import Derived.Lib.BufferMore
import Derived.Deep.RegionLaw
import Derived.Deep.AppendLies
namespace Go.Proofs.YtdpmjaelbjjanaaGreat.Mk
open Go.RowKit Go.Maps
set_option linter.unusedVariables false
set_option linter.unusedSimpArgs false

/-- What holds at the head of New's loop. -/
structure NwI (w : World) (p b1 b2 : Nat) (L : List (Int × ByteArray)) (k : Nat) (ao : Option Addr) (cap : Nat) (wr : World) : Prop where
  st : wr.heap[p]? = some (.cells #[.slice ao k cap, .map (some b1)] 192 (0, 0))
  row : wr.ownsRow w.heap.size 79 2 (.slice ao k cap) k (sv (L.take k))
  m1 : MapI wr b1 (L.take k)
  m2 : MapT wr b2 (L.take k)
  ne : b1 ≠ b2
  lo : w.heap.size ≤ p ∧ w.heap.size ≤ b1 ∧ w.heap.size ≤ b2
  bel : Below w.heap.size w wr
section
variable {w : World} {p b1 b2 : Nat} {L : List (Int × ByteArray)} {k : Nat} {ao : Option Addr} {cap : Nat} {wr wr' : World}
theorem NwI.lt (h : NwI w p b1 b2 L k ao cap wr) : p < wr.heap.size := (Array.getElem?_eq_some_iff.1 h.st).1
theorem NwI.low (h : NwI w p b1 b2 L k ao cap wr) (hb : Below wr.heap.size wr wr') : NwI w p b1 b2 L k ao cap wr' :=
  ⟨(hb.block p h.lt).trans h.st, row_keptB h.row hb, h.m1.keep (hb.block _ h.m1.lt), h.m2.keep (hb.block _ h.m2.lt), h.ne, h.lo, h.bel.trans (hb.mono h.bel.size)⟩
theorem NwI.cell0 (h : NwI w p b1 b2 L k ao cap wr) : wr.cell? ⟨p, 0, none⟩ = some (.slice ao k cap) := by simp [World.cell?, h.st]
theorem NwI.cell1 (h : NwI w p b1 b2 L k ao cap wr) : wr.cell? ⟨p, 1, none⟩ = some (.map (some b1)) := by simp [World.cell?, h.st]
theorem NwI.free (h : NwI w p b1 b2 L k ao cap wr) (o : Nat) : wr.frozen? ⟨p, o, none⟩ = false := by simp [World.frozen?, h.st]
theorem NwI.pb1 (h : NwI w p b1 b2 L k ao cap wr) : p ≠ b1 := fun e => by
  obtain ⟨es, c, hm⟩ := h.m1.isMap
  have := h.st
  rw [e, hm] at this
  cases this
theorem NwI.pb2 (h : NwI w p b1 b2 L k ao cap wr) : p ≠ b2 := fun e => by
  obtain ⟨es, c, hm⟩ := h.m2.isMap
  have := h.st
  rw [e, hm] at this
  cases this
theorem row_ne {W : World} {B : Nat} {E : TypeId} {size : Nat} {v : Value} {n : Nat} {xs : List Value} {q : Nat} (h : W.ownsRow B E size v n xs) (hq : ∀ cur, W.heap[q]? ≠ some (.cells cur E (0, 0))) : some q ≠ v.ownBlock := by
  intro e
  rcases h.2 with ⟨rfl, _⟩ | ⟨g, cap, cur, rfl, _, hg, _⟩
  · simp [Value.ownBlock] at e
  · simp only [Value.ownBlock, Option.some.injEq] at e
    subst e
    exact hq cur hg
theorem NwI.pne (h : NwI w p b1 b2 L k ao cap wr) : some p ≠ (Value.slice ao k cap).ownBlock := row_ne h.row (fun cur e => by rw [h.st] at e; simp at e)
theorem NwI.b1ne (h : NwI w p b1 b2 L k ao cap wr) : some b1 ≠ (Value.slice ao k cap).ownBlock := row_ne h.row (fun cur e => by obtain ⟨es, c, hm⟩ := h.m1.isMap; rw [hm] at e; cases e)
theorem NwI.b2ne (h : NwI w p b1 b2 L k ao cap wr) : some b2 ≠ (Value.slice ao k cap).ownBlock := row_ne h.row (fun cur e => by obtain ⟨es, c, hm⟩ := h.m2.isMap; rw [hm] at e; cases e)
theorem NwI.start (w : World) (L : List (Int × ByteArray)) : NwI w (w.heap.size + 1) w.heap.size (w.heap.size + 2) L 0 none 0 (((w.alloc (.map #[] 0)).alloc (.cells #[.slice none 0 0, .map (some w.heap.size)] 192)).alloc (.map #[] 0)) := by
  have h1 := low1 w (.map #[] 0)
  have h2 := low1 (w.alloc (.map #[] 0)) (.cells #[.slice none 0 0, .map (some w.heap.size)] 192)
  have h3 := low1 ((w.alloc (.map #[] 0)).alloc (.cells #[.slice none 0 0, .map (some w.heap.size)] 192)) (.map #[] 0)
  refine ⟨?_, by simpa [sv] using World.ownsRow_nil _ _ _ _, ?_, ?_, by omega, ⟨by omega, by omega, by omega⟩, ?_⟩
  · rw [h3.block _ (by simp)]
    have := heap_alloc_new (w.alloc (.map #[] 0)) (.cells #[.slice none 0 0, .map (some w.heap.size)] 192)
    simpa using this
  · have hm := MapK.made Tryz.prog 3 3 0 w
    have := (hm.keep (h2.block _ hm.lt))
    have h4 := this.keep (h3.block _ this.lt)
    simpa [MapI, ids] using h4
  · have hm := MapK.made Tryz.prog 9 3 0 ((w.alloc (.map #[] 0)).alloc (.cells #[.slice none 0 0, .map (some w.heap.size)] 192))
    simpa [MapT, txs] using hm
  · exact h1.trans ((h2.mono (by simp)).trans (h3.mono (by simp; omega)))
/-- What is not in the lists. -/
theorem ids_not (hk : k ≤ L.length) (x : Int) : ik x ∈ ids (L.take k) ↔ ∃ j, j < k ∧ (gS L j).1 = x := by
  unfold ids
  constructor
  · intro h
    obtain ⟨y, hy, e⟩ := List.mem_map.1 h
    obtain ⟨j, hj, rfl⟩ := List.getElem_of_mem hy
    rw [List.length_take] at hj
    refine ⟨j, by omega, ?_⟩
    rw [← ik_inj e, ← gS_take L (show j < k by omega), gS, List.getD_eq_getElem?_getD, List.getElem?_eq_getElem (by rw [List.length_take]; omega)]
    rfl
  · rintro ⟨j, hj, rfl⟩
    have : gS (L.take k) j ∈ L.take k := gS_mem (by rw [List.length_take]; omega)
    rw [gS_take L hj] at this
    exact List.mem_map.2 ⟨_, this, rfl⟩
theorem txs_not (hk : k ≤ L.length) (x : ByteArray) : sk x ∈ txs (L.take k) ↔ ∃ j, j < k ∧ (gS L j).2 = x := by
  unfold txs
  constructor
  · intro h
    obtain ⟨y, hy, e⟩ := List.mem_map.1 h
    obtain ⟨j, hj, rfl⟩ := List.getElem_of_mem hy
    rw [List.length_take] at hj
    refine ⟨j, by omega, ?_⟩
    rw [← sk_inj e, ← gS_take L (show j < k by omega), gS, List.getD_eq_getElem?_getD, List.getElem?_eq_getElem (by rw [List.length_take]; omega)]
    rfl
  · rintro ⟨j, hj, rfl⟩
    have : gS (L.take k) j ∈ L.take k := gS_mem (by rw [List.length_take]; omega)
    rw [gS_take L hj] at this
    exact List.mem_map.2 ⟨_, this, rfl⟩
end
/-- A look-up by number, told by whether it is there: in any world. -/
theorem look_id (L : List (Int × ByteArray)) (k : Nat) {x : Int} (hx : wfI x) : ∃ (v : Int) (z : Bool), (z = true ↔ ik x ∈ ids (L.take k)) ∧ ∀ (wr : World) (b1 : Nat), MapI wr b1 (L.take k) → (Instr.lookup 190 (.map (some b1)) (.int .i64 x) true).run Tryz.prog wr = .ok (.tuple #[.int .i64 v, .bool z]) wr := by
  by_cases e : ik x ∈ ids (L.take k)
  · obtain ⟨i, hi, he⟩ := List.getElem_of_mem e
    refine ⟨0 + i, true, by simp [e], fun wr b1 h => ?_⟩
    have hl := h.look keyI Tryz.underlying190 Tryz.underlying3 zeroI (ik_key hx)
    exact hl.2 i (by rw [List.getElem?_eq_getElem hi, he])
  · refine ⟨0, false, by simp [e], fun wr b1 h => ?_⟩
    have hl := h.look keyI Tryz.underlying190 Tryz.underlying3 zeroI (ik_key hx)
    exact hl.1 e
theorem look_tx (L : List (Int × ByteArray)) (k : Nat) {x : ByteArray} (hx : x.size ≤ maxLen) : ∃ (v : Int) (z : Bool), (z = true ↔ sk x ∈ txs (L.take k)) ∧ ∀ (wr : World) (b2 : Nat), MapT wr b2 (L.take k) → (Instr.lookup 142 (.map (some b2)) (.string x) true).run Tryz.prog wr = .ok (.tuple #[.int .i64 v, .bool z]) wr := by
  by_cases e : sk x ∈ txs (L.take k)
  · obtain ⟨i, hi, he⟩ := List.getElem_of_mem e
    refine ⟨0 + i, true, by simp [e], fun wr b2 h => ?_⟩
    have hl := h.look keyS Tryz.underlying142 Tryz.underlying3 zeroI (sk_key hx)
    exact hl.2 i (by rw [List.getElem?_eq_getElem hi, he])
  · refine ⟨0, false, by simp [e], fun wr b2 h => ?_⟩
    have hl := h.look keyS Tryz.underlying142 Tryz.underlying3 zeroI (sk_key hx)
    exact hl.1 e

/-- A new entry of a map: made ahead and filled behind, or at once; in any world that has the block. -/
theorem ent_new {P : Program} {K E : TypeId} {off : Int} {w : World} {b : Nat} {ks : List Lit} (h : MapK P K E off w b ks) (KY : Keyed P K) {t : TypeId} (ht : P.underlying t = some (.map K E)) (he : P.underlying E = some (.int .i64)) (hz : ∀ w, (zeroValue E).run P w = .ok (.int .i64 0) w) {key : Value} {l : Lit} (hkey : keyOf P K key = some l) (hl : l ∉ ks) (hn : ks.length < maxLen) {v : Int} (hv : v = off + ks.length) (hw : (Lit.int .i64 v).wf = true) :
    ∃ (st : Nat) (o1 o2 : Obj), (∀ w1 : World, w1.heap[b]? = w.heap[b]? → (Instr.mapEntry t (.map (some b)) key).run P w1 = .ok (.tuple #[.int .i64 0, .int .i64 st]) (Go.ChangeMaps.setBlock w1 b o1)) ∧ (∀ w2 : World, w2.heap[b]? = some o1 → (Instr.entryStore t (.map (some b)) (.int .i64 st) (.int .i64 v)).run P w2 = .ok () (Go.ChangeMaps.setBlock w2 b o2)) ∧ (∀ w1 : World, w1.heap[b]? = w.heap[b]? → (Instr.mapUpdate t (.map (some b)) key (.int .i64 v)).run P w1 = .ok () (Go.ChangeMaps.setBlock w1 b o2)) ∧ ∀ w3 : World, w3.heap[b]? = some o2 → MapK P K E off w3 b (ks ++ [l]) := by
  obtain ⟨w', hrun, hm', hg⟩ := h.put KY ht he hkey hl hn hv hw
  have hlk := (h.look KY ht he hz hkey).1 hl
  obtain ⟨n, D, hn1, ⟨es, clock, hb, F, hs, hD⟩, hh, ha⟩ := h
  obtain ⟨s1, s2, _⟩ := F.stamped
  rcases KY.find w hkey es.toList F.keys with ⟨h1, h2⟩ | ⟨j, e0, h1, h2, h3⟩
  · have hfind : ∀ w1 : World, (Instr.findKey K key es.toList).run P w1 = .ok none w1 := fun w1 => by
      rcases KY.find w1 hkey es.toList F.keys with ⟨g1, g2⟩ | ⟨j, e0, g1, g2, g3⟩
      · exact g1
      · exact absurd g3 (h2 e0 (List.mem_of_getElem? g2))
    have hup : ∀ w1 : World, w1.heap[b]? = w.heap[b]? → (Instr.mapUpdate t (.map (some b)) key (.int .i64 v)).run P w1 = .ok () (Go.ChangeMaps.setBlock w1 b (.map (es.push ⟨key, .int .i64 v, clock⟩) (clock + 1))) := fun w1 hw1 => by
      have hb1 := hw1.trans hb
      simp [Instr.mapUpdate, run_underlying ht, MapKept.run_getObj_map hb1, KY.check w1 false hkey, hfind w1, MapKept.run_setObj_map _ hb1, Result.andThen, Go.ChangeMaps.setBlock]
    refine ⟨clock, .map (es.push ⟨key, .int .i64 0, clock⟩) (clock + 1), .map (es.push ⟨key, .int .i64 v, clock⟩) (clock + 1), fun w1 hw1 => ?_, fun w2 hw2 => ?_, hup, fun w3 hw3 => ?_⟩
    · have hb1 := hw1.trans hb
      simp [Instr.mapEntry, run_underlying ht, MapKept.run_getObj_map hb1, KY.check w1 false hkey, hfind w1, hz, MapKept.run_setObj_map _ hb1, Result.andThen, Go.ChangeMaps.setBlock, goInt]
    · have hidx : (es.push ⟨key, .int .i64 0, clock⟩).findIdx? (fun e => ((e.born : Nat) : Int) == ((clock : Nat) : Int)) = some es.size := by
        rw [WideElems.findIdx_arr]
        have := WideElems.findIdx_born (l := (es.push ⟨key, .int .i64 0, clock⟩).toList) (j := es.size) (e0 := ⟨key, .int .i64 0, clock⟩) (by
          simp only [Array.toList_push, List.map_append, List.map_cons, List.map_nil]
          refine List.nodup_append.2 ⟨s2, by simp, fun a ha c hc e1 => ?_⟩
          simp only [List.mem_singleton] at hc
          obtain ⟨x, hx, rfl⟩ := List.mem_map.1 ha
          have := s1 x hx
          omega) (by simp)
        exact this
      have hmod : (es.push ⟨key, .int .i64 0, clock⟩).modify es.size (fun e => { e with val := .int .i64 v }) = es.push ⟨key, .int .i64 v, clock⟩ := by
        apply Array.ext'
        rw [Array.toList_modify, Array.toList_push, Array.toList_push, ← Array.length_toList, WideElems.modify_last]
      simp [Instr.entryStore, MapKept.run_getObj_map hw2, asInt, asIntOf, goInt, hidx, hmod, MapKept.run_setObj_map _ hw2, Result.andThen, Go.ChangeMaps.setBlock]
    · have hup := hup w rfl
      rw [hrun] at hup
      have e : w' = Go.ChangeMaps.setBlock w b (.map (es.push ⟨key, .int .i64 v, clock⟩) (clock + 1)) := by simpa using hup
      refine hm'.keep ?_
      rw [hw3, e]
      have hlt : b < w.heap.size := (Array.getElem?_eq_some_iff.1 hb).1
      simp [Go.ChangeMaps.setBlock, hlt]
  · exfalso
    have hj : es[j]? = some e0 := by simpa using h2
    simp [Instr.lookup, run_underlying ht, MapKept.run_getObj_map hb, KY.check w _ hkey, h1, hj, Result.andThen] at hlk

/-- A block is laid anew. -/
theorem sb_other (w : World) {b k : Nat} (o : Obj) (h : k ≠ b) : (Go.ChangeMaps.setBlock w b o).heap[k]? = w.heap[k]? := by
  simp [Go.ChangeMaps.setBlock, Array.getElem?_setIfInBounds_ne (Ne.symm h)]
theorem sb_same (w : World) {b : Nat} (o : Obj) (h : b < w.heap.size) : (Go.ChangeMaps.setBlock w b o).heap[b]? = some o := by
  simp [Go.ChangeMaps.setBlock, h]
theorem sb_size (w : World) (b : Nat) (o : Obj) : (Go.ChangeMaps.setBlock w b o).heap.size = w.heap.size := by simp [Go.ChangeMaps.setBlock]
theorem sb_cell (w : World) {b : Nat} (o : Obj) {p : Addr} (h : p.block ≠ b) : (Go.ChangeMaps.setBlock w b o).cell? p = w.cell? p := by
  simp only [World.cell?, sb_other w o h]
theorem sb_frl (w : World) {b : Nat} (o : Obj) {F : List Nat} (h : b ∈ F) : FrL F w (Go.ChangeMaps.setBlock w b o) :=
  ⟨rfl, rfl, rfl, by rw [sb_size]; exact Nat.le_refl _, fun k _ hk => sb_other w o (fun e => hk (by rw [e]; exact h))⟩
/-- Two blocks are laid anew. -/
structure TwoB (w W : World) (b1 b2 : Nat) (o1 o2 : Obj) : Prop where
  fr : FrL [b1, b2] w W
  one : W.heap[b1]? = some o1
  two : W.heap[b2]? = some o2
theorem two1 {w : World} {b1 b2 : Nat} (hne : b1 ≠ b2) (h1 : b1 < w.heap.size) (h2 : b2 < w.heap.size) (o0 o1 o2 : Obj) : TwoB w (Go.ChangeMaps.setBlock (Go.ChangeMaps.setBlock (Go.ChangeMaps.setBlock w b1 o0) b1 o1) b2 o2) b1 b2 o1 o2 :=
  ⟨((sb_frl w o0 (by simp)).trans' (sb_frl _ o1 (by simp))).trans' (sb_frl _ o2 (by simp)), by rw [sb_other _ _ hne, sb_same _ _ (by rw [sb_size]; exact h1)], sb_same _ _ (by rw [sb_size, sb_size]; exact h2)⟩
theorem two2 {w : World} {b1 b2 : Nat} (hne : b1 ≠ b2) (h1 : b1 < w.heap.size) (h2 : b2 < w.heap.size) (o0 o1 o2 : Obj) : TwoB w (Go.ChangeMaps.setBlock (Go.ChangeMaps.setBlock (Go.ChangeMaps.setBlock w b1 o0) b2 o2) b1 o1) b1 b2 o1 o2 :=
  ⟨((sb_frl w o0 (by simp)).trans' (sb_frl _ o2 (by simp))).trans' (sb_frl _ o1 (by simp)), sb_same _ _ (by rw [sb_size, sb_size]; exact h1), by rw [sb_other _ _ (Ne.symm hne), sb_same _ _ (by rw [sb_size]; exact h2)]⟩
theorem two3 {w : World} {b1 b2 : Nat} (hne : b1 ≠ b2) (h1 : b1 < w.heap.size) (h2 : b2 < w.heap.size) (o0 o1 o2 : Obj) : TwoB w (Go.ChangeMaps.setBlock (Go.ChangeMaps.setBlock (Go.ChangeMaps.setBlock w b2 o2) b1 o0) b1 o1) b1 b2 o1 o2 :=
  ⟨((sb_frl w o2 (by simp)).trans' (sb_frl _ o0 (by simp))).trans' (sb_frl _ o1 (by simp)), sb_same _ _ (by rw [sb_size, sb_size]; exact h1), by rw [sb_other _ _ (Ne.symm hne), sb_other _ _ (Ne.symm hne), sb_same _ _ h2]⟩
theorem cell_old (w : World) (o : Obj) {b off : Nat} (hb : b < w.heap.size) : (w.alloc o).cell? ⟨b, off, none⟩ = w.cell? ⟨b, off, none⟩ := (low1 w o).cell (p := ⟨b, off, none⟩) hb
theorem frozen_old (w : World) (o : Obj) {b off : Nat} (hb : b < w.heap.size) : (w.alloc o).frozen? ⟨b, off, none⟩ = w.frozen? ⟨b, off, none⟩ := by simp only [World.frozen?, (low1 w o).block b hb]
theorem take_succ_sv (L : List (Int × ByteArray)) (k : Nat) (x1 : Int) (x2 : ByteArray) (h : L.take (k + 1) = L.take k ++ [(x1, x2)]) : sv (L.take (k + 1)) = sv (L.take k) ++ [.int .i64 x1, .string x2] ∧ ids (L.take (k + 1)) = ids (L.take k) ++ [ik x1] ∧ txs (L.take (k + 1)) = txs (L.take k) ++ [sk x2] := by
  rw [h]
  refine ⟨?_, by simp [ids], by simp [txs]⟩
  generalize L.take k = l
  induction l with
  | nil => rfl
  | cons a r ih => simp [sv, ih]
/-- What holds behind the maps' new entries. -/
structure NwM (w : World) (p b1 b2 : Nat) (L : List (Int × ByteArray)) (k : Nat) (ao : Option Addr) (cap : Nat) (wr : World) : Prop where
  st : wr.heap[p]? = some (.cells #[.slice ao k cap, .map (some b1)] 192 (0, 0))
  row : wr.ownsRow w.heap.size 79 2 (.slice ao k cap) k (sv (L.take k))
  m1 : MapI wr b1 (L.take (k + 1))
  m2 : MapT wr b2 (L.take (k + 1))
  ne : b1 ≠ b2
  lo : w.heap.size ≤ p ∧ w.heap.size ≤ b1 ∧ w.heap.size ≤ b2
  bel : Below w.heap.size w wr
section
variable {w : World} {p b1 b2 : Nat} {L : List (Int × ByteArray)} {k : Nat} {ao : Option Addr} {cap : Nat} {wr wn : World} {x1 : Int} {x2 : ByteArray}
theorem NwM.lt (h : NwM w p b1 b2 L k ao cap wr) : p < wr.heap.size := (Array.getElem?_eq_some_iff.1 h.st).1
theorem NwM.pne (h : NwM w p b1 b2 L k ao cap wr) : some p ≠ (Value.slice ao k cap).ownBlock := row_ne h.row (fun cur e => by rw [h.st] at e; simp at e)
theorem NwM.b1ne (h : NwM w p b1 b2 L k ao cap wr) : some b1 ≠ (Value.slice ao k cap).ownBlock := row_ne h.row (fun cur e => by obtain ⟨es, c, hm⟩ := h.m1.isMap; rw [hm] at e; cases e)
theorem NwM.b2ne (h : NwM w p b1 b2 L k ao cap wr) : some b2 ≠ (Value.slice ao k cap).ownBlock := row_ne h.row (fun cur e => by obtain ⟨es, c, hm⟩ := h.m2.isMap; rw [hm] at e; cases e)
theorem NwM.pb1 (h : NwM w p b1 b2 L k ao cap wr) : p ≠ b1 := fun e => by
  obtain ⟨es, c, hm⟩ := h.m1.isMap
  have := h.st
  rw [e, hm] at this
  cases this
theorem NwM.pb2 (h : NwM w p b1 b2 L k ao cap wr) : p ≠ b2 := fun e => by
  obtain ⟨es, c, hm⟩ := h.m2.isMap
  have := h.st
  rw [e, hm] at this
  cases this
theorem NwI.mid (h : NwI w p b1 b2 L k ao cap wr) {o1 o2 : Obj} (hT : TwoB wr.drew wn b1 b2 o1 o2) (hx : L.take (k + 1) = L.take k ++ [(x1, x2)])
    (h1 : ∀ w3 : World, w3.heap[b1]? = some o1 → MapK Tryz.prog 3 3 0 w3 b1 (ids (L.take k) ++ [ik x1])) (h2 : ∀ w3 : World, w3.heap[b2]? = some o2 → MapK Tryz.prog 9 3 0 w3 b2 (txs (L.take k) ++ [sk x2])) : NwM w p b1 b2 L k ao cap wn := by
  obtain ⟨_, e1, e2⟩ := take_succ_sv L k x1 x2 hx
  have fr : FrL [b1, b2] wr wn := ⟨hT.fr.os, hT.fr.tape, hT.fr.output, hT.fr.size, hT.fr.block⟩
  refine ⟨(fr.block p h.lt (by simp only [List.mem_cons, List.not_mem_nil, or_false, not_or]; exact ⟨h.pb1, h.pb2⟩)).trans h.st, row_frl h.row fr (fun i hi => ?_), ?_, ?_, h.ne, h.lo, ?_⟩
  · simp only [List.mem_cons, List.not_mem_nil, or_false, not_or]
    exact ⟨fun e => h.b1ne (by rw [hi, e]), fun e => h.b2ne (by rw [hi, e])⟩
  · unfold MapI
    rw [e1]
    exact h1 wn hT.one
  · unfold MapT
    rw [e2]
    exact h2 wn hT.two
  · refine h.bel.trans (fr.below h.bel.size (fun i hi => ?_))
    simp only [List.mem_cons, List.not_mem_nil, or_false] at hi
    rcases hi with rfl | rfl
    · exact h.lo.2.1
    · exact h.lo.2.2
theorem NwM.app (h : NwM w p b1 b2 L k ao cap wn) (hx : L.take (k + 1) = L.take k ++ [(x1, x2)]) {wa w3 : World} (ha : Below wn.heap.size wn wa) {g cap1 : Nat} (hgt : wn.heap.size ≤ wa.heap.size) (hg : wa.grownBy w3 (Value.slice ao k cap).ownBlock) (hat : (Value.slice ao k cap).ownBlock = some g ∨ g = wa.heap.size)
    (hown : w3.ownsRow w.heap.size 79 2 (.slice (some ⟨g, 0, none⟩) (k + 1) cap1) (k + 1) (sv (L.take k) ++ [.int .i64 x1, .string x2])) : NwI w p b1 b2 L (k + 1) (some ⟨g, 0, none⟩) cap1 (w3.setCell ⟨p, 0, none⟩ (.slice (some ⟨g, 0, none⟩) (k + 1) cap1)) := by
  obtain ⟨e0, e1, e2⟩ := take_succ_sv L k x1 x2 hx
  have hb : ∀ i, i < wn.heap.size → some i ≠ (Value.slice ao k cap).ownBlock → w3.heap[i]? = wn.heap[i]? := fun i hi hn => (hg.block i (by omega) (fun e => hn e)).trans (ha.block i hi)
  have hp3 : w3.heap[p]? = some (.cells #[.slice ao k cap, .map (some b1)] 192 (0, 0)) := (hb p h.lt h.pne).trans h.st
  have hpg : p ≠ g := fun e => by
    rcases hat with h1 | h1
    · exact h.pne (by rw [h1, e])
    · have := h.lt; omega
  have hoth : ∀ i, i ≠ p → (w3.setCell ⟨p, 0, none⟩ (.slice (some ⟨g, 0, none⟩) (k + 1) cap1)).heap[i]? = w3.heap[i]? := fun i hi => Below.heap_setCell _ _ _ _ hi
  refine ⟨?_, ?_, ?_, ?_, h.ne, h.lo, ?_⟩
  · rw [Lib.heap_setCell_same hp3]
    rfl
  · rw [e0]
    refine row_frl hown (F := [p]) ⟨rfl, rfl, rfl, by simp, fun i _ hi => hoth i (by simpa using hi)⟩ (fun i hi => ?_)
    simp only [Value.ownBlock, Option.some.injEq] at hi
    simp only [List.mem_singleton]
    omega
  · exact h.m1.keep (hoth b1 (fun e => h.pb1 e.symm) |>.trans (hb b1 h.m1.lt h.b1ne))
  · exact h.m2.keep (hoth b2 (fun e => h.pb2 e.symm) |>.trans (hb b2 h.m2.lt h.b2ne))
  · have hB : Below w.heap.size w w3 := ⟨hg.os.trans (ha.os.trans h.bel.os), hg.tape.trans (ha.tape.trans h.bel.tape), hg.output.trans (ha.output.trans h.bel.output), Nat.le_trans h.bel.size (Nat.le_trans hgt hg.size), fun i hi => (hb i (Nat.lt_of_lt_of_le hi h.bel.size) (fun e => by have := (h.row.lt i e.symm).1; omega)).trans (h.bel.block i hi)⟩
    exact hB.setCell (p := ⟨p, 0, none⟩) h.lo.1 _
end
end Go.Proofs.YtdpmjaelbjjanaaGreat.Mk

namespace Go.Proofs.YtdpmjaelbjjanaaGreat.Mk
open Go.RowKit Go.Maps
set_option linter.unusedVariables false
set_option linter.unusedSimpArgs false

/-- What New answers. -/
def NewP (w : World) (n : Nat) (L : List (Int × ByteArray)) (e : Ending) (w' : World) : Prop :=
  (∃ (k : Nat) (er : Int), ChkR L k er ∧ er ≠ 0 ∧ e = .returned (.tuple #[.pointer none, .int .i64 k, .int .i64 er])) ∨ (ChkR L n 0 ∧ ∃ p ao cap, e = .returned (.tuple #[.pointer (some ⟨p, 0, none⟩), .int .i64 n, .int .i64 0]) ∧ StV w' (.pointer (some ⟨p, 0, none⟩)) ao cap L)

set_option maxRecDepth 20000 in
set_option maxHeartbeats 8000000 in
theorem new_any (w : World) (ao : Option Addr) (n cap : Nat) (L : List (Int × ByteArray)) (h : RdS w ao n L) (hn : n ≤ 1000) :
    Calls Tryz.prog 136 #[.slice ao n cap] w fun e w' => NewP w n L e w' ∧ Below w.heap.size w w' := by
  have hln := h.1
  have HR := hide h
  have HLN := hide hln
  clear h hln
  have hmm := @run_makeMap Tryz.prog
  go_enter Tryz.func136, Tryz.ntmps136
  go_wp2
  clear hmm
  go_loopw [19] (fun i wr => ∃ (k : Nat) (ar : Option Addr) (cr : Nat), i = .int .i64 k ∧ k ≤ n ∧ Hid (∀ i, i < k → GoodAt L i) ∧ Hid (NwI w (w.heap.size + 1) w.heap.size (w.heap.size + 1 + 1) L k ar cr wr)) (fun i _ => n - (intOf i).toNat)
  case atStart => exact ⟨0, none, 0, rfl, Nat.zero_le _, hide (fun i hi => by omega), hide (NwI.start w L)⟩
  case round =>
    obtain ⟨k, ar, cr, rfl, hkn, HA, HI⟩ := hrel
    generalize hbb : w.heap.size + 1 + 1 = b2 at *
    generalize hpp : w.heap.size + 1 = p at *
    clear hbb hpp
    by_cases hlt : k < n
    · have hk0 : (0 : Int) ≤ (k : Int) := by omega
      have hk1 : (k : Int) < (n : Int) := by omega
      rcases HR.out.2 with h0 | ⟨b, off, rfl, hbl0, hc⟩
      · omega
      have c0 := (HI.out.bel.cell (p := ⟨b, _, none⟩) hbl0).trans (hc k hlt).1
      have c1 := (HI.out.bel.cell (p := ⟨b, _, none⟩) hbl0).trans (hc k hlt).2
      clear hc
      have HE1 : Hid (¬ rgt ((gS L k).1, (gS L k).2) → ErrAt L k 1) := hide (fun h => Or.inl ⟨h, rfl⟩)
      have HE3 : Hid (rgt ((gS L k).1, (gS L k).2) → 32 ≤ k → ErrAt L k 3) := hide (fun h h2 => Or.inr (Or.inl ⟨h, h2, rfl⟩))
      have HE10 : Hid (rgt ((gS L k).1, (gS L k).2) → k < 32 → (ik (gS L k).1 ∈ ids (L.take k) ∨ sk (gS L k).2 ∈ txs (L.take k)) → ErrAt L k 10) := hide (fun h h2 h3 => by
        have hkL : k ≤ L.length := by have := HLN.out; omega
        refine Or.inr (Or.inr ⟨h, h2, ?_, rfl⟩)
        rcases h3 with h3 | h3
        · obtain ⟨j, hj, e⟩ := (ids_not hkL _).1 h3
          exact ⟨j, hj, Or.inl e⟩
        · obtain ⟨j, hj, e⟩ := (txs_not hkL _).1 h3
          exact ⟨j, hj, Or.inr e⟩)
      have HGd : Hid (rgt ((gS L k).1, (gS L k).2) → k < 32 → ik (gS L k).1 ∉ ids (L.take k) → sk (gS L k).2 ∉ txs (L.take k) → GoodAt L k) := hide (fun h h2 h3 h4 => by
        have hkL : k ≤ L.length := by have := HLN.out; omega
        exact ⟨h, h2, fun j hj => ⟨fun e => h3 ((ids_not hkL _).2 ⟨j, hj, e⟩), fun e => h4 ((txs_not hkL _).2 ⟨j, hj, e⟩)⟩⟩)
      have HTK : Hid (L.take (k + 1) = L.take k ++ [((gS L k).1, (gS L k).2)]) := hide (take_succ_gS L (by have := HLN.out; omega))
      generalize (gS L k).1 = x1 at *
      generalize (gS L k).2 = x2 at *
      have hla := low1 wr (.cells #[.int .i64 x1, .string x2] 79)
      by_cases hr : rgt (x1, x2)
      · have KR := right_yes x1 x2 (wr.alloc (.cells #[.int .i64 x1, .string x2] 79)) hr
        have HIa := hide (HI.out.low hla)
        have hq1 : (wr.alloc (.cells #[.int .i64 x1, .string x2] 79)).heap[wr.heap.size]? = some (.cells #[.int .i64 x1, .string x2] 79 (0, 0)) := heap_alloc_new _ _
        have HQ := hide hq1
        have HRG := hide hr
        clear hla hr hq1
        go_wp2_with fail
        refine KR.mono ?_
        rintro e w1 ⟨rfl, hb1⟩
        have hq : w1.heap[wr.heap.size]? = some (.cells #[.int .i64 x1, .string x2] 79 (0, 0)) := (hb1.block _ (by simp)).trans HQ.out
        have HI1 := hide (HIa.out.low hb1)
        clear KR hb1 HIa HQ c0 c1
        by_cases h32 : 32 ≤ k
        · go_wp2
          refine bodyPost_ret (v := .tuple #[.pointer none, .int .i64 k, .int .i64 3]) (by simp [results, Tryz.results136, go_sem]) rfl ⟨Or.inl ⟨k, 3, ⟨HA.out, Or.inr ⟨by have := HLN.out; omega, HE3.out HRG.out h32⟩⟩, by decide, rfl⟩, HI1.out.bel⟩
        · generalize hqq : wr.heap.size = q at *
          have HBq : Hid (w.heap.size ≤ q) := hide (by rw [← hqq]; exact HI.out.bel.size)
          clear hqq
          have d0 : w1.cell? ⟨q, 0, none⟩ = some (.int .i64 x1) := by simp [World.cell?, hq]
          have d1 : w1.cell? ⟨q, 1, none⟩ = some (.string x2) := by simp [World.cell?, hq]
          have p0 := HI1.out.cell0
          have p1 := HI1.out.cell1
          have hx1 : wfI x1 := by have := HRG.out.1; have := HRG.out.2.1; simp only at *; exact ⟨by omega, by omega⟩
          have hx2 : x2.size ≤ 64 := HRG.out.2.2.2
          obtain ⟨v1, z1, hz1, hl1⟩ := look_id L k hx1
          obtain ⟨v2, z2, hz2, hl2⟩ := look_tx L k (x := x2) (by unfold maxLen; omega)
          have HL1 := hl1 w1.drew w.heap.size (HI1.out.m1.keep rfl)
          have HL2 := hl2 w1.drew b2 (HI1.out.m2.keep rfl)
          have HZ1 := hide hz1
          have HZ2 := hide hz2
          clear hl1 hl2 hz1 hz2
          have d0' : w1.drew.cell? ⟨q, 0, none⟩ = some (.int .i64 x1) := d0
          have d1' : w1.drew.cell? ⟨q, 1, none⟩ = some (.string x2) := d1
          have p1' : w1.drew.cell? ⟨p, 1, none⟩ = some (.map (some w.heap.size)) := p1
          have hq' : w1.drew.heap[q]? = some (.cells #[.int .i64 x1, .string x2] 79 (0, 0)) := hq
          have HI2 := hide (HI1.out.low (lowD (Below.refl _ _) 1))
          have HQ2 := hide hq'
          clear d0 d1 p0 p1 hq hq' HI1
          go_wp2
          go_region
          have HI3 : Hid (NwI w p w.heap.size b2 L k ar cr w1.drew) := HI2
          clear HI2
          generalize w1.drew = wd at *
          cases z1 with
          | true =>
            have hm := HZ1.out.1 rfl
            have HE := hide (HE10.out HRG.out (by omega) (Or.inl hm))
            clear hm
            go_wp2
            refine bodyPost_ret (v := .tuple #[.pointer none, .int .i64 k, .int .i64 10]) (by simp [results, Tryz.results136, go_sem]) rfl ⟨Or.inl ⟨k, 10, ⟨HA.out, Or.inr ⟨by have := HLN.out; omega, HE.out⟩⟩, by decide, rfl⟩, HI3.out.bel⟩
          | false =>
            cases z2 with
            | true =>
              have hm := HZ2.out.1 rfl
              have HE := hide (HE10.out HRG.out (by omega) (Or.inr hm))
              clear hm
              go_wp2
              refine bodyPost_ret (v := .tuple #[.pointer none, .int .i64 k, .int .i64 10]) (by simp [results, Tryz.results136, go_sem]) rfl ⟨Or.inl ⟨k, 10, ⟨HA.out, Or.inr ⟨by have := HLN.out; omega, HE.out⟩⟩, by decide, rfl⟩, HI3.out.bel⟩
            | false =>
              go_wp2
              have n1 : ik x1 ∉ ids (L.take k) := fun h => by have := HZ1.out.2 h; cases this
              have n2 : sk x2 ∉ txs (L.take k) := fun h => by have := HZ2.out.2 h; cases this
              have HG := hide (HGd.out HRG.out (by omega) n1 n2)
              have hlk : (L.take k).length = k := by rw [List.length_take, HLN.out]; omega
              have E1 : ∃ (st : Nat) (o1 o2 : Obj), (∀ w1 : World, w1.heap[w.heap.size]? = wd.heap[w.heap.size]? → (Instr.mapEntry 190 (.map (some w.heap.size)) (.int .i64 x1)).run Tryz.prog w1 = .ok (.tuple #[.int .i64 0, .int .i64 st]) (Go.ChangeMaps.setBlock w1 w.heap.size o1)) ∧ (∀ w2 : World, w2.heap[w.heap.size]? = some o1 → (Instr.entryStore 190 (.map (some w.heap.size)) (.int .i64 st) (.int .i64 (k : Int))).run Tryz.prog w2 = .ok () (Go.ChangeMaps.setBlock w2 w.heap.size o2)) ∧ (∀ w1 : World, w1.heap[w.heap.size]? = wd.heap[w.heap.size]? → (Instr.mapUpdate 190 (.map (some w.heap.size)) (.int .i64 x1) (.int .i64 (k : Int))).run Tryz.prog w1 = .ok () (Go.ChangeMaps.setBlock w1 w.heap.size o2)) ∧ ∀ w3 : World, w3.heap[w.heap.size]? = some o2 → MapK Tryz.prog 3 3 0 w3 w.heap.size (ids (L.take k) ++ [ik x1]) :=
                ent_new HI3.out.m1 keyI Tryz.underlying190 Tryz.underlying3 zeroI (ik_key hx1) n1 (by rw [ids, List.length_map, hlk]; unfold maxLen; omega) (by rw [ids, List.length_map, hlk]; omega) (WalkArith.wf_i64 (by omega))
              have E2 : ∃ (st : Nat) (o1 o2 : Obj), (∀ w1 : World, w1.heap[b2]? = wd.heap[b2]? → (Instr.mapEntry 142 (.map (some b2)) (.string x2)).run Tryz.prog w1 = .ok (.tuple #[.int .i64 0, .int .i64 st]) (Go.ChangeMaps.setBlock w1 b2 o1)) ∧ (∀ w2 : World, w2.heap[b2]? = some o1 → (Instr.entryStore 142 (.map (some b2)) (.int .i64 st) (.int .i64 (k : Int))).run Tryz.prog w2 = .ok () (Go.ChangeMaps.setBlock w2 b2 o2)) ∧ (∀ w1 : World, w1.heap[b2]? = wd.heap[b2]? → (Instr.mapUpdate 142 (.map (some b2)) (.string x2) (.int .i64 (k : Int))).run Tryz.prog w1 = .ok () (Go.ChangeMaps.setBlock w1 b2 o2)) ∧ ∀ w3 : World, w3.heap[b2]? = some o2 → MapK Tryz.prog 9 3 0 w3 b2 (txs (L.take k) ++ [sk x2]) :=
                ent_new HI3.out.m2 keyS Tryz.underlying142 Tryz.underlying3 zeroI (sk_key (by unfold maxLen; omega)) n2 (by rw [txs, List.length_map, hlk]; unfold maxLen; omega) (by rw [txs, List.length_map, hlk]; omega) (WalkArith.wf_i64 (by omega))
              obtain ⟨st, o0, o1, e1, e2, _, e4⟩ := E1
              obtain ⟨_, _, o2, _, _, f3, f4⟩ := E2
              have hne := HI3.out.ne
              have hl1 := HI3.out.m1.lt
              have hl2 := HI3.out.m2.lt
              have g1 := e1 wd.drew rfl
              have g2 := e1 (Go.ChangeMaps.setBlock wd.drew b2 o2) (sb_other _ _ hne)
              have g3 := e2 (Go.ChangeMaps.setBlock wd.drew w.heap.size o0) (sb_same _ _ hl1)
              have g4 := e2 (Go.ChangeMaps.setBlock (Go.ChangeMaps.setBlock wd.drew w.heap.size o0) b2 o2) (by rw [sb_other _ _ hne]; exact sb_same _ _ hl1)
              have g5 := e2 (Go.ChangeMaps.setBlock (Go.ChangeMaps.setBlock wd.drew b2 o2) w.heap.size o0) (sb_same _ _ (by rw [sb_size]; exact hl1))
              have g6 := f3 wd.drew rfl
              have g7 := f3 (Go.ChangeMaps.setBlock wd.drew w.heap.size o0) (sb_other _ _ (Ne.symm hne))
              have g8 := f3 (Go.ChangeMaps.setBlock (Go.ChangeMaps.setBlock wd.drew w.heap.size o0) w.heap.size o1) (by rw [sb_other _ _ (Ne.symm hne), sb_other _ _ (Ne.symm hne)]; rfl)
              have HE4 := hide e4
              have HF4 := hide f4
              have T1 := hide (two1 hne (w := wd.drew) hl1 hl2 o0 o1 o2)
              have T2 := hide (two2 hne (w := wd.drew) hl1 hl2 o0 o1 o2)
              have T3 := hide (two3 hne (w := wd.drew) hl1 hl2 o0 o1 o2)
              have hqb1 : q ≠ w.heap.size := fun e => by
                obtain ⟨es, c, hm⟩ := HI3.out.m1.isMap
                have := HQ2.out
                rw [e, hm] at this
                cases this
              have hqb2 : q ≠ b2 := fun e => by
                obtain ⟨es, c, hm⟩ := HI3.out.m2.isMap
                have := HQ2.out
                rw [e, hm] at this
                cases this
              have hpb1 := HI3.out.pb1
              have hpb2 := HI3.out.pb2
              have d0'' : wd.drew.cell? ⟨q, 0, none⟩ = some (.int .i64 x1) := d0'
              have d1'' : wd.drew.cell? ⟨q, 1, none⟩ = some (.string x2) := d1'
              have p1'' : wd.drew.cell? ⟨p, 1, none⟩ = some (.map (some w.heap.size)) := p1'
              clear e1 e2 e4 f3 f4 n1 n2 hlk HL1 HL2 d0' d1' p1' hl1 hl2 hne
              go_region_held3 (fun W => W.cell? ⟨p, 1, none⟩ = some (.map (some w.heap.size)) ∧ W.cell? ⟨q, 0, none⟩ = some (.int .i64 x1) ∧ W.cell? ⟨q, 1, none⟩ = some (.string x2)) ((refine ⟨?_, ?_, ?_⟩ <;> repeat (first | assumption | (rw [sb_cell _ _ (by assumption)])))) (fail)
              have HM := hide (HI3.out.mid T1.out HTK.out HE4.out HF4.out)
              have hqq : q ∉ [w.heap.size, b2] := by simp only [List.mem_cons, List.not_mem_nil, or_false, not_or]; exact ⟨hqb1, hqb2⟩
              have HQ3 := hide ((T1.out.fr.block q (Array.getElem?_eq_some_iff.1 HQ2.out).1 hqq).trans HQ2.out)
              clear T1 T2 T3 g1 g2 g3 g4 g5 g6 g7 g8 HE4 HF4 HI3 HQ2 hqq hqb1 hqb2 hpb1 hpb2 d0'' d1'' p1''
              generalize (Go.ChangeMaps.setBlock (Go.ChangeMaps.setBlock (Go.ChangeMaps.setBlock wd.drew w.heap.size o0) w.heap.size o1) b2 o2) = wn at *
              obtain ⟨i0, hii, hz0, hz1, hz2⟩ := info_parts info_special
              have hlt := HM.out.lt
              have hrow := HM.out.row
              have hpne := HM.out.pne
              have hst := HM.out.st
              have p0 : wn.cell? ⟨p, 0, none⟩ = some (.slice ar k cr) := by simp [World.cell?, hst]
              have pf : ∀ o, wn.frozen? ⟨p, o, none⟩ = false := fun o => by simp [World.frozen?, hst]
              have d0 : wn.cell? ⟨q, 0, none⟩ = some (.int .i64 x1) := by simp [World.cell?, HQ3.out]
              have d1 : wn.cell? ⟨q, 1, none⟩ = some (.string x2) := by simp [World.cell?, HQ3.out]
              have hsize := HM.out.bel.size
              have hone : ∀ u ∈ [Value.int .i64 x1, Value.string x2], u.oneCell' = true := by
                intro u hu
                simp only [List.mem_cons, List.not_mem_nil, or_false] at hu
                rcases hu with rfl | rfl <;> rfl
              clear hst
              go_wp2
              go_region_law ((refine step_append_lies _ (by rfl) _ _ _ (by rfl) w.heap.size 79 i0 _ 2 24 Tryz.underlying25 hii hz0 hz1 hz2 (by rfl) (by omega) _ k (sv (L.take k)) (by rfl) (by first | exact (hrow.alloc _).drew | exact hrow.drew.alloc _) _ 1 _ [Value.int .i64 x1, Value.string x2] (by rfl) (by rfl) (by first | exact World.news_of_block (heap_alloc_new wn _) | exact World.news_of_block (heap_alloc_new wn.drew _)) hone (by omega) (by unfold maxLen; omega) (by omega) (by simp; omega) (wn.heap.size + 1) (by simp) ?_; intro g cap1 w3 hown hgrow hat hlt3; have e1 : w3.cell? ⟨p, 0, none⟩ = some (.slice ar k cr) := (hgrow.cell_far ⟨p, 0, none⟩ (by simp; omega) hpne).trans (by first | exact (cell_old wn _ hlt).trans p0 | exact (cell_old wn.drew _ hlt).trans p0); have ef : w3.frozen? ⟨p, 0, none⟩ = false := (hgrow.frozen_far ⟨p, 0, none⟩ (by simp; omega) hpne).trans (by first | exact (frozen_old wn _ hlt).trans (pf 0) | exact (frozen_old wn.drew _ hlt).trans (pf 0))))
              all_goals
                have hgrow' : (wn.alloc (.cells #[.int .i64 x1, .string x2] 79)).drew.grownBy w3 (Value.slice ar k cr).ownBlock := hgrow
                have hat' : (Value.slice ar k cr).ownBlock = some g ∨ g = wn.heap.size + 1 := hat
                have HN := hide (HM.out.app HTK.out (lowD (low1 wn _) 1) (by simp [World.drewN]) hgrow' (by simpa [World.drewN] using hat') hown)
                have HG2 : Hid (∀ i, i < k + 1 → GoodAt L i) := hide (fun i hi => by
                  by_cases e : i = k
                  · subst e; exact HG.out
                  · exact HA.out i (by omega))
                clear hgrow hat hgrow' hat' hown e1 ef p0 pf d0 d1 hlt3 hrow hpne hone HM
                go_wp2
                exact ⟨⟨k + 1, _, _, by go_num, by omega, HG2, HN⟩, by simp [intOf]; omega⟩
      · have KR := right_no x1 x2 (wr.alloc (.cells #[.int .i64 x1, .string x2] 79)) hr
        have HB1 := hide (HI.out.bel.alloc HI.out.bel.size (.cells #[.int .i64 x1, .string x2] 79))
        have hsz := HB1.out.size
        have HRN := hide hr
        clear hla hr
        go_wp2_with fail
        refine KR.mono ?_
        rintro e w1 ⟨rfl, hb1⟩
        have HB2 := hide (HB1.out.trans (hb1.mono hsz))
        clear KR hb1 hsz c0 c1
        go_wp2
        refine bodyPost_ret (v := .tuple #[.pointer none, .int .i64 k, .int .i64 1]) (by simp [results, Tryz.results136, go_sem]) rfl ⟨Or.inl ⟨k, 1, ⟨HA.out, Or.inr ⟨by have := HLN.out; omega, HE1.out HRN.out⟩⟩, by decide, rfl⟩, HB2.out⟩
    · obtain rfl : k = n := by omega
      have HFI := HI.out
      go_wp2
      refine bodyPost_ret (v := .tuple #[.pointer (some ⟨p, 0, none⟩), .int .i64 k, .int .i64 0]) (by simp [results, Tryz.results136, go_sem]) rfl ⟨Or.inr ⟨⟨HA.out, Or.inl ⟨HLN.out.symm, rfl⟩⟩, p, ar, cr, rfl, ?_⟩, HI.out.bel⟩
      have hL : L.take k = L := List.take_of_length_le (by rw [HLN.out]; exact Nat.le_refl _)
      have h1 := HI.out.row
      have h2 := HI.out.m1
      rw [hL] at h1 h2
      have e : L.length = k := HLN.out
      exact ⟨by rw [e]; exact RdS.of_row h1, Or.inr ⟨p, w.heap.size, rfl, by rw [e]; exact HI.out.cell0, HI.out.cell1, h2⟩⟩
end Go.Proofs.YtdpmjaelbjjanaaGreat.Mk
