/- A map from bytes to nodes; a trie as it lies in memory. -/
import Derived.Test.YtadbffphmmkljaaTrM
import Derived.Test.YtadbffphmmkljaaTrN
import Derived.Maps.Range
import Derived.Maps.RangeWalk
namespace Go.Proofs.Ytadbffphmmkljaa
open Go.RowKit Go.Maps
set_option linter.unusedVariables false
set_option linter.unusedSimpArgs false

theorem keyB : Keyed Try.prog 5 := int_keyed Try.underlying5
/-- How a pointer to a node reads. -/
def rP : Value → Option (DataW Unit × List MemPlace)
  | .pointer none => some (.lit (.int .i64 (-1)), [])
  | .pointer (some ⟨b, 0, none⟩) => some (.lit (.int .i64 (b : Int)), [])
  | _ => none
def pN (o : Option Nat) : Value := .pointer (o.map (fun b => ⟨b, 0, none⟩))
def dN (o : Option Nat) : DataW Unit := .lit (.int .i64 (match o with | none => -1 | some b => (b : Int)))
theorem rP_pN (o : Option Nat) : rP (pN o) = some (dN o, []) := by cases o <;> rfl
theorem dN_inj {o p : Option Nat} (h : dN o = dN p) : o = p := by
  cases o <;> cases p <;> simp [dN] at h ⊢ <;> omega
theorem rP_inv {v : Value} {y : DataW Unit × List MemPlace} (h : rP v = some y) : ∃ o, v = pN o := by
  unfold rP at h
  split at h
  · exact ⟨none, rfl⟩
  · exact ⟨some _, rfl⟩
  · cases h
theorem rP_dN {v : Value} {o : Option Nat} {ps : List MemPlace} (h : rP v = some (dN o, ps)) : v = pN o := by
  obtain ⟨p, rfl⟩ := rP_inv h
  rw [rP_pN] at h
  simp only [Option.some.injEq, Prod.mk.injEq] at h
  rw [dN_inj h.1]
/-- A byte as a key. -/
def kB (c : UInt8) : Lit := .int .u8 (c.toNat : Int)
theorem kB_inj {c d : UInt8} (h : kB c = kB d) : c = d := by
  simp [kB] at h
  exact UInt8.toNat_inj.1 (by omega)
theorem kB_key (c : UInt8) : keyOf Try.prog 5 (.int .u8 (c.toNat : Int)) = some (kB c) := by
  have hc := c.toNat_lt
  have hw : (Lit.int .u8 (c.toNat : Int)).wf = true := by
    have h1 : IntKind.u8.min = 0 := by decide
    have h2 : IntKind.u8.max = 255 := by decide
    simp only [Lit.wf, h1, h2, Bool.and_eq_true, decide_eq_true_eq]; omega
  simp [keyOf, Try.underlying5, mapKey, kB, hw]
theorem kB_of {x : Int} (hw : (Lit.int .u8 x).wf = true) : ∃ c : UInt8, x = (c.toNat : Int) ∧ Lit.int .u8 x = kB c := by
  have : 0 ≤ x ∧ x < 256 := by
    have h1 : IntKind.u8.min = 0 := by decide
    have h2 : IntKind.u8.max = 255 := by decide
    simp only [Lit.wf, h1, h2, Bool.and_eq_true, decide_eq_true_eq] at hw; omega
  refine ⟨UInt8.ofNat x.toNat, ?_, ?_⟩ <;> simp [kB] <;> omega
/-- Block b is a map from bytes to nodes. -/
def MapP (w : World) (b N : Nat) (f : UInt8 → Option Nat) : Prop :=
  ∃ (n : Nat) (D : DataW Unit), n ≤ N ∧ w.ownsMap Try.prog 5 rP b n D ∧ (∀ c, Maps.has D (kB c) = true ↔ f c ≠ none) ∧ ∀ c, D.atKey (kB c) (dN none) = dN (f c)
theorem zeroP (w : World) : (zeroValue 63).run Try.prog w = .ok (.pointer none) w := by kernel_rfl
section
variable {w w' : World} {b N : Nat} {f : UInt8 → Option Nat}
theorem MapP.lt (h : MapP w b N f) : b < w.heap.size := by
  obtain ⟨n, D, _, ho, _⟩ := h
  exact ho.lt
theorem MapP.isMap (h : MapP w b N f) : ∃ es c, w.heap[b]? = some (.map es c) := by
  obtain ⟨n, D, _, ⟨es, c, hb, _⟩, _⟩ := h
  exact ⟨es, c, hb⟩
theorem MapP.keep (h : MapP w b N f) (hb : w'.heap[b]? = w.heap[b]?) : MapP w' b N f := by
  obtain ⟨n, D, hn, ⟨es, c, h1, h2⟩, h3, h4⟩ := h
  exact ⟨n, D, hn, ⟨es, c, hb.trans h1, h2⟩, h3, h4⟩
theorem MapP.mono (h : MapP w b N f) {M : Nat} (hM : N ≤ M) : MapP w b M f := by
  obtain ⟨n, D, hn, r⟩ := h
  exact ⟨n, D, Nat.le_trans hn hM, r⟩
theorem MapP.made (w : World) : MapP (w.alloc (.map #[] 0)) w.heap.size 0 (fun _ => none) :=
  ⟨0, .map [], Nat.le_refl _, World.ownsMap_made _ _ _ _, fun c => by simp [Maps.has], fun c => atKey_not_has (by simp [Maps.has]) ⟨_, rfl⟩ _⟩
theorem MapP.look (h : MapP w b N f) (c : UInt8) : (Instr.lookup 55 (.map (some b)) (.int .u8 (c.toNat : Int)) false).run Try.prog w = .ok (pN (f c)) w := by
  obtain ⟨n, D, hn, ho, hh, ha⟩ := h
  obtain ⟨v, ps, hrun, hR⟩ := ho.lookup keyB Try.underlying55 (zeroP w) (rP_pN none) (kB_key c)
  rw [ha c] at hR
  rw [hrun, rP_dN hR]
theorem MapP.put (h : MapP w b N f) (hN : N < 1000000) (c : UInt8) (q : Nat) :
    ∃ w', (Instr.mapUpdate 55 (.map (some b)) (.int .u8 (c.toNat : Int)) (.pointer (some ⟨q, 0, none⟩))).run Try.prog w = .ok () w' ∧ MapP w' b (N + 1) (fun d => if d = c then some q else f d) ∧ w.grownBy w' (some b) := by
  obtain ⟨n, D, hn, ho, hh, ha⟩ := h
  obtain ⟨w', hrun, ho', hg⟩ := ho.update keyB Try.underlying55 (by unfold maxLen; omega) (kB_key c) (rP_pN (some q))
  have hm := ho.isMap
  have hk := keyB.key (kB_key c)
  refine ⟨w', hrun, ⟨n + 1, _, by omega, ho', fun d => ?_, fun d => ?_⟩, hg⟩
  · by_cases e : d = c
    · subst e
      rw [Maps.has_put_same hm hk]
      simp
    · rw [Maps.has_put_other (fun h => e (kB_inj h)), hh d]
      simp only [if_neg e]
  · by_cases e : d = c
    · subst e
      rw [Maps.atKey_put_same hm hk]
      simp only [if_true]
    · rw [Maps.atKey_put_other (fun h => e (kB_inj h)), ha d]
      simp only [if_neg e]
end

/-- A node at block b. -/
structure NdA (b : Nat) (u : Int) (o : Option Nat) (m : Option Nat) (W : World) : Prop where
  c0 : W.cell? ⟨b, 0, none⟩ = some (.int .i64 u)
  c1 : W.cell? ⟨b, 1, none⟩ = some (.int .i64 ((o.getD 0 : Nat) : Int))
  c2 : W.cell? ⟨b, 2, none⟩ = some (.bool o.isSome)
  c3 : W.cell? ⟨b, 3, none⟩ = some (.map m)
  fz : ∀ j, W.frozen? ⟨b, j, none⟩ = false
section
variable {W W' : World} {b : Nat} {u : Int} {o m : Option Nat}
theorem NdA.lt (h : NdA b u o m W) : b < W.heap.size := Mk.cell_lt h.c0
theorem NdA.keep (h : NdA b u o m W) (hb : W'.heap[b]? = W.heap[b]?) : NdA b u o m W' := by
  have e : ∀ j, W'.cell? ⟨b, j, none⟩ = W.cell? ⟨b, j, none⟩ := fun j => by simp only [World.cell?, hb]
  have z : ∀ j, W'.frozen? ⟨b, j, none⟩ = W.frozen? ⟨b, j, none⟩ := fun j => by simp only [World.frozen?, hb]
  exact ⟨(e 0).trans h.c0, (e 1).trans h.c1, (e 2).trans h.c2, (e 3).trans h.c3, fun j => (z j).trans (h.fz j)⟩
theorem NdA.of (h : W.heap[b]? = some (.cells #[.int .i64 0, .int .i64 0, .bool false, .map none] 57 (0, 0))) : NdA b ((0 : Nat) : Int) none none W :=
  ⟨Lib.cell_of_heap h 0, Lib.cell_of_heap h 1, Lib.cell_of_heap h 2, Lib.cell_of_heap h 3, fun j => Lib.frozen_of_heap h j⟩
theorem NdA.noMap (h : NdA b u o m W) : ¬ ∃ es c, W.heap[b]? = some (.map es c) := by
  rintro ⟨es, c, e⟩
  have := h.c0
  simp [World.cell?, e] at this
end

/-- A trie in memory: bk and mp tell the blocks of the nodes and of their maps, by the nodes' texts; U, I what the nodes hold; r the trie's block, B what lies below none of it; C how many nodes it tells. -/
structure TS (B r : Nat) (bk mp : List UInt8 → Option Nat) (U : List UInt8 → Nat) (I : List UInt8 → Option Nat) (N C : Nat) (W : World) : Prop where
  root : bk [] = some r
  node : ∀ t b, bk t = some b → NdA b (U t : Int) (I t) (mp t) W
  map : ∀ t mb, mp t = some mb → MapP W mb N (fun c => bk (t ++ [c]))
  noM : ∀ t, mp t = none → ∀ c, bk (t ++ [c]) = none
  inj : ∀ t t' b, bk t = some b → bk t' = some b → t = t'
  injM : ∀ t t' b, mp t = some b → mp t' = some b → t = t'
  has : ∀ t, mp t ≠ none → bk t ≠ none
  low : ∀ t b, bk t = some b ∨ mp t = some b → B ≤ b
  cnt : W.cell? ⟨r, 4, none⟩ = some (.int .i64 (C : Int))
theorem snoc_inj {t s : List UInt8} {c d : UInt8} (h : t ++ [c] = s ++ [d]) : t = s ∧ c = d := by
  have := List.append_inj' h rfl
  exact ⟨this.1, by simpa using this.2⟩
section
variable {B r : Nat} {bk mp : List UInt8 → Option Nat} {U : List UInt8 → Nat} {I : List UInt8 → Option Nat} {N C : Nat} {W W' : World}
theorem TS.keep (h : TS B r bk mp U I N C W) (hb : ∀ k, k < W.heap.size → W'.heap[k]? = W.heap[k]?) : TS B r bk mp U I N C W' := by
  refine ⟨h.root, fun t b e => (h.node t b e).keep (hb b (h.node t b e).lt), fun t mb e => (h.map t mb e).keep (hb mb (h.map t mb e).lt), h.noM, h.inj, h.injM, h.has, h.low, ?_⟩
  have hr := (h.node [] r h.root).lt
  rw [← h.cnt]
  simp only [World.cell?, hb r hr]
theorem TS.kept (h : TS B r bk mp U I N C W) (hb : Below W.heap.size W W') : TS B r bk mp U I N C W' := h.keep hb.block
theorem TS.ne (h : TS B r bk mp U I N C W) {t s : List UInt8} {b mb : Nat} (h1 : bk t = some b) (h2 : mp s = some mb) : b ≠ mb := by
  rintro rfl
  exact (h.node t b h1).noMap (h.map s b h2).isMap
theorem TS.up (h : TS B r bk mp U I N C W) {t : List UInt8} {c : UInt8} (hc : bk (t ++ [c]) ≠ none) : bk t ≠ none := by
  cases hm : mp t with
  | none => exact absurd (h.noM t hm c) hc
  | some m => exact h.has t (by rw [hm]; simp)
theorem TS.congr (h : TS B r bk mp U I N C W) {U' : List UInt8 → Nat} {I' : List UInt8 → Option Nat} {N' : Nat} (hU : ∀ t, bk t ≠ none → U t = U' t) (hI : ∀ t, bk t ≠ none → I t = I' t) (hN : N ≤ N') : TS B r bk mp U' I' N' C W :=
  ⟨h.root, fun t b e => by rw [← hU t (by rw [e]; simp), ← hI t (by rw [e]; simp)]; exact h.node t b e, fun t mb e => (h.map t mb e).mono hN, h.noM, h.inj, h.injM, h.has, h.low, h.cnt⟩
/-- One node's block is turned. -/
theorem TS.turn (h : TS B r bk mp U I N C W) {t : List UInt8} {b : Nat} (ht : bk t = some b) (hs : W.heap.size ≤ W'.heap.size) (hb : ∀ k, k < W.heap.size → k ≠ b → W'.heap[k]? = W.heap[k]?) {u : Nat} {o : Option Nat} (hn : NdA b (u : Int) o (mp t) W') {C' : Nat} (hc : W'.cell? ⟨r, 4, none⟩ = some (.int .i64 (C' : Int))) :
    TS B r bk mp (fun s => if s = t then u else U s) (fun s => if s = t then o else I s) N C' W' := by
  refine ⟨h.root, fun s d e => ?_, fun s mb e => (h.map s mb e).keep (hb mb (h.map s mb e).lt (fun e2 => h.ne ht e e2.symm)), h.noM, h.inj, h.injM, h.has, h.low, hc⟩
  by_cases e2 : s = t
  · subst e2
    rw [ht] at e
    obtain rfl := Option.some.inj e
    rw [if_pos rfl, if_pos rfl]
    exact hn
  · rw [if_neg e2, if_neg e2]
    exact (h.node s d e).keep (hb d (h.node s d e).lt (fun e3 => e2 (h.inj s t d e (by rw [ht, e3]))))
theorem set_other (W : World) (b j : Nat) (v : Value) {k : Nat} (hk : k ≠ b) : (W.setCell ⟨b, j, none⟩ v).heap[k]? = W.heap[k]? := heap_setCell_other W ⟨b, j, none⟩ k v (fun e => hk e)
theorem cell_set (W : World) (b j b' j' : Nat) (v : Value) (h : ¬ (b = b' ∧ j = j')) : (W.setCell ⟨b, j, none⟩ v).cell? ⟨b', j', none⟩ = W.cell? ⟨b', j', none⟩ :=
  World.cell?_setCell_other _ _ _ _ (fun e => h (by simp at e; exact ⟨e.1, e.2⟩))
theorem TS.root_lt (h : TS B r bk mp U I N C W) : r < W.heap.size := (h.node [] r h.root).lt
/-- One more token begins so. -/
theorem TS.under (h : TS B r bk mp U I N C W) {t : List UInt8} {b : Nat} (ht : bk t = some b) (u : Nat) :
    TS B r bk mp (fun s => if s = t then u else U s) I N C (W.setCell ⟨b, 0, none⟩ (.int .i64 (u : Int))) := by
  have hn := h.node t b ht
  have h2 := h.turn (W' := W.setCell ⟨b, 0, none⟩ (.int .i64 (u : Int))) ht (by simp) (fun k _ hk => set_other W b 0 _ hk) (u := u) (o := I t) ⟨World.cell?_setCell_same W _ _ hn.c0, (cell_set _ _ _ _ _ _ (by simp)).trans hn.c1, (cell_set _ _ _ _ _ _ (by simp)).trans hn.c2, (cell_set _ _ _ _ _ _ (by simp)).trans hn.c3, fun j => by simp [hn.fz j]⟩ (C' := C) ((cell_set _ _ _ _ _ _ (by simp)).trans h.cnt)
  exact h2.congr (fun _ _ => rfl) (fun s _ => by by_cases e : s = t <;> simp [e]) (Nat.le_refl _)
/-- A token's bytes end here. -/
theorem TS.ends (h : TS B r bk mp U I N C W) {t : List UInt8} {b : Nat} (ht : bk t = some b) (k : Nat) :
    TS B r bk mp U (fun s => if s = t then some k else I s) N C ((W.setCell ⟨b, 1, none⟩ (.int .i64 (k : Int))).setCell ⟨b, 2, none⟩ (.bool true)) := by
  have hn := h.node t b ht
  have h2 := h.turn (W' := (W.setCell ⟨b, 1, none⟩ (.int .i64 (k : Int))).setCell ⟨b, 2, none⟩ (.bool true)) ht (by simp) (fun i _ hk => (set_other _ b 2 _ hk).trans (set_other W b 1 _ hk)) (u := U t) (o := some k)
    ⟨(cell_set _ _ _ _ _ _ (by simp)).trans ((cell_set _ _ _ _ _ _ (by simp)).trans hn.c0), (cell_set _ _ _ _ _ _ (by simp)).trans (World.cell?_setCell_same W _ _ hn.c1), World.cell?_setCell_same _ _ _ ((cell_set _ _ _ _ _ _ (by simp)).trans hn.c2), (cell_set _ _ _ _ _ _ (by simp)).trans ((cell_set _ _ _ _ _ _ (by simp)).trans hn.c3), fun j => by simp [hn.fz j]⟩ (C' := C) ((cell_set _ _ _ _ _ _ (by simp)).trans ((cell_set _ _ _ _ _ _ (by simp)).trans h.cnt))
  exact h2.congr (fun s _ => by by_cases e : s = t <;> simp [e]) (fun _ _ => rfl) (Nat.le_refl _)
/-- One more node is told. -/
theorem TS.more (h : TS B r bk mp U I N C W) (c : Nat) : TS B r bk mp U I N c (W.setCell ⟨r, 4, none⟩ (.int .i64 (c : Int))) := by
  have hn := h.node [] r h.root
  have h2 := h.turn (W' := W.setCell ⟨r, 4, none⟩ (.int .i64 (c : Int))) h.root (by simp) (fun k _ hk => set_other W r 4 _ hk) (u := U []) (o := I []) ⟨(cell_set _ _ _ _ _ _ (by simp)).trans hn.c0, (cell_set _ _ _ _ _ _ (by simp)).trans hn.c1, (cell_set _ _ _ _ _ _ (by simp)).trans hn.c2, (cell_set _ _ _ _ _ _ (by simp)).trans hn.c3, fun j => by simp [hn.fz j]⟩ (C' := c) (World.cell?_setCell_same W _ _ h.cnt)
  exact h2.congr (fun s _ => by by_cases e : s = [] <;> simp [e]) (fun s _ => by by_cases e : s = [] <;> simp [e]) (Nat.le_refl _)
/-- A node gets its map. -/
theorem TS.newMap (h : TS B r bk mp U I N C W) (hB : B ≤ W.heap.size) {t : List UInt8} {b : Nat} (ht : bk t = some b) (hm : mp t = none) :
    TS B r bk (fun s => if s = t then some W.heap.size else mp s) U I N C ((W.setCell ⟨b, 3, none⟩ (.map (some W.heap.size))).alloc (.map #[] 0)) := by
  have hn := h.node t b ht
  have hbl := hn.lt
  have hz : (W.setCell ⟨b, 3, none⟩ (.map (some W.heap.size))).heap.size = W.heap.size := by simp
  have hold : ∀ k, k < W.heap.size → k ≠ b → ((W.setCell ⟨b, 3, none⟩ (.map (some W.heap.size))).alloc (.map #[] 0)).heap[k]? = W.heap[k]? := fun k hk hkb => by
    rw [(Mk.low1 _ _).block k (by rw [hz]; exact hk)]
    exact set_other W b 3 _ hkb
  have hbb : ((W.setCell ⟨b, 3, none⟩ (.map (some W.heap.size))).alloc (.map #[] 0)).heap[b]? = (W.setCell ⟨b, 3, none⟩ (.map (some W.heap.size))).heap[b]? := (Mk.low1 _ _).block b (by rw [hz]; exact hbl)
  have hmp := MapP.made (W.setCell ⟨b, 3, none⟩ (.map (some W.heap.size)))
  rw [hz] at hmp
  refine ⟨h.root, fun s d e => ?_, fun s mb e => ?_, fun s e => ?_, h.inj, fun s s' m e1 e2 => ?_, fun s e => ?_, fun s d e => ?_, ?_⟩
  · by_cases e2 : s = t
    · subst e2
      rw [ht] at e
      obtain rfl := Option.some.inj e
      rw [if_pos rfl]
      exact NdA.keep (W := W.setCell ⟨b, 3, none⟩ (.map (some W.heap.size))) ⟨(cell_set _ _ _ _ _ _ (by simp)).trans hn.c0, (cell_set _ _ _ _ _ _ (by simp)).trans hn.c1, (cell_set _ _ _ _ _ _ (by simp)).trans hn.c2, World.cell?_setCell_same W _ _ hn.c3, fun j => by simp [hn.fz j]⟩ hbb
    · rw [if_neg e2]
      exact (h.node s d e).keep (hold d (h.node s d e).lt (fun e3 => e2 (h.inj s t d e (by rw [ht, e3]))))
  · by_cases e2 : s = t
    · subst e2
      rw [if_pos rfl] at e
      obtain rfl := Option.some.inj e
      have := hmp.mono (Nat.zero_le N)
      have e3 : (fun c => bk (s ++ [c])) = fun _ => none := funext (fun c => h.noM s hm c)
      rw [e3]
      exact this
    · rw [if_neg e2] at e
      exact (h.map s mb e).keep (hold mb (h.map s mb e).lt (fun e3 => h.ne ht e e3.symm))
  · by_cases e2 : s = t
    · rw [if_pos e2] at e; cases e
    · rw [if_neg e2] at e; exact h.noM s e
  · by_cases e3 : s = t
    · by_cases e4 : s' = t
      · rw [e3, e4]
      · rw [if_pos e3] at e1
        rw [if_neg e4] at e2
        obtain rfl := Option.some.inj e1
        exact absurd (h.map s' _ e2).lt (by omega)
    · by_cases e4 : s' = t
      · rw [if_neg e3] at e1
        rw [if_pos e4] at e2
        obtain rfl := Option.some.inj e2
        exact absurd (h.map s _ e1).lt (by omega)
      · rw [if_neg e3] at e1
        rw [if_neg e4] at e2
        exact h.injM s s' m e1 e2
  · by_cases e2 : s = t
    · rw [e2, ht]; simp
    · rw [if_neg e2] at e; exact h.has s e
  · rcases e with e | e
    · exact h.low s d (Or.inl e)
    · by_cases e2 : s = t
      · rw [if_pos e2] at e
        obtain rfl := Option.some.inj e
        exact hB
      · rw [if_neg e2] at e
        exact h.low s d (Or.inr e)
  · have hr := h.root_lt
    rw [← h.cnt]
    by_cases e : r = b
    · subst e
      simp only [World.cell?, hbb]
      exact cell_set W r 3 r 4 _ (by simp)
    · simp only [World.cell?, hold r hr e]
/-- A node gets a next one. -/
theorem TS.newNode (h : TS B r bk mp U I N C W) (hB : B ≤ W.heap.size) {t : List UInt8} {c : UInt8} {mb : Nat} (hm : mp t = some mb) (hc : bk (t ++ [c]) = none) (hU : U (t ++ [c]) = 0) (hI : I (t ++ [c]) = none)
    (hq : NdA W.heap.size ((0 : Nat) : Int) none none W') (hs : W.heap.size < W'.heap.size) (hb : ∀ k, k < W.heap.size → k ≠ mb → W'.heap[k]? = W.heap[k]?) (hM : MapP W' mb (N + 1) (fun d => if d = c then some W.heap.size else bk (t ++ [d]))) :
    TS B r (fun s => if s = t ++ [c] then some W.heap.size else bk s) mp U I (N + 1) C W' := by
  have hmn : mp (t ++ [c]) = none := by
    cases e : mp (t ++ [c]) with
    | none => rfl
    | some m => exact absurd hc (h.has _ (by rw [e]; simp))
  refine ⟨?_, fun s d e => ?_, fun s m e => ?_, fun s e d => ?_, fun s s' m e1 e2 => ?_, h.injM, fun s e => ?_, fun s d e => ?_, ?_⟩
  · rw [if_neg (by simp)]; exact h.root
  · by_cases e2 : s = t ++ [c]
    · rw [if_pos e2] at e
      obtain rfl := Option.some.inj e
      rw [e2, hU, hI, hmn]
      exact hq
    · rw [if_neg e2] at e
      exact (h.node s d e).keep (hb d (h.node s d e).lt (fun e3 => h.ne e hm e3))
  · by_cases e2 : s = t
    · subst e2
      rw [hm] at e
      obtain rfl := Option.some.inj e
      have e3 : (fun d => if s ++ [d] = s ++ [c] then some W.heap.size else bk (s ++ [d])) = fun d => if d = c then some W.heap.size else bk (s ++ [d]) := funext (fun d => by
        by_cases e : d = c
        · subst e; simp
        · rw [if_neg e, if_neg (fun e4 => e (snoc_inj e4).2)])
      rw [e3]
      exact hM
    · have e3 : (fun d => if s ++ [d] = t ++ [c] then some W.heap.size else bk (s ++ [d])) = fun d => bk (s ++ [d]) := funext (fun d => if_neg (fun e4 => e2 (snoc_inj e4).1))
      rw [e3]
      exact ((h.map s m e).keep (hb m (h.map s m e).lt (fun e4 => e2 (h.injM s t m e (by rw [hm, e4]))))).mono (by omega)
  · by_cases e2 : s ++ [d] = t ++ [c]
    · rw [(snoc_inj e2).1, hm] at e; cases e
    · rw [if_neg e2]; exact h.noM s e d
  · by_cases e3 : s = t ++ [c]
    · by_cases e4 : s' = t ++ [c]
      · rw [e3, e4]
      · rw [if_pos e3] at e1
        rw [if_neg e4] at e2
        obtain rfl := Option.some.inj e1
        exact absurd (h.node s' _ e2).lt (by omega)
    · by_cases e4 : s' = t ++ [c]
      · rw [if_neg e3] at e1
        rw [if_pos e4] at e2
        obtain rfl := Option.some.inj e2
        exact absurd (h.node s _ e1).lt (by omega)
      · rw [if_neg e3] at e1
        rw [if_neg e4] at e2
        exact h.inj s s' m e1 e2
  · by_cases e2 : s = t ++ [c]
    · rw [if_pos e2]; simp
    · rw [if_neg e2]; exact h.has s e
  · rcases e with e | e
    · by_cases e2 : s = t ++ [c]
      · rw [if_pos e2] at e
        obtain rfl := Option.some.inj e
        exact hB
      · rw [if_neg e2] at e
        exact h.low s d (Or.inl e)
    · exact h.low s d (Or.inr e)
  · have hr := h.root_lt
    rw [← h.cnt]
    simp only [World.cell?, hb r hr (fun e => h.ne h.root hm e)]
end
end Go.Proofs.Ytadbffphmmkljaa
