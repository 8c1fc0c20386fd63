/- Contract: the reader's read. Contract: spec.Parse. -/
import Derived.Test.YtoihocbnhoniaaaGreatDoorQo13
import Derived.Test.YtoihocbnhoniaaaGreatDoorQo6
import Derived.BigRegion
namespace Go.Proofs.YtoihocbnhoniaaaGreatDoor.Wf
open Go.RowKit
set_option linter.unusedVariables false
set_option linter.unusedSimpArgs false

theorem take_any (w0 : World) (p : Nat) (x : Sv) (s : Sp) (n k0 : Nat) (W : World) (h : RAt w0 p x s n k0 W) (hE : Env W) (ao : Option Addr) (m cap : Nat) (ws : List ByteArray) (hR : ReadsS W ao m ws) (hws : ∀ s ∈ ws, s.size ≤ 1000000) (hbp : ∀ b off, ao = some ⟨b, off, none⟩ → b ≠ p) (k : Nat) (hk : k ≤ 6) :
    Calls Tryz.prog 124 #[.pointer (some ⟨p, 0, none⟩), .int .i64 k, .slice ao m cap] W (TakeP w0 p n k0 (takeL s k (bl ws))) := by
  have hs : k = 0 ∨ k = 1 ∨ k = 2 ∨ k = 3 ∨ k = 4 ∨ k = 5 ∨ k = 6 := by omega
  rcases hs with rfl | rfl | rfl | rfl | rfl | rfl | rfl
  · exact take0_any w0 p x s n k0 W h ao m cap ws hR hbp
  · exact take1_any w0 p x s n k0 W h hE ao m cap ws hR hws
  · exact take2_any w0 p x s n k0 W h hE ao m cap ws hR hws
  · exact take3_any w0 p x s n k0 W h hE ao m cap ws hR hws
  · exact take4_any w0 p x s n k0 W h hE ao m cap ws hR hws
  · exact take5_any w0 p x s n k0 W h hE ao m cap ws hR hws
  · exact take6_any w0 p x s n k0 W h ao m cap ws
theorem kindL_le (f : List UInt8) : kindL f ≤ 6 := by
  unfold kindL
  repeat' split
  all_goals omega

/-- What a line's reading leaves. -/
def ReadP (w0 : World) (p n k0 : Nat) (res : Option Rd) (e : Ending) (w' : World) : Prop := match res with
  | some r' => e = .returned (.bool true) ∧ ∃ x', RAt w0 p x' r'.sp r'.n r'.k w'
  | none => e = .returned (.bool false) ∧ ∃ x' s', RAt w0 p x' s' n k0 w'
theorem cut_size (line : ByteArray) (c : UInt8) : ∀ x ∈ cutL c line.data.toList, x.length ≤ line.size := by
  have h2 : line.data.toList.length = line.size := by rw [Array.length_toList]; rfl
  rw [← h2]
  generalize line.data.toList = l
  induction l with
  | nil => intro x hx; simp [cutL] at hx; subst hx; simp
  | cons b l ih =>
    intro x hx
    simp only [cutL] at hx
    by_cases hb : b = c
    · rw [if_pos hb] at hx
      rcases List.mem_cons.1 hx with rfl | hx
      · simp
      · have := ih x hx; simp; omega
    · rw [if_neg hb] at hx
      cases hc : cutL c l with
      | nil => exact absurd hc (cut_ne c l)
      | cons y r =>
        rw [hc] at hx ih
        simp only at hx
        rcases List.mem_cons.1 hx with rfl | hx
        · have := ih y List.mem_cons_self; simp; omega
        · have := ih x (List.mem_cons_of_mem _ hx); simp; omega
theorem bl_bt (l : List (List UInt8)) : bl (l.map (fun x => (⟨x.toArray⟩ : ByteArray))) = l := by
  unfold bl
  rw [List.map_map]
  conv => rhs; rw [← List.map_id l]
  rfl

theorem tv_cell (W : World) (l : List (List UInt8)) (i : Nat) (hi : i < l.length) : (W.alloc (.cells (tv l).toArray 9)).cell? ⟨W.heap.size, i, none⟩ = some (.string ⟨(l.getD i []).toArray⟩) := by
  rw [Lib.cell_of_heap (heap_alloc_new W _)]
  simp [tv, hi, List.getD_eq_getElem?_getD]

set_option maxHeartbeats 8000000 in
set_option maxRecDepth 20000 in
theorem read_any (w0 : World) (p : Nat) (x : Sv) (s : Sp) (n k0 : Nat) (W : World) (h : RAt w0 p x s n k0 W) (hE : Env W) (line : ByteArray) (hs : line.size ≤ 100000) (hn : n ≤ 1000000) (hk0 : k0 ≤ 6) :
    Calls Tryz.prog 85 #[.pointer (some ⟨p, 0, none⟩), .string line] W (ReadP w0 p n k0 (readL ⟨s, n, k0⟩ line.data.toList)) := by
  obtain ⟨m, hm⟩ := hE.maxl
  have K := cut_any line m W (by omega) hm
  obtain ⟨f, rest, hcut⟩ : ∃ f rest, cutL 32 line.data.toList = f :: rest := by
    cases hc : cutL 32 line.data.toList with
    | nil => exact absurd hc (cut_ne _ _)
    | cons f rest => exact ⟨f, rest, rfl⟩
  have hsz := cut_size line 32
  rw [hcut] at K hsz
  have HRL : Hid (readL ⟨s, n, k0⟩ line.data.toList = if folL n k0 (kindL f) = true then (takeL s (kindL f) rest).map (fun s => ⟨s, n + 1, kindL f⟩) else none) := by
    refine hide ?_
    unfold readL
    rw [hcut]
    rfl
  have hlo := low_alloc W (.cells (tv (f :: rest)).toArray 9)
  have HR1 := hide (h.low hlo)
  have HE1 := hide (hE.kept hlo)
  have hpW : p < W.heap.size := h.lt
  have c0 : (W.alloc (.cells (tv (f :: rest)).toArray 9)).cell? ⟨W.heap.size, 0, none⟩ = some (.string ⟨f.toArray⟩) := by simp [tv]
  have HRS : Hid (∀ ao, (rest.length = 0 ∨ ao = some ⟨W.heap.size, 1, none⟩) → ReadsS (W.alloc (.cells (tv (f :: rest)).toArray 9)) ao rest.length (rest.map (fun x => (⟨x.toArray⟩ : ByteArray)))) := by
    refine hide fun ao hao => ⟨by rw [List.length_map], ?_⟩
    rcases hao with h0 | h0
    · exact Or.inl h0
    · refine Or.inr ⟨W.heap.size, 1, h0, fun i hi => ?_⟩
      have := tv_cell W (f :: rest) (i + 1) (by simp; omega)
      rw [Nat.add_comm 1 i, this]
      simp [hi, List.getD_eq_getElem?_getD]
  have HSZ : Hid (∀ t ∈ rest.map (fun x => (⟨x.toArray⟩ : ByteArray)), t.size ≤ 1000000) := by
    refine hide fun t ht => ?_
    obtain ⟨y, hy, rfl⟩ := List.mem_map.1 ht
    have h1 := hsz y (List.mem_cons_of_mem _ hy)
    show y.toArray.size ≤ _
    rw [List.size_toArray]
    omega
  have HK := hide (kindL_le f)
  have HLO := hide hlo
  have hNr : (f :: rest).length = rest.length + 1 := rfl
  rw [hNr] at K
  clear h hE hm hcut hsz hlo hNr
  have hr1 : (1 : Int) ≤ ((rest.length + 1 : Nat) : Int) := by omega
  have hr2 : (1 : Int) ≤ (rest.length : Int) + 1 := by omega
  have hr3 : 1 ≤ rest.length + 1 := by omega
  have hr0 : (0 : Int) < (rest.length : Int) + 1 := by omega
  have hr4 : (0 : Int) < ((rest.length + 1 : Nat) : Int) := by omega
  go_enter Tryz.func85, Tryz.ntmps85
  go_wp2_with fail
  refine K.mono ?_
  clear K
  rintro e w1 ⟨rfl, hw1⟩
  rw [← hw1] at HR1 HE1 c0 HRS HLO
  clear hw1
  have K2 := kindOf_any ⟨f.toArray⟩ w1 HE1.out
  rw [show (⟨f.toArray⟩ : ByteArray).data.toList = f from rfl] at K2
  obtain ⟨k, hk⟩ : ∃ k, kindL f = k := ⟨_, rfl⟩
  rw [hk] at K2 HRL HK
  have hk6 : k ≤ 6 := HK.out
  clear hk HK
  go_wp2_with fail
  refine K2.mono ?_
  clear K2
  rintro e w2 ⟨rfl, rfl⟩
  have K3 := follows_any w0 p x s n k0 w2 HR1.out hn k (by omega) (by omega)
  cases hf : folL n k0 k with
  | false =>
    rw [hf] at K3 HRL
    rw [if_neg (by decide)] at HRL
    clear hf
    go_wp2_with fail
    refine K3.mono ?_
    clear K3
    rintro e w3 ⟨rfl, rfl⟩
    go_wp2
    go_ret
    rw [HRL.out]
    exact ⟨rfl, x, s, HR1.out⟩
  | true =>
    rw [hf] at K3 HRL
    rw [if_pos rfl] at HRL
    clear hf
    go_wp2_with fail
    refine K3.mono ?_
    clear K3
    rintro e w3 ⟨rfl, rfl⟩
    have HK4 : Hid (∀ ao cap, (rest.length = 0 ∨ ao = some ⟨W.heap.size, 1, none⟩) → (∀ b off, ao = some ⟨b, off, none⟩ → b ≠ p) → Calls Tryz.prog 124 #[.pointer (some ⟨p, 0, none⟩), .int .i64 k, .slice ao rest.length cap] w3 (TakeP w0 p n k0 (takeL s k rest))) := by
      refine hide fun ao cap h1 h2 => ?_
      have := take_any w0 p x s n k0 w3 HR1.out HE1.out ao rest.length cap _ (HRS.out ao h1) HSZ.out h2 k hk6
      rwa [bl_bt] at this
    by_cases h0 : rest.length = 0
    · have HK5 := hide (HK4.out (some ⟨W.heap.size, 0, none⟩) 0 (Or.inl h0) (fun b off e => by cases e; omega))
      rw [h0] at HK5 hr1 hr2 hr3 hr0 hr4 ⊢
      clear HK4 HRS
      go_wp2_with fail
      refine HK5.out.mono ?_
      clear HK5
      intro e w4 ht
      cases hres : takeL s k rest with
      | none =>
        rw [hres] at ht HRL
        obtain ⟨rfl, x', s', hx⟩ := ht
        have HX := hide hx
        clear hx hres
        go_wp2
        go_ret
        rw [HRL.out]
        exact ⟨rfl, x', s', HX.out⟩
      | some s' =>
        rw [hres] at ht HRL
        obtain ⟨rfl, x', hx⟩ := ht
        have q7 : w4.cell? ⟨p, 7, none⟩ = some (.int .i64 k0) := hx.cell 7
        have f7 := hx.free 7
        have hx7 := hx.setK k
        have q6 : (w4.setCell ⟨p, 7, none⟩ (.int .i64 k)).cell? ⟨p, 6, none⟩ = some (.int .i64 n) := hx7.cell 6
        have f6 : (w4.setCell ⟨p, 7, none⟩ (.int .i64 k)).frozen? ⟨p, 6, none⟩ = false := hx7.free 6
        have HX := hide (hx7.setN (n + 1))
        clear hx hx7 hres
        go_wp2
        go_ret
        rw [HRL.out]
        exact ⟨rfl, x', HX.out⟩
    · have HK5 := hide (HK4.out (some ⟨W.heap.size, 1, none⟩) rest.length (Or.inr rfl) (fun b off e => by cases e; omega))
      clear HK4 HRS
      have h0i : ¬ ((rest.length : Int) + 1 = 1) := by omega
      go_wp2_with fail
      refine HK5.out.mono ?_
      clear HK5
      intro e w4 ht
      cases hres : takeL s k rest with
      | none =>
        rw [hres] at ht HRL
        obtain ⟨rfl, x', s', hx⟩ := ht
        have HX := hide hx
        clear hx hres
        go_wp2
        go_ret
        rw [HRL.out]
        exact ⟨rfl, x', s', HX.out⟩
      | some s' =>
        rw [hres] at ht HRL
        obtain ⟨rfl, x', hx⟩ := ht
        have q7 : w4.cell? ⟨p, 7, none⟩ = some (.int .i64 k0) := hx.cell 7
        have f7 := hx.free 7
        have hx7 := hx.setK k
        have q6 : (w4.setCell ⟨p, 7, none⟩ (.int .i64 k)).cell? ⟨p, 6, none⟩ = some (.int .i64 n) := hx7.cell 6
        have f6 : (w4.setCell ⟨p, 7, none⟩ (.int .i64 k)).frozen? ⟨p, 6, none⟩ = false := hx7.free 6
        have HX := hide (hx7.setN (n + 1))
        clear hx hx7 hres
        go_wp2
        go_ret
        rw [HRL.out]
        exact ⟨rfl, x', HX.out⟩
end Go.Proofs.YtoihocbnhoniaaaGreatDoor.Wf

namespace Go.Proofs.YtoihocbnhoniaaaGreatDoor.Wf
open Go.RowKit
set_option linter.unusedVariables false
set_option linter.unusedSimpArgs false

theorem spec_rows {B : Nat} {x : Sv} {s : Sp} {W : World} (r : x.r = s.ranked) (m1 : Row B 70 2 eM x.a1 x.n1 x.c1 s.merges W) (m2 : Row B 9 1 eT x.a2 x.n2 x.c2 s.tokens W) (m3 : Row B 67 2 eS x.a3 x.n3 x.c3 s.specials W) (m4 : Row B 72 3 eC x.a4 x.n4 x.c4 s.classes W) (m5 : Row B 93 2 eM x.a5 x.n5 x.c5 s.joins W) : SpAt W x s := by
  refine ⟨r, ⟨m1.len, ?_⟩, ⟨m2.len, ?_⟩, ⟨m3.len, ?_⟩, ⟨m4.len, ?_⟩, ⟨m5.len, ?_⟩⟩
  · rcases Nat.eq_zero_or_pos x.n1 with h0 | h0
    · exact Or.inl h0
    · obtain ⟨g, hg, hl, hc⟩ := m1.cell (fun _ => rfl) h0 (0, 0)
      exact Or.inr ⟨g, 0, hg, hl, fun i hi => ⟨hc i 0 hi (by omega), hc i 1 hi (by omega)⟩⟩
  · rcases Nat.eq_zero_or_pos x.n2 with h0 | h0
    · exact Or.inl h0
    · obtain ⟨g, hg, hl, hc⟩ := m2.cell (fun _ => rfl) h0 ⟨#[]⟩
      exact Or.inr ⟨g, 0, hg, hl, fun i hi => by have := hc i 0 hi (by omega); rw [Nat.mul_one] at this; exact this⟩
  · rcases Nat.eq_zero_or_pos x.n3 with h0 | h0
    · exact Or.inl h0
    · obtain ⟨g, hg, hl, hc⟩ := m3.cell (fun _ => rfl) h0 (0, ⟨#[]⟩)
      exact Or.inr ⟨g, 0, hg, hl, fun i hi => ⟨hc i 0 hi (by omega), hc i 1 hi (by omega)⟩⟩
  · rcases Nat.eq_zero_or_pos x.n4 with h0 | h0
    · exact Or.inl h0
    · obtain ⟨g, hg, hl, hc⟩ := m4.cell (fun _ => rfl) h0 (0, 0, 0)
      exact Or.inr ⟨g, 0, hg, hl, fun i hi => ⟨hc i 0 hi (by omega), hc i 1 hi (by omega), hc i 2 hi (by omega)⟩⟩
  · rcases Nat.eq_zero_or_pos x.n5 with h0 | h0
    · exact Or.inl h0
    · obtain ⟨g, hg, hl, hc⟩ := m5.cell (fun _ => rfl) h0 (0, 0)
      exact Or.inr ⟨g, 0, hg, hl, fun i hi => ⟨hc i 0 hi (by omega), hc i 1 hi (by omega)⟩⟩
/-- The rows of a spec; a store into a block of another type leaves them. -/
structure Rws (B : Nat) (x : Sv) (s : Sp) (W : World) : Prop where
  r : x.r = s.ranked
  m1 : Row B 70 2 eM x.a1 x.n1 x.c1 s.merges W
  m2 : Row B 9 1 eT x.a2 x.n2 x.c2 s.tokens W
  m3 : Row B 67 2 eS x.a3 x.n3 x.c3 s.specials W
  m4 : Row B 72 3 eC x.a4 x.n4 x.c4 s.classes W
  m5 : Row B 93 2 eM x.a5 x.n5 x.c5 s.joins W
theorem Rws.spec {B : Nat} {x : Sv} {s : Sp} {W : World} (h : Rws B x s W) : SpAt W x s := spec_rows h.r h.m1 h.m2 h.m3 h.m4 h.m5
theorem Rws.set {B : Nat} {x : Sv} {s : Sp} {W : World} (h : Rws B x s W) {q : Nat} {cs : Array Value} {fr : Nat × Nat} (hq : W.heap[q]? = some (.cells cs 28 fr)) (j : Nat) (v : Value) : Rws B x s (W.setCell ⟨q, j, none⟩ v) :=
  ⟨h.r, h.m1.set hq (by decide) _ _, h.m2.set hq (by decide) _ _, h.m3.set hq (by decide) _ _, h.m4.set hq (by decide) _ _, h.m5.set hq (by decide) _ _⟩
def Sv.zero : Sv := ⟨false, none, 0, 0, none, 0, 0, none, 0, 0, none, 0, 0, none, 0, 0⟩
theorem zero_at (W : World) : SpAt W Sv.zero Sp.zero := ⟨rfl, ⟨rfl, Or.inl rfl⟩, ⟨rfl, Or.inl rfl⟩, ⟨rfl, Or.inl rfl⟩, ⟨rfl, Or.inl rfl⟩, ⟨rfl, Or.inl rfl⟩⟩
/-- A spec stored into a box. -/
abbrev put6 (W : World) (q : Nat) (x : Sv) : World := (((((W.setCell ⟨q, 0, none⟩ (.bool x.r)).setCell ⟨q, 1, none⟩ (.slice x.a1 x.n1 x.c1)).setCell ⟨q, 2, none⟩ (.slice x.a2 x.n2 x.c2)).setCell ⟨q, 3, none⟩ (.slice x.a3 x.n3 x.c3)).setCell ⟨q, 4, none⟩ (.slice x.a4 x.n4 x.c4)).setCell ⟨q, 5, none⟩ (.slice x.a5 x.n5 x.c5)
theorem put6_box {W : World} {q : Nat} {y : Sv} (h : W.heap[q]? = some (.cells y.cs 28 (0, 0))) (x : Sv) : (put6 W q x).heap[q]? = some (.cells x.cs 28 (0, 0)) :=
  set_block (set_block (set_block (set_block (set_block (set_block h 0 _) 1 _) 2 _) 3 _) 4 _) 5 _
theorem put6_rows {W : World} {q B : Nat} {y x z : Sv} {s : Sp} (h : W.heap[q]? = some (.cells y.cs 28 (0, 0))) (hr : Rws B z s W) : Rws B z s (put6 W q x) :=
  (((((hr.set h _ _).set (set_block h 0 _) _ _).set (set_block (set_block h 0 _) 1 _) _ _).set (set_block (set_block (set_block h 0 _) 1 _) 2 _) _ _).set (set_block (set_block (set_block (set_block h 0 _) 1 _) 2 _) 3 _) _ _).set (set_block (set_block (set_block (set_block (set_block h 0 _) 1 _) 2 _) 3 _) 4 _) _ _
theorem put6_below {B : Nat} {w W : World} {q : Nat} (h : Below B w W) (hq : B ≤ q) (x : Sv) : Below B w (put6 W q x) :=
  (((((h.setCell (p := ⟨q, 0, none⟩) hq _).setCell (p := ⟨q, 1, none⟩) hq _).setCell (p := ⟨q, 2, none⟩) hq _).setCell (p := ⟨q, 3, none⟩) hq _).setCell (p := ⟨q, 4, none⟩) hq _).setCell (p := ⟨q, 5, none⟩) hq _
theorem box_cells {W : World} {q : Nat} {x : Sv} (h : W.heap[q]? = some (.cells x.cs 28 (0, 0))) : BxS q x W := by
  refine ⟨?_, ?_, ?_, ?_, ?_, ?_⟩ <;> (rw [Lib.cell_of_heap h]; rfl)

/-- What Parse leaves. -/
def ParsePost (w : World) (t : List UInt8) (e : Ending) (w' : World) : Prop := ∃ x, e = .returned (.tuple #[.agg x.cs, .int .i64 (parseP t).2.1, .int .i64 (parseP t).2.2]) ∧ SpAt w' x (parseP t).1 ∧ Below w.heap.size w w'

theorem runL_k : ∀ (ls : List (List UInt8)) (r : Rd), r.k ≤ 6 → (runL r ls).1.k ≤ 6
  | [], r, h => h
  | l :: ls, r, h => by
    have e : runL r (l :: ls) = match readL r l with | none => (r, false) | some r' => runL r' ls := rfl
    rw [e]
    cases hx : readL r l with
    | none => exact h
    | some r' =>
      refine runL_k ls r' ?_
      unfold readL readW at hx
      split at hx
      · rw [Option.map_eq_some_iff] at hx
        obtain ⟨s, _, rfl⟩ := hx
        exact kindL_le _
      · cases hx
theorem runL_step {l : List (List UInt8)} {k : Nat} (hk : k < l.length) {r0 r : Rd} (h : runL r0 (l.take k) = (r, true)) : runL r0 (l.take (k + 1)) = match readL r (l.getD k []) with | none => (r, false) | some r' => (r', true) := by
  rw [List.take_succ_eq_append_getElem hk, runL_append _ _ _ (by rw [h]), h]
  have e : l.getD k [] = l[k] := by simp [List.getD_eq_getElem?_getD, hk]
  rw [e]
  show (match readL r l[k] with | none => (r, false) | some r' => runL r' []) = _
  cases readL r l[k] <;> rfl
theorem runL_stop {l : List (List UInt8)} {k : Nat} (hk : k < l.length) {r0 r : Rd} (h : runL r0 (l.take k) = (r, true)) (h2 : readL r (l.getD k []) = none) : runL r0 l = (r, false) := by
  have e1 : l = l.take k ++ l.drop k := (List.take_append_drop k l).symm
  have e2 : l.drop k = l[k] :: l.drop (k + 1) := List.drop_eq_getElem_cons hk
  have e3 : l.getD k [] = l[k] := by simp [List.getD_eq_getElem?_getD, hk]
  rw [e3] at h2
  rw [e1, runL_append _ _ _ (by rw [h]), h, e2]
  show (match readL r l[k] with | none => (r, false) | some r' => runL r' (l.drop (k + 1))) = _
  rw [h2]
theorem parseP_cut {t : List UInt8} {l : List (List UInt8)} {x : List UInt8} (hl : cutL 10 t = l ++ [x]) (hs : t.length ≤ 60000) : parseP t = parseC l x := by
  unfold parseP
  rw [if_neg (by omega), hl, List.dropLast_concat]
  simp
theorem cut_last2 (c : UInt8) (s : List UInt8) : ∃ l x, cutL c s = l ++ [x] := by
  rcases List.eq_nil_or_concat (cutL c s) with h | ⟨l, x, h⟩
  · exact absurd h (cut_ne c s)
  · exact ⟨l, x, by simpa using h⟩
theorem mem_getD2 {α : Type} {p : α → Prop} {l : List α} (h : ∀ x ∈ l, p x) (d : α) {k : Nat} (hk : k < l.length) : p (l.getD k d) := by
  rw [List.getD_eq_getElem?_getD, List.getElem?_eq_getElem hk]
  exact h _ (List.getElem_mem hk)
theorem putz_box {W : World} {q : Nat} (h : W.heap[q]? = some (.cells #[.bool false, .slice none 0 0, .slice none 0 0, .slice none 0 0, .slice none 0 0, .slice none 0 0] 28 (0, 0))) : ((((((W.setCell ⟨q, 0, none⟩ (.bool false)).setCell ⟨q, 1, none⟩ (.slice none 0 0)).setCell ⟨q, 2, none⟩ (.slice none 0 0)).setCell ⟨q, 3, none⟩ (.slice none 0 0)).setCell ⟨q, 4, none⟩ (.slice none 0 0)).setCell ⟨q, 5, none⟩ (.slice none 0 0)).heap[q]? = some (.cells #[.bool false, .slice none 0 0, .slice none 0 0, .slice none 0 0, .slice none 0 0, .slice none 0 0] 28 (0, 0)) := put6_box (y := Sv.zero) h Sv.zero
theorem putz_below {B : Nat} {w W : World} {q : Nat} (h : Below B w W) (hq : B ≤ q) : Below B w ((((((W.setCell ⟨q, 0, none⟩ (.bool false)).setCell ⟨q, 1, none⟩ (.slice none 0 0)).setCell ⟨q, 2, none⟩ (.slice none 0 0)).setCell ⟨q, 3, none⟩ (.slice none 0 0)).setCell ⟨q, 4, none⟩ (.slice none 0 0)).setCell ⟨q, 5, none⟩ (.slice none 0 0)) := put6_below h hq Sv.zero
theorem boxz_cells {W : World} {q : Nat} (h : W.heap[q]? = some (.cells #[.bool false, .slice none 0 0, .slice none 0 0, .slice none 0 0, .slice none 0 0, .slice none 0 0] 28 (0, 0))) : W.cell? ⟨q, 0, none⟩ = some (.bool false) ∧ W.cell? ⟨q, 1, none⟩ = some (.slice none 0 0) ∧ W.cell? ⟨q, 2, none⟩ = some (.slice none 0 0) ∧ W.cell? ⟨q, 3, none⟩ = some (.slice none 0 0) ∧ W.cell? ⟨q, 4, none⟩ = some (.slice none 0 0) ∧ W.cell? ⟨q, 5, none⟩ = some (.slice none 0 0) := box_cells (x := Sv.zero) h
theorem rd_new (w : World) : RAt w w.heap.size Sv.zero Sp.zero 0 0 (w.alloc (.cells (rdC Sv.zero 0 0) 153)) :=
  ⟨low_alloc _ _, Nat.le_refl _, heap_alloc_new w _, rfl, Row.nil _ _ _ _ _, Row.nil _ _ _ _ _, Row.nil _ _ _ _ _, Row.nil _ _ _ _ _, Row.nil _ _ _ _ _⟩
theorem RAt.rows {w0 : World} {p : Nat} {x : Sv} {s : Sp} {n k : Nat} {W : World} (h : RAt w0 p x s n k W) : Rws w0.heap.size x s W := ⟨h.r, h.m1, h.m2, h.m3, h.m4, h.m5⟩

set_option maxHeartbeats 8000000 in
set_option maxRecDepth 20000 in
theorem parseT_any (t : ByteArray) (w : World) (hE : Env w) (hbig : t.size ≤ 9223372036854775807) :
    Calls Tryz.prog 42 #[.string t] w (ParsePost w t.data.toList) := by
  have hsz : t.data.toList.length = t.size := by rw [Array.length_toList]; rfl
  have hlo := low_alloc w (.cells Sv.zero.cs 28)
  have hblk : (w.alloc (.cells Sv.zero.cs 28)).heap[w.heap.size]? = some (.cells Sv.zero.cs 28 (0, 0)) := heap_alloc_new w _
  by_cases hL : 60000 < t.size
  case pos =>
    have hL2 : (60000 : Int) < (t.size : Int) := by omega
    have HP := hide (show parseP t.data.toList = (Sp.zero, 0, 3) by unfold parseP; rw [if_pos (by omega)])
    obtain ⟨z0, z1, z2, z3, z4, z5⟩ := box_cells hblk
    have HB := hide (put6_below hlo (Nat.le_refl _) Sv.zero)
    obtain ⟨g0, g1, g2, g3, g4, g5⟩ := box_cells (put6_box hblk Sv.zero)
    have HG := hide (And.intro g0 (And.intro g1 (And.intro g2 (And.intro g3 (And.intro g4 g5)))))
    clear hlo hblk hsz hE g0 g1 g2 g3 g4 g5
    go_enter Tryz.func42, Tryz.ntmps42
    go_wp2
    refine bodyPost_ret (v := .tuple #[.agg Sv.zero.cs, .int .i64 0, .int .i64 3]) (by simp [results, Tryz.results42, go_sem, Sv.zero]) rfl ?_
    refine ⟨Sv.zero, by rw [HP.out]; rfl, by rw [HP.out]; exact zero_at _, low_alloc _ _⟩
  have hL2 : ¬ (60000 : Int) < (t.size : Int) := by omega
  obtain ⟨l, xl, hl⟩ := cut_last2 10 t.data.toList
  have HP := hide (parseP_cut hl (by omega))
  obtain ⟨L, hLe⟩ : ∃ L, l.length = L := ⟨_, rfl⟩
  obtain ⟨m, hm⟩ := (hE.kept hlo).maxl
  have K := lines_any t m _ (by omega) hm l L xl hl hLe
  have hcl := cut_len (c := 10) t.data.toList
  have hct := List.count_le_length (a := 10) (l := t.data.toList)
  have HLL : Hid (L ≤ 60000 ∧ ∀ y ∈ l, y.length ≤ 60000) := by
    refine hide ⟨?_, fun y hy => ?_⟩
    · rw [hl, List.length_append, hLe, List.length_singleton] at hcl
      omega
    · have := cut_size t 10 y (by rw [hl]; exact List.mem_append_left _ hy)
      omega
  have HLE := hide hLe
  have HE := hide (hE.kept hlo)
  have HBLK := hide hblk
  have HLO := hide hlo
  have hL3 : L ≤ 60000 := HLL.out.1
  clear hl hm hE hblk hlo hLe hcl hct hsz
  obtain ⟨ended, hend⟩ : ∃ ended, xl.isEmpty = ended := ⟨_, rfl⟩
  rw [hend] at K
  have HEND := hide hend
  clear hend
  go_enter Tryz.func42, Tryz.ntmps42
  go_wp2_with fail
  refine K.mono ?_
  clear K
  rintro e w2 ⟨rfl, nq, hw2⟩
  have hlo2 := low_alloc (w.alloc (.cells Sv.zero.cs 28)) (.cells (tv (l ++ [xl])).toArray 9)
  have hb2 : Below (w.alloc (.cells Sv.zero.cs 28)).heap.size (w.alloc (.cells Sv.zero.cs 28)) w2 := by
    rw [hw2]
    exact hlo2.trans ⟨rfl, rfl, rfl, Nat.le_refl _, fun _ _ => rfl⟩
  have hsz1 : (w.alloc (.cells Sv.zero.cs 28)).heap.size = w.heap.size + 1 := alloc_size _ _
  have HLC : Hid (∀ i, i < L → w2.cell? ⟨w.heap.size + 1, i, none⟩ = some (.string ⟨(l.getD i []).toArray⟩)) := by
    refine hide fun i hi => ?_
    have h1 := tv_cell (w.alloc (.cells Sv.zero.cs 28)) (l ++ [xl]) i (by rw [List.length_append, HLE.out]; omega)
    rw [hsz1] at h1
    rw [hw2]
    show ((w.alloc (.cells Sv.zero.cs 28)).alloc (.cells (tv (l ++ [xl])).toArray 9)).cell? _ = _
    rw [h1, List.getD_eq_getElem?_getD, List.getD_eq_getElem?_getD, List.getElem?_append_left (by rw [HLE.out]; exact hi)]
  have hlt2 : w.heap.size + 1 < w2.heap.size := by
    rw [hw2]
    show w.heap.size + 1 < ((w.alloc (.cells Sv.zero.cs 28)).alloc (.cells (tv (l ++ [xl])).toArray 9)).heap.size
    rw [alloc_size, hsz1]
    omega
  have HBX2 : Hid (w2.heap[w.heap.size]? = some (.cells Sv.zero.cs 28 (0, 0))) := hide (by rw [hb2.block _ (by omega)]; exact HBLK.out)
  have HE2 := hide (HE.out.kept hb2)
  have HB2 := hide (HLO.out.trans (hb2.mono HLO.out.size))
  have HR0 := hide (rd_new w2)
  have hd1 : w.heap.size < w2.heap.size := by omega
  rw [hsz1]
  clear hw2 hlo2 hb2 hsz1 HBLK HLO HE
  go_wp2
  go_loopw [21] (fun i wr => ∃ (k : Nat) (x : Sv) (r : Rd), i = .int .i64 k ∧ k ≤ L ∧ Hid (runL rd0 (l.take k) = (r, true)) ∧ Hid (RAt w2 w2.heap.size x r.sp r.n r.k wr)) (fun i _ => L - (intOf i).toNat)
  case atStart => exact ⟨0, Sv.zero, rd0, rfl, Nat.zero_le _, hide rfl, HR0⟩
  case round =>
    clear HR0
    obtain ⟨k, x, r, rfl, hk, HRL, HX⟩ := hrel
    have hrn : r.n = k := by
      have h1 := (runL_sound (l.take k) rd0 rd0_inv).2 (by rw [HRL.out])
      have h2 := h1.2
      rw [HRL.out, List.length_take, HLE.out] at h2
      have h3 : rd0.n = 0 := rfl
      simp only at h2
      omega
    have hrk : r.k ≤ 6 := by
      have := runL_k (l.take k) rd0 (by decide)
      rw [HRL.out] at this
      exact this
    by_cases hlt : k < L
    · have hk0 : (0 : Int) ≤ (k : Int) := by omega
      have hk1 : (k : Int) < (L : Int) := by omega
      have hck := (bcell HX.out.bel hlt2).trans (HLC.out k hlt)
      have hkl : k < l.length := by rw [HLE.out]; exact hlt
      have hlen : (l.getD k []).length ≤ 60000 := mem_getD2 HLL.out.2 [] hkl
      have HST := hide (runL_step hkl HRL.out)
      have HSP := hide (fun h2 => runL_stop hkl HRL.out h2)
      have HRN := hide hrn
      generalize l.getD k [] = ln1 at hck hlen HST HSP
      have K := read_any w2 w2.heap.size x r.sp r.n r.k wr HX.out (HE2.out.kept HX.out.bel) ⟨ln1.toArray⟩ (by show ln1.toArray.size ≤ _; rw [List.size_toArray]; omega) (by omega) hrk
      rw [show (⟨ln1.toArray⟩ : ByteArray).data.toList = ln1 from rfl, show (⟨r.sp, r.n, r.k⟩ : Rd) = r from rfl] at K
      clear hkl hlen hrn hrk HX
      go_wp2_with fail
      refine K.mono ?_
      clear K
      intro e w3 ht
      cases hres : readL r ln1 with
      | none =>
        rw [hres] at ht
        have HF := hide (HSP.out hres)
        obtain ⟨rfl, x', s', hx⟩ := ht
        have HX := hide hx
        clear hx hres HSP HST
        have hbox : w3.heap[w.heap.size]? = some (.cells #[.bool false, .slice none 0 0, .slice none 0 0, .slice none 0 0, .slice none 0 0, .slice none 0 0] 28 (0, 0)) := by rw [HX.out.bel.block _ hd1]; exact HBX2.out
        obtain ⟨q0, q1, q2, q3, q4, q5⟩ := boxz_cells hbox
        have qf0 : w3.frozen? ⟨w.heap.size, 0, none⟩ = false := Lib.frozen_of_heap hbox 0
        have qf1 : w3.frozen? ⟨w.heap.size, 1, none⟩ = false := Lib.frozen_of_heap hbox 1
        have qf2 : w3.frozen? ⟨w.heap.size, 2, none⟩ = false := Lib.frozen_of_heap hbox 2
        have qf3 : w3.frozen? ⟨w.heap.size, 3, none⟩ = false := Lib.frozen_of_heap hbox 3
        have qf4 : w3.frozen? ⟨w.heap.size, 4, none⟩ = false := Lib.frozen_of_heap hbox 4
        have qf5 : w3.frozen? ⟨w.heap.size, 5, none⟩ = false := Lib.frozen_of_heap hbox 5
        have n6 : w3.cell? ⟨w2.heap.size, 6, none⟩ = some (.int .i64 r.n) := HX.out.cell 6
        have HB := hide (below_drew (putz_below (q := w.heap.size) (HB2.out.trans (HX.out.bel.mono HB2.out.size)) (Nat.le_refl w.heap.size)))
        have HGB := hide (boxz_cells (putz_box (W := w3) hbox))
        have hne : w2.heap.size ≠ w.heap.size := by omega
        have hne2 : w.heap.size ≠ w2.heap.size := by omega
        have hrb : r.n ≤ 100000 := by have := HRN.out; omega
        have hwr : IntKind.i64.wrap ((r.n : Int) + 1) = (r.n : Int) + 1 := by rw [IntKind.wrap_i64]; omega
        have HPE := hide (show parseP t.data.toList = (Sp.zero, r.n + 1, 2) by rw [HP.out]; unfold parseC; simp only [HF.out]; rfl)
        clear hbox HX HLC hlt2 HBX2 hne hne2 hd1
        go_wp2
        (try clear hck hk0 hk1 hlt)
        (try clear hL hL3 hk hrb hL2 hbig)
        go_region
        all_goals
          go_wp2
          (try simp only [Exit.inBlock, Exit.then])
          obtain ⟨g0, g1, g2, g3, g4, g5⟩ := HGB.out
          generalize ((((((w3.setCell ⟨w.heap.size, 0, none⟩ (.bool false)).setCell ⟨w.heap.size, 1, none⟩ (.slice none 0 0)).setCell ⟨w.heap.size, 2, none⟩ (.slice none 0 0)).setCell ⟨w.heap.size, 3, none⟩ (.slice none 0 0)).setCell ⟨w.heap.size, 4, none⟩ (.slice none 0 0)).setCell ⟨w.heap.size, 5, none⟩ (.slice none 0 0)) = w4 at HB HGB g0 g1 g2 g3 g4 g5 ⊢
          refine bodyPost_ret (v := .tuple #[.agg #[.bool false, .slice none 0 0, .slice none 0 0, .slice none 0 0, .slice none 0 0, .slice none 0 0], .int .i64 (r.n + 1 : Nat), .int .i64 2]) (by simp [results, Tryz.results42, go_sem, g0, g1, g2, g3, g4, g5]) rfl ?_
          exact ⟨Sv.zero, by rw [HPE.out]; rfl, by rw [HPE.out]; exact zero_at _, HB.out⟩
      | some r' =>
        rw [hres] at ht
        have HST2 := HST.out
        rw [hres] at HST2
        have HF := hide HST2
        obtain ⟨rfl, x', hx⟩ := ht
        have HX := hide hx
        clear hx hres HSP HST HST2
        go_wp2
        first
          | exact ⟨⟨k + 1, x', r', by go_num, by omega, HF, HX⟩, by simp [intOf]; omega⟩
          | (go_roundw
             case rel => exact ⟨k + 1, x', r', by go_num, by omega, HF, HX⟩
             case measure => simp [intOf]; omega)
    · have hkn : k = L := by omega
      have hfull : runL rd0 l = (r, true) := by have := HRL.out; rwa [List.take_of_length_le (by rw [HLE.out]; omega)] at this
      have HF := hide hfull
      have HRN := hide hrn
      clear hfull hlt hrn hrk hk
      subst hkn
      cases ended with
      | false =>
        have HXE : Hid (xl ≠ []) := hide (fun e => by have := HEND.out; rw [e] at this; cases this)
        have hbox : wr.heap[w.heap.size]? = some (.cells #[.bool false, .slice none 0 0, .slice none 0 0, .slice none 0 0, .slice none 0 0, .slice none 0 0] 28 (0, 0)) := by rw [HX.out.bel.block _ hd1]; exact HBX2.out
        obtain ⟨q0, q1, q2, q3, q4, q5⟩ := boxz_cells hbox
        have qf0 : wr.frozen? ⟨w.heap.size, 0, none⟩ = false := Lib.frozen_of_heap hbox 0
        have qf1 : wr.frozen? ⟨w.heap.size, 1, none⟩ = false := Lib.frozen_of_heap hbox 1
        have qf2 : wr.frozen? ⟨w.heap.size, 2, none⟩ = false := Lib.frozen_of_heap hbox 2
        have qf3 : wr.frozen? ⟨w.heap.size, 3, none⟩ = false := Lib.frozen_of_heap hbox 3
        have qf4 : wr.frozen? ⟨w.heap.size, 4, none⟩ = false := Lib.frozen_of_heap hbox 4
        have qf5 : wr.frozen? ⟨w.heap.size, 5, none⟩ = false := Lib.frozen_of_heap hbox 5
        have n6 : wr.cell? ⟨w2.heap.size, 6, none⟩ = some (.int .i64 r.n) := HX.out.cell 6
        have HB := hide (below_drew (putz_below (q := w.heap.size) (HB2.out.trans (HX.out.bel.mono HB2.out.size)) (Nat.le_refl w.heap.size)))
        have HGB := hide (boxz_cells (putz_box (W := wr) hbox))
        have hne : w2.heap.size ≠ w.heap.size := by omega
        have hne2 : w.heap.size ≠ w2.heap.size := by omega
        have hrb : r.n ≤ 100000 := by have := HRN.out; omega
        have hwr : IntKind.i64.wrap ((r.n : Int) + 1) = (r.n : Int) + 1 := by rw [IntKind.wrap_i64]; omega
        have HPE := hide (show parseP t.data.toList = (Sp.zero, r.n + 1, 2) by rw [HP.out]; unfold parseC; simp only [HF.out]; rw [if_neg (fun e => HXE.out e.2.1)])
        clear hbox HX HLC hlt2 HBX2 hne hne2 hd1
        go_wp2
        (try clear hck hk0 hk1 hlt)
        (try clear hL hL3 hrb hL2 hbig)
        go_region
        all_goals
          go_wp2
          (try simp only [Exit.inBlock, Exit.then])
          obtain ⟨g0, g1, g2, g3, g4, g5⟩ := HGB.out
          generalize ((((((wr.setCell ⟨w.heap.size, 0, none⟩ (.bool false)).setCell ⟨w.heap.size, 1, none⟩ (.slice none 0 0)).setCell ⟨w.heap.size, 2, none⟩ (.slice none 0 0)).setCell ⟨w.heap.size, 3, none⟩ (.slice none 0 0)).setCell ⟨w.heap.size, 4, none⟩ (.slice none 0 0)).setCell ⟨w.heap.size, 5, none⟩ (.slice none 0 0)) = w4 at HB HGB g0 g1 g2 g3 g4 g5 ⊢
          refine bodyPost_ret (v := .tuple #[.agg #[.bool false, .slice none 0 0, .slice none 0 0, .slice none 0 0, .slice none 0 0, .slice none 0 0], .int .i64 (r.n + 1 : Nat), .int .i64 2]) (by simp [results, Tryz.results42, go_sem, g0, g1, g2, g3, g4, g5]) rfl ?_
          exact ⟨Sv.zero, by rw [HPE.out]; rfl, by rw [HPE.out]; exact zero_at _, HB.out⟩
      | true =>
        have HXE : Hid (xl = []) := hide (by have := HEND.out; cases xl with | nil => rfl | cons a b => cases this)
        by_cases hr0 : r.n = 0
        · skip
          have hbox : wr.heap[w.heap.size]? = some (.cells #[.bool false, .slice none 0 0, .slice none 0 0, .slice none 0 0, .slice none 0 0, .slice none 0 0] 28 (0, 0)) := by rw [HX.out.bel.block _ hd1]; exact HBX2.out
          obtain ⟨q0, q1, q2, q3, q4, q5⟩ := boxz_cells hbox
          have qf0 : wr.frozen? ⟨w.heap.size, 0, none⟩ = false := Lib.frozen_of_heap hbox 0
          have qf1 : wr.frozen? ⟨w.heap.size, 1, none⟩ = false := Lib.frozen_of_heap hbox 1
          have qf2 : wr.frozen? ⟨w.heap.size, 2, none⟩ = false := Lib.frozen_of_heap hbox 2
          have qf3 : wr.frozen? ⟨w.heap.size, 3, none⟩ = false := Lib.frozen_of_heap hbox 3
          have qf4 : wr.frozen? ⟨w.heap.size, 4, none⟩ = false := Lib.frozen_of_heap hbox 4
          have qf5 : wr.frozen? ⟨w.heap.size, 5, none⟩ = false := Lib.frozen_of_heap hbox 5
          have n6 : wr.cell? ⟨w2.heap.size, 6, none⟩ = some (.int .i64 0) := (HX.out.cell 6).trans (by show some (Value.int .i64 (r.n : Int)) = _; rw [hr0]; rfl)
          have HB := hide (below_drew (putz_below (q := w.heap.size) (HB2.out.trans (HX.out.bel.mono HB2.out.size)) (Nat.le_refl w.heap.size)))
          have HGB := hide (boxz_cells (putz_box (W := wr) hbox))
          have hne : w2.heap.size ≠ w.heap.size := by omega
          have hne2 : w.heap.size ≠ w2.heap.size := by omega
          have HPE := hide (show parseP t.data.toList = (Sp.zero, 1, 2) by rw [HP.out]; unfold parseC; simp only [HF.out]; rw [if_neg (fun e => e.2.2 hr0), hr0])
          clear hbox HX HLC hlt2 HBX2 hne hne2 hd1 hr0
          go_wp2
          (try clear hck hk0 hk1 hlt)
          (try clear hL hL3 hL2 hbig)
          go_region
          all_goals
            go_wp2
            (try simp only [Exit.inBlock, Exit.then])
            obtain ⟨g0, g1, g2, g3, g4, g5⟩ := HGB.out
            generalize ((((((wr.setCell ⟨w.heap.size, 0, none⟩ (.bool false)).setCell ⟨w.heap.size, 1, none⟩ (.slice none 0 0)).setCell ⟨w.heap.size, 2, none⟩ (.slice none 0 0)).setCell ⟨w.heap.size, 3, none⟩ (.slice none 0 0)).setCell ⟨w.heap.size, 4, none⟩ (.slice none 0 0)).setCell ⟨w.heap.size, 5, none⟩ (.slice none 0 0)) = w4 at HB HGB g0 g1 g2 g3 g4 g5 ⊢
            refine bodyPost_ret (v := .tuple #[.agg #[.bool false, .slice none 0 0, .slice none 0 0, .slice none 0 0, .slice none 0 0, .slice none 0 0], .int .i64 1, .int .i64 2]) (by simp [results, Tryz.results42, go_sem, g0, g1, g2, g3, g4, g5]) rfl ?_
            exact ⟨Sv.zero, by rw [HPE.out]; rfl, by rw [HPE.out]; exact zero_at _, HB.out⟩
        · have hr0i : ((r.n : Int) == 0) = false := by simpa using hr0
          have hbox : wr.heap[w.heap.size]? = some (.cells #[.bool false, .slice none 0 0, .slice none 0 0, .slice none 0 0, .slice none 0 0, .slice none 0 0] 28 (0, 0)) := by rw [HX.out.bel.block _ hd1]; exact HBX2.out
          obtain ⟨q0, q1, q2, q3, q4, q5⟩ := boxz_cells hbox
          have qf0 : wr.frozen? ⟨w.heap.size, 0, none⟩ = false := Lib.frozen_of_heap hbox 0
          have qf1 : wr.frozen? ⟨w.heap.size, 1, none⟩ = false := Lib.frozen_of_heap hbox 1
          have qf2 : wr.frozen? ⟨w.heap.size, 2, none⟩ = false := Lib.frozen_of_heap hbox 2
          have qf3 : wr.frozen? ⟨w.heap.size, 3, none⟩ = false := Lib.frozen_of_heap hbox 3
          have qf4 : wr.frozen? ⟨w.heap.size, 4, none⟩ = false := Lib.frozen_of_heap hbox 4
          have qf5 : wr.frozen? ⟨w.heap.size, 5, none⟩ = false := Lib.frozen_of_heap hbox 5
          have p0 : wr.cell? ⟨w2.heap.size, 0, none⟩ = some (.bool x.r) := HX.out.cell 0
          have p1 : wr.cell? ⟨w2.heap.size, 1, none⟩ = some (.slice x.a1 x.n1 x.c1) := HX.out.cell 1
          have p2 : wr.cell? ⟨w2.heap.size, 2, none⟩ = some (.slice x.a2 x.n2 x.c2) := HX.out.cell 2
          have p3 : wr.cell? ⟨w2.heap.size, 3, none⟩ = some (.slice x.a3 x.n3 x.c3) := HX.out.cell 3
          have p4 : wr.cell? ⟨w2.heap.size, 4, none⟩ = some (.slice x.a4 x.n4 x.c4) := HX.out.cell 4
          have p5 : wr.cell? ⟨w2.heap.size, 5, none⟩ = some (.slice x.a5 x.n5 x.c5) := HX.out.cell 5
          have n6 : wr.cell? ⟨w2.heap.size, 6, none⟩ = some (.int .i64 r.n) := HX.out.cell 6
          have HB : Hid (Below w.heap.size w ((((((wr.setCell ⟨w.heap.size, 0, none⟩ (.bool x.r)).setCell ⟨w.heap.size, 1, none⟩ (.slice x.a1 x.n1 x.c1)).setCell ⟨w.heap.size, 2, none⟩ (.slice x.a2 x.n2 x.c2)).setCell ⟨w.heap.size, 3, none⟩ (.slice x.a3 x.n3 x.c3)).setCell ⟨w.heap.size, 4, none⟩ (.slice x.a4 x.n4 x.c4)).setCell ⟨w.heap.size, 5, none⟩ (.slice x.a5 x.n5 x.c5))) := hide (put6_below (q := w.heap.size) (HB2.out.trans (HX.out.bel.mono HB2.out.size)) (Nat.le_refl w.heap.size) x)
          have HGB : Hid (BxS w.heap.size x ((((((wr.setCell ⟨w.heap.size, 0, none⟩ (.bool x.r)).setCell ⟨w.heap.size, 1, none⟩ (.slice x.a1 x.n1 x.c1)).setCell ⟨w.heap.size, 2, none⟩ (.slice x.a2 x.n2 x.c2)).setCell ⟨w.heap.size, 3, none⟩ (.slice x.a3 x.n3 x.c3)).setCell ⟨w.heap.size, 4, none⟩ (.slice x.a4 x.n4 x.c4)).setCell ⟨w.heap.size, 5, none⟩ (.slice x.a5 x.n5 x.c5))) := hide (box_cells (put6_box (W := wr) (y := Sv.zero) hbox x))
          have HSP : Hid (SpAt ((((((wr.setCell ⟨w.heap.size, 0, none⟩ (.bool x.r)).setCell ⟨w.heap.size, 1, none⟩ (.slice x.a1 x.n1 x.c1)).setCell ⟨w.heap.size, 2, none⟩ (.slice x.a2 x.n2 x.c2)).setCell ⟨w.heap.size, 3, none⟩ (.slice x.a3 x.n3 x.c3)).setCell ⟨w.heap.size, 4, none⟩ (.slice x.a4 x.n4 x.c4)).setCell ⟨w.heap.size, 5, none⟩ (.slice x.a5 x.n5 x.c5)) x r.sp) := hide (put6_rows (x := x) (y := Sv.zero) hbox HX.out.rows).spec
          have HPE := hide (show parseP t.data.toList = (r.sp, 0, 0) by rw [HP.out]; unfold parseC; simp only [HF.out]; rw [if_pos ⟨trivial, HXE.out, hr0⟩])
          have HR0 := hide hr0
          clear hbox HX HLC hlt2 HBX2 hd1 hr0
          go_wp2
          obtain ⟨g0, g1, g2, g3, g4, g5⟩ := HGB.out
          generalize ((((((wr.setCell ⟨w.heap.size, 0, none⟩ (.bool x.r)).setCell ⟨w.heap.size, 1, none⟩ (.slice x.a1 x.n1 x.c1)).setCell ⟨w.heap.size, 2, none⟩ (.slice x.a2 x.n2 x.c2)).setCell ⟨w.heap.size, 3, none⟩ (.slice x.a3 x.n3 x.c3)).setCell ⟨w.heap.size, 4, none⟩ (.slice x.a4 x.n4 x.c4)).setCell ⟨w.heap.size, 5, none⟩ (.slice x.a5 x.n5 x.c5)) = w4 at HB HGB HSP g0 g1 g2 g3 g4 g5 ⊢
          refine bodyPost_ret (v := .tuple #[.agg x.cs, .int .i64 0, .int .i64 0]) (by simp [results, Tryz.results42, go_sem, g0, g1, g2, g3, g4, g5]) rfl ?_
          exact ⟨x, by rw [HPE.out]; rfl, by rw [HPE.out]; exact HSP.out, HB.out⟩
end Go.Proofs.YtoihocbnhoniaaaGreatDoor.Wf
