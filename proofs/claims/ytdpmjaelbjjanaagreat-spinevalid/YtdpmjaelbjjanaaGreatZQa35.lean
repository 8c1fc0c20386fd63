/- What is made of items: the plain mathematics. The items of a text are right, and no more than its bytes. Two rows that grow side by side: numbers, and a row of another kind. -/
import Derived.Test.YtdpmjaelbjjanaaGreatZQa24
import Derived.Test.YtdpmjaelbjjanaaGreatZQa10
import Derived.Test.YtdpmjaelbjjanaaGreatZQa31
import Derived.Test.YtdpmjaelbjjanaaGreatZQa30
namespace Go.Proofs.YtdpmjaelbjjanaaGreat
set_option linter.unusedVariables false
set_option linter.unusedSimpArgs false

/-- Runs: a list is cut between two that are told. -/
def hdE {α : Type} (a : α) : List (List α) → List (List α)
  | [] => [[a]]
  | p :: r => (a :: p) :: r
def rns {α : Type} (c : α → α → Bool) : List α → List (List α)
  | [] => []
  | [a] => [[a]]
  | a :: b :: l => if c a b = true then [a] :: rns c (b :: l) else hdE a (rns c (b :: l))

section
variable {α : Type} {c : α → α → Bool}
theorem rns_ne : ∀ (l : List α), ∀ p ∈ rns c l, p ≠ []
  | [], p, h => by simp [rns] at h
  | [a], p, h => by simp [rns] at h; subst h; simp
  | a :: b :: l, p, h => by
    have ih := rns_ne (b :: l)
    rw [rns] at h
    split at h
    · rcases List.mem_cons.1 h with rfl | h
      · simp
      · exact ih p h
    · cases hg : rns c (b :: l) with
      | nil => rw [hg] at h; simp [hdE] at h; subst h; simp
      | cons x r =>
        rw [hg] at h ih
        rcases List.mem_cons.1 h with rfl | h
        · simp
        · exact ih p (List.mem_cons_of_mem _ h)
theorem rns_nil_iff : ∀ (l : List α), rns c l = [] → l = []
  | [], _ => rfl
  | [a], h => by simp [rns] at h
  | a :: b :: l, h => by
    rw [rns] at h
    split at h
    · simp at h
    · cases hg : rns c (b :: l) <;> rw [hg] at h <;> simp [hdE] at h
theorem rns_flat : ∀ (l : List α), (rns c l).flatten = l
  | [] => rfl
  | [a] => rfl
  | a :: b :: l => by
    have ih := rns_flat (b :: l)
    rw [rns]
    split
    · simp [ih]
    · cases hg : rns c (b :: l) with
      | nil => rw [hg] at ih; simp at ih
      | cons x r => rw [hg] at ih; simp only [hdE, List.flatten_cons, List.cons_append] at ih ⊢; rw [ih]
/-- Cut between the last one of a list and the first one of another: the runs are both's. -/
theorem rns_cut : ∀ (l1 : List α) (x y : α) (l2 : List α), c x y = true → rns c (l1 ++ x :: y :: l2) = rns c (l1 ++ [x]) ++ rns c (y :: l2)
  | [], x, y, l2, h => by simp [rns, h]
  | [a], x, y, l2, h => by
    have ih := rns_cut [] x y l2 h
    simp only [List.nil_append] at ih
    simp only [List.cons_append, List.nil_append, rns] at ih ⊢
    rw [if_pos h]
    split
    · simp
    · simp [hdE]
  | a :: b :: l1, x, y, l2, h => by
    have ih := rns_cut (b :: l1) x y l2 h
    simp only [List.cons_append] at ih ⊢
    rw [rns, rns, ih]
    split
    · simp
    · cases hg : rns c (b :: (l1 ++ [x])) with
      | nil => have := rns_nil_iff _ hg; simp at this
      | cons p r => simp [hdE]
/-- Not cut: the last run gets one more. -/
theorem rns_join : ∀ (l1 : List α) (x y : α), c x y = false → rns c (l1 ++ [x, y]) = (rns c (l1 ++ [x])).dropLast ++ [(rns c (l1 ++ [x])).getLastD [] ++ [y]]
  | [], x, y, h => by simp [rns, h, hdE]
  | [a], x, y, h => by
    simp only [List.cons_append, List.nil_append, rns, h]
    cases hc : c a x <;> simp [hdE]
  | a :: b :: l1, x, y, h => by
    have ih := rns_join (b :: l1) x y h
    simp only [List.cons_append] at ih ⊢
    rw [rns, rns, ih]
    cases hg : rns c (b :: (l1 ++ [x])) with
    | nil => have := rns_nil_iff _ hg; simp at this
    | cons p r =>
      cases hc : c a b with
      | true => cases r <;> simp
      | false =>
        cases r with
        | nil => simp [hdE]
        | cons p2 r2 => simp [hdE]
theorem rns_map {β : Type} (f : β → α) : ∀ (l : List β), rns c (l.map f) = (rns (fun a b => c (f a) (f b)) l).map (List.map f)
  | [] => rfl
  | [a] => rfl
  | a :: b :: l => by
    have ih := rns_map f (b :: l)
    simp only [List.map_cons] at ih ⊢
    rw [rns, rns, ih]
    split
    · simp
    · cases rns (fun a b => c (f a) (f b)) (b :: l) <;> simp [hdE]
/-- In a run nothing is cut. -/
theorem rns_in : ∀ (l : List α), ∀ p ∈ rns c l, ∀ (u : List α) (x y : α) (v : List α), p = u ++ x :: y :: v → c x y = false
  | [], p, h, _, _, _, _, _ => by simp [rns] at h
  | [a], p, h, u, x, y, v, e => by
    simp [rns] at h
    subst h
    have := congrArg List.length e
    simp at this
    omega
  | a :: b :: l, p, h, u, x, y, v, e => by
    have ih := rns_in (b :: l)
    have hfl := rns_flat (c := c) (b :: l)
    rw [rns] at h
    split at h
    · rcases List.mem_cons.1 h with rfl | h
      · have := congrArg List.length e
        simp at this
        omega
      · exact ih p h u x y v e
    · rename_i hn
      cases hg : rns c (b :: l) with
      | nil => rw [hg] at hfl; simp at hfl
      | cons p1 r =>
        rw [hg] at h ih hfl
        rcases List.mem_cons.1 h with rfl | h
        · have hp1 : p1 ≠ [] := rns_ne (b :: l) p1 (by rw [hg]; simp)
          cases p1 with
          | nil => simp at hp1
          | cons z p2 =>
            have hz : z = b := by simp at hfl; exact hfl.1
            subst hz
            cases u with
            | nil =>
              simp only [List.nil_append, List.cons.injEq] at e
              obtain ⟨rfl, rfl, _⟩ := e
              simpa using hn
            | cons u0 u1 =>
              simp only [List.cons_append, List.cons.injEq] at e
              exact ih _ (by simp) u1 x y v e.2
        · exact ih p (List.mem_cons_of_mem _ h) u x y v e
end

section
variable (q : Int → Int → Bool) (mg : List (Int × Int)) (bl : Int) (L : List (Int × ByteArray))
theorem pc_rns (s : List UInt8) : ∀ i, i ≤ s.length → Wf.Bq.pc q s i = rns (fun a b => q (a.toNat : Int) (b.toNat : Int)) (s.take i)
  | 0, _ => by simp [Wf.Bq.pc, rns]
  | i + 1, h => by
    have hi : i < s.length := by omega
    have ih := pc_rns s i (by omega)
    have hg : s.getD i 0 = s[i] := by rw [List.getD_eq_getElem?_getD, List.getElem?_eq_getElem hi]; rfl
    rw [Wf.Bq.pc, ih, List.take_succ_eq_append_getElem hi, hg]
    by_cases h0 : i = 0
    · subst h0
      simp [rns]
    · obtain ⟨k, rfl⟩ : ∃ k, i = k + 1 := ⟨i - 1, by omega⟩
      have hk : k < s.length := by omega
      have hgk : s.getD (k + 1 - 1) 0 = s[k] := by rw [Nat.add_sub_cancel, List.getD_eq_getElem?_getD, List.getElem?_eq_getElem hk]; rfl
      rw [List.take_succ_eq_append_getElem hk]
      cases hq : q (s[k].toNat : Int) (s[k + 1].toNat : Int) with
      | true =>
        rw [if_pos (Or.inr (by unfold Wf.Bq.qa; rw [hgk, hg]; exact hq))]
        rw [List.append_assoc]
        exact (rns_cut (c := fun (a b : UInt8) => q (a.toNat : Int) (b.toNat : Int)) (s.take k) s[k] s[k + 1] [] hq).symm
      | false =>
        rw [if_neg (by unfold Wf.Bq.qa; rw [hgk, hg, hq]; simp)]
        rw [List.append_assoc]
        exact (rns_join (c := fun (a b : UInt8) => q (a.toNat : Int) (b.toNat : Int)) (s.take k) s[k] s[k + 1] hq).symm
theorem pcs_rns (s : List UInt8) : Wf.Bq.pcs q s = rns (fun a b => q (a.toNat : Int) (b.toNat : Int)) s := by
  unfold Wf.Bq.pcs
  rw [pc_rns q s s.length (Nat.le_refl _), List.take_length]

/-- What is made of a run of bytes; a mark's number; what is made of items, behind a run that is open. -/
def pcE (run : List UInt8) : List Int := (Wf.Bq.pcs q run).flatMap (fun p => made mg bl ⟨p.toArray⟩)
def idE (x : Int) : Int := (Mk.gS L (-1 - x).toNat).1
def u8E (x : Int) : UInt8 := UInt8.ofNat x.toNat
def encF : List UInt8 → List Int → List Int
  | run, [] => pcE q mg bl run
  | run, x :: r => if 0 ≤ x then encF (run ++ [u8E x]) r else pcE q mg bl run ++ (idE L x :: encF [] r)
/-- Items are cut at marks, and where bytes are. -/
def icE (a b : Int) : Bool := decide (a < 0) || decide (b < 0) || q a b
def bsE (p : List Int) : ByteArray := ⟨(p.map u8E).toArray⟩
def mk1E (p : List Int) : List Int := if p.getD 0 0 < 0 then [idE L (p.getD 0 0)] else made mg bl (bsE p)
/-- What is made of items, piece by piece. -/
def encG (I : List Int) : List Int := (rns (icE q) I).flatMap (mk1E mg bl L)
def itE (run : List UInt8) : List Int := run.map (fun b => (b.toNat : Int))

theorem u8E_it (b : UInt8) : u8E (b.toNat : Int) = b := by
  unfold u8E
  simp
theorem u8E_val {x : Int} (h0 : 0 ≤ x) (h1 : x < 256) : ((u8E x).toNat : Int) = x := by
  unfold u8E
  have : x.toNat < 256 := by omega
  simp [Nat.mod_eq_of_lt this]
  omega
theorem bsE_it (run : List UInt8) : bsE (itE run) = ⟨run.toArray⟩ := by
  unfold bsE itE
  rw [List.map_map]
  congr 2
  conv => rhs; rw [← List.map_id run]
  exact List.map_congr_left (fun x _ => u8E_it x)
theorem rns_it (run : List UInt8) : rns (icE q) (itE run) = (Wf.Bq.pcs q run).map itE := by
  rw [pcs_rns]
  unfold itE
  rw [rns_map]
  congr 1
theorem mk1E_it {p : List UInt8} : mk1E mg bl L (itE p) = made mg bl ⟨p.toArray⟩ := by
  unfold mk1E
  rw [if_neg, bsE_it]
  cases p <;> simp [itE]
theorem encG_it (run : List UInt8) : encG q mg bl L (itE run) = pcE q mg bl run := by
  unfold encG pcE
  rw [rns_it, List.flatMap_map]
  congr 1
  funext p
  exact mk1E_it mg bl L
theorem rns_mark (run : List UInt8) (x : Int) (hx : x < 0) (r : List Int) : rns (icE q) (itE run ++ x :: r) = rns (icE q) (itE run) ++ [x] :: rns (icE q) r := by
  have h2 : rns (icE q) (x :: r) = [x] :: rns (icE q) r := by
    cases r with
    | nil => rfl
    | cons y r => rw [rns, if_pos (by unfold icE; rw [decide_eq_true hx]; simp)]
  rcases List.eq_nil_or_concat run with rfl | ⟨u, b, rfl⟩
  · simpa [itE, rns] using h2
  · have e : itE (u ++ [b]) = itE u ++ [(b.toNat : Int)] := by simp [itE]
    rw [List.concat_eq_append] at *
    rw [e, List.append_assoc]
    simp only [List.cons_append, List.nil_append]
    rw [rns_cut (c := icE q) (itE u) (b.toNat : Int) x r (by unfold icE; rw [decide_eq_true hx]; simp), h2]
theorem encF_eq : ∀ (I : List Int) (run : List UInt8), (∀ x ∈ I, x < 256) → encF q mg bl L run I = encG q mg bl L (itE run ++ I)
  | [], run, _ => by rw [encF, List.append_nil, encG_it]
  | x :: r, run, h => by
    rw [encF]
    split
    · rename_i h0
      rw [encF_eq r _ (fun y hy => h y (List.mem_cons_of_mem _ hy))]
      have e : itE (run ++ [u8E x]) = itE run ++ [x] := by simp [itE, u8E_val h0 (h x (by simp))]
      rw [e, List.append_assoc]
      rfl
    · rename_i h0
      have hx : x < 0 := by omega
      rw [encF_eq r _ (fun y hy => h y (List.mem_cons_of_mem _ hy))]
      unfold encG
      rw [rns_mark q run x hx r, List.flatMap_append, List.flatMap_cons]
      have e1 := encG_it q mg bl L run
      unfold encG at e1
      rw [e1]
      have e2 : mk1E mg bl L [x] = [idE L x] := by
        unfold mk1E
        rw [if_pos (by simpa using hx)]
        rfl
      rw [e2]
      simp [itE]
end
end Go.Proofs.YtdpmjaelbjjanaaGreat

namespace Go.Proofs.YtdpmjaelbjjanaaGreat
set_option linter.unusedVariables false
set_option linter.unusedSimpArgs false

end Go.Proofs.YtdpmjaelbjjanaaGreat

namespace Go.Proofs.YtdpmjaelbjjanaaGreat
open Go.RowKit Go.Maps
set_option linter.unusedVariables false
set_option linter.unusedSimpArgs false

/-- Two rows don't share a block. -/
def Apart (v1 v2 : Value) : Prop := ∀ k, v1.ownBlock = some k → v2.ownBlock ≠ some k
theorem Apart.symm {v1 v2 : Value} (h : Apart v1 v2) : Apart v2 v1 := fun k h2 h1 => h k h1 h2
theorem apart_or {v1 v2 : Value} (h : Apart v1 v2) : v2.ownBlock = none ∨ v2.ownBlock ≠ v1.ownBlock := by
  cases e : v2.ownBlock with
  | none => exact Or.inl rfl
  | some k => exact Or.inr (fun e2 => h k e2.symm e)

/-- A number is put behind others; another row is as it was. -/
theorem app_numE {E2 : TypeId} (W : World) (base : Nat) (a1 : Option Addr) (n1 c1 n2 : Nat) (v2 : Value) (l1 : List Int) (X2 : List Value) (x : Int) (h1 : W.ownsRow base 3 1 (.slice a1 n1 c1) n1 (Mk.iv l1)) (h2 : W.ownsRow base E2 1 v2 n2 X2) (hd : Apart (.slice a1 n1 c1) v2) (hn : n1 ≤ 1000000) (hb : base ≤ W.heap.size) :
    ∃ g cap1 w1, (Builtin.append_ #[41, 41] 41 #[.slice a1 n1 c1, .slice (some ⟨W.heap.size, 0, none⟩) 1 1]).run Tryz.prog (W.alloc (.cells #[.int .i64 x] 3)) = .ok (.slice (some ⟨g, 0, none⟩) (n1 + 1) cap1) w1 ∧
      w1.ownsRow base 3 1 (.slice (some ⟨g, 0, none⟩) (n1 + 1) cap1) (n1 + 1) (Mk.iv (l1 ++ [x])) ∧ w1.ownsRow base E2 1 v2 n2 X2 ∧ Apart (.slice (some ⟨g, 0, none⟩) (n1 + 1) cap1) v2 ∧ Below base W w1 := by
  obtain ⟨i0, hi, hz0, hz1, hz2⟩ := info_parts Mk.info_int
  obtain ⟨g, cap1, w1, hrun, hown, hgrow, hg, _⟩ := run_append_lies (P := Tryz.prog) (W.alloc (.cells #[.int .i64 x] 3)) 41 41 base 3 i0 _ 1 8 Tryz.underlying41 hi hz0 hz1 hz2 rfl (by omega) (.slice a1 n1 c1) n1 (Mk.iv l1) (h1.alloc _) ⟨W.heap.size, 0, none⟩ 1 1 [.int .i64 x] rfl (World.news_of_block (heap_alloc_new W _)) (by simp [Value.oneCell']) (by omega) (by unfold maxLen; omega) (by omega) (by simp; omega) (W.heap.size + 1) (by simp)
  refine ⟨g, cap1, w1, hrun, by rw [Mk.iv_append]; exact hown, (h2.alloc _).kept hgrow (apart_or hd), fun k hk e2 => ?_, ?_⟩
  · obtain rfl : g = k := by simpa [Value.ownBlock] using hk
    rcases hg with hg | hg
    · exact hd g hg e2
    · have := (h2.lt g e2).2
      omega
  · have h3 : Below base W (W.alloc (.cells #[.int .i64 x] 3)) := (Mk.low1 W _).mono hb
    exact h3.trans ⟨hgrow.os, hgrow.tape, hgrow.output, hgrow.size, fun k hk => hgrow.block k (by simp; omega) (fun e => by have := (h1.lt k e.symm).1; omega)⟩
/-- Numbers are put behind others; another row is as it was. -/
theorem app_numsE {E2 : TypeId} (w : World) (B1 B2 : Nat) (a1 a2 : Option Addr) (n1 n2 c1 c2 n3 : Nat) (v3 : Value) (l1 l2 : List Int) (X3 : List Value) (h1 : w.ownsRow B1 3 1 (.slice a1 n1 c1) n1 (Mk.iv l1)) (h2 : w.ownsRow B2 3 1 (.slice a2 n2 c2) n2 (Mk.iv l2)) (h3 : w.ownsRow B1 E2 1 v3 n3 X3) (hd : Apart (.slice a1 n1 c1) v3) (hn1 : n1 ≤ 1000000) (hn2 : n2 ≤ 1000000) (h0 : 0 < n2) (hb : B1 ≤ w.heap.size) :
    ∃ g cap w1, (Builtin.append_ #[41, 41] 41 #[.slice a1 n1 c1, .slice a2 n2 c2]).run Tryz.prog w = .ok (.slice (some ⟨g, 0, none⟩) (n1 + n2) cap) w1 ∧ w1.ownsRow B1 3 1 (.slice (some ⟨g, 0, none⟩) (n1 + n2) cap) (n1 + n2) (Mk.iv (l1 ++ l2)) ∧ w1.ownsRow B1 E2 1 v3 n3 X3 ∧ Apart (.slice (some ⟨g, 0, none⟩) (n1 + n2) cap) v3 ∧ Below B1 w w1 := by
  obtain ⟨i0, hi, hz0, hz1, hz2⟩ := info_parts Mk.info_int
  obtain ⟨g2, c2', hv, _, _⟩ := h2.form (by omega)
  simp only [Value.slice.injEq] at hv
  obtain ⟨rfl, _, rfl⟩ := hv
  obtain ⟨g, cap1, w1, hrun, hown, hgrow, hg, _⟩ := run_append_lies (P := Tryz.prog) w 41 41 B1 3 i0 _ 1 8 Tryz.underlying41 hi hz0 hz1 hz2 rfl (by omega) (.slice a1 n1 c1) n1 (Mk.iv l1) h1 ⟨g2, 0, none⟩ n2 c2 (Mk.iv l2) h2.1 (fun j u hu => h2.cells (g := g2) rfl j u hu) (by simp [Mk.iv, Value.oneCell']) (by omega) (by unfold maxLen; omega) (by omega) hb w.heap.size rfl
  refine ⟨g, cap1, w1, hrun, by rw [Mk.iv_append]; exact hown, h3.kept hgrow (apart_or hd), fun k hk e2 => ?_, ?_⟩
  · obtain rfl : g = k := by simpa [Value.ownBlock] using hk
    rcases hg with hg | hg
    · exact hd g hg e2
    · have := (h3.lt g e2).2
      omega
  · exact ⟨hgrow.os, hgrow.tape, hgrow.output, hgrow.size, fun k hk => hgrow.block k (by omega) (fun e => by have := (h1.lt k e.symm).1; omega)⟩
/-- A byte is put behind others; another row is as it was. -/
theorem app_byteE {E2 : TypeId} (w : World) (base : Nat) (ao : Option Addr) (n cap n2 : Nat) (v2 : Value) (xs : List UInt8) (X2 : List Value) (x : Int) (hx0 : 0 ≤ x) (hx1 : x < 256) (h : w.ownsRow base 5 1 (.slice ao n cap) n (Lib.byteCells xs)) (h2 : w.ownsRow base E2 1 v2 n2 X2) (hd : Apart (.slice ao n cap) v2) (hn : n ≤ 1000000000) (hb : base ≤ w.heap.size) :
    ∃ g cap1 w1, (Builtin.append_ #[140, 140] 140 #[.slice ao n cap, .slice (some ⟨w.heap.size, 0, none⟩) 1 1]).run Tryz.prog (w.alloc (.cells #[.int .u8 x] 5)) = .ok (.slice (some ⟨g, 0, none⟩) (n + 1) cap1) w1 ∧ w1.ownsRow base 5 1 (.slice (some ⟨g, 0, none⟩) (n + 1) cap1) (n + 1) (Lib.byteCells (xs ++ [u8E x])) ∧ w1.ownsRow base E2 1 v2 n2 X2 ∧ Apart (.slice (some ⟨g, 0, none⟩) (n + 1) cap1) v2 ∧ Below base w w1 := by
  obtain ⟨i0, hi, hz0, hz1, hz2⟩ := info_parts Mk.info_byte
  obtain ⟨g, cap1, w1, hrun, hown, hgrow, hg, _⟩ := run_append_lies (P := Tryz.prog) (w.alloc (.cells #[.int .u8 x] 5)) 140 140 base 5 i0 _ 1 1 Tryz.underlying140 hi hz0 hz1 hz2 rfl (by omega) (.slice ao n cap) n (Lib.byteCells xs) (h.alloc _) ⟨w.heap.size, 0, none⟩ 1 1 [.int .u8 x] rfl (World.news_of_block (heap_alloc_new w _)) (by simp [Value.oneCell']) (by omega) (by unfold maxLen; omega) (by omega) (by simp; omega) (w.heap.size + 1) (by simp)
  refine ⟨g, cap1, w1, hrun, by rw [show u8E x = UInt8.ofNat x.toNat from rfl, Lib.byteCells_append, Mk.byte_cells hx0 hx1]; exact hown, (h2.alloc _).kept hgrow (apart_or hd), fun k hk e2 => ?_, ?_⟩
  · obtain rfl : g = k := by simpa [Value.ownBlock] using hk
    rcases hg with hg | hg
    · exact hd g hg e2
    · have := (h2.lt g e2).2
      omega
  · have h1 : Below base w (w.alloc (.cells #[.int .u8 x] 5)) := (Mk.low1 w _).mono hb
    exact h1.trans ⟨hgrow.os, hgrow.tape, hgrow.output, hgrow.size, fun k hk => hgrow.block k (by simp; omega) (fun e => by have := (h.lt k e.symm).1; omega)⟩
end Go.Proofs.YtdpmjaelbjjanaaGreat
