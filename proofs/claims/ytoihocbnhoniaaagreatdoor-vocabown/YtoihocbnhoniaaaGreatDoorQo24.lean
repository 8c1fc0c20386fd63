/- Rows of tokens: what holds from step to step. -/
import Derived.Test.YtoihocbnhoniaaaGreatDoorQo23
namespace Go.Proofs.YtoihocbnhoniaaaGreatDoor
open Go.RowKit Go.Maps
set_option linter.unusedVariables false
set_option linter.unusedSimpArgs false

/-- Two that were to become one when they were put into the heap. -/
def Ent (tx : List ByteArray) (mg : List (Int × Int)) (bl : Int) (n : Nat) (e : Hq.It) : Prop :=
  ∃ i j K : Nat, e.x1 = i ∧ e.x2 = j ∧ e.p = i ∧ e.r = 256 + K ∧ K < mg.length ∧ 256 + (K : Int) < bl ∧ gm mg K = (e.x3, e.x4) ∧ j = i + sz tx e.x3 ∧ i < j ∧ j < n

structure StI (tx : List ByteArray) (mg : List (Int × Int)) (bl : Int) (ps : List Pt) (T : List Int) (l : List Hq.It) : Prop where
  lay : Lay tx ps ps.length (-1) 0 T
  e1 : ∀ e ∈ l, Ent tx mg bl ps.length e
  e2 : ∀ u a b v, T = u ++ a :: b :: v → ∀ K : Nat, K < mg.length → 256 + (K : Int) < bl → gm mg K = (a, b) → ∃ e ∈ l, e.r = 256 + K ∧ e.p = pos tx u

def rnds (mg : List (Int × Int)) (bl : Int) : Nat := min mg.length (bl - 256).toNat
theorem rnds_lt {mg : List (Int × Int)} {bl : Int} {K : Nat} : K < rnds mg bl ↔ K < mg.length ∧ 256 + (K : Int) < bl := by
  unfold rnds
  omega

theorem AwR.sub {mg : List (Int × Int)} {bl : Int} {ps : List Pt} {L R tn tn' : Int} {l l' : List Hq.It} (h : AwR mg bl ps L R tn l tn' l') : ∀ e ∈ l, e ∈ l' := by
  rcases h with ⟨_, _, rfl⟩ | ⟨i, j, _, _, _, _, ⟨_, rfl, _⟩ | ⟨k, _, _, _, _, hp⟩⟩
  · exact fun e he => he
  · exact fun e he => he
  · exact fun e he => hp.mem_iff.2 (List.mem_cons_of_mem _ he)
theorem AwR.mem {mg : List (Int × Int)} {bl : Int} {ps : List Pt} {L R tn tn' : Int} {l l' : List Hq.It} (h : AwR mg bl ps L R tn l tn' l') : ∀ e ∈ l', e ∈ l ∨ ∃ i j k : Nat, L = i ∧ R = j ∧ i < ps.length ∧ j < ps.length ∧ k < mg.length ∧ 256 + (k : Int) < bl ∧ gm mg k = ((gp ps i).id, (gp ps j).id) ∧ e = ⟨256 + k, i, tn, i, j, (gp ps i).id, (gp ps j).id⟩ := by
  rcases h with ⟨_, _, rfl⟩ | ⟨i, j, h1, h2, h3, h4, ⟨_, rfl, _⟩ | ⟨k, h5, h6, h7, _, hp⟩⟩
  · exact fun e he => Or.inl he
  · exact fun e he => Or.inl he
  · intro e he
    rcases List.mem_cons.1 (hp.mem_iff.1 he) with rfl | he
    · exact Or.inr ⟨i, j, k, h1, h2, h3, h4, h5, h6, h7, rfl⟩
    · exact Or.inl he
theorem AwR.has {mg : List (Int × Int)} {bl : Int} {ps : List Pt} {tn tn' : Int} {l l' : List Hq.It} {i j : Nat} (h : AwR mg bl ps i j tn l tn' l') (hj : j < ps.length) {K : Nat} (hK : K < mg.length) (hb : 256 + (K : Int) < bl) (hg : gm mg K = ((gp ps i).id, (gp ps j).id)) {tx : List ByteArray} (hk : Tok tx mg) : ∃ e ∈ l', e.r = 256 + K ∧ e.p = i := by
  rcases h with ⟨h0, _⟩ | ⟨i', j', h1, h2, h3, h4, hd⟩
  · omega
  · obtain rfl : i = i' := by omega
    obtain rfl : j = j' := by omega
    rcases hd with ⟨_, _, hno⟩ | ⟨k, h5, h6, h7, _, hp⟩
    · exact absurd hg (hno K hK hb)
    · obtain rfl := hk.uniq hK h5 (hg.trans h7.symm)
      exact ⟨_, hp.mem_iff.2 (List.mem_cons_self), rfl, rfl⟩

theorem head_gi {l : List Hq.It} (h : 0 < l.length) : l = Hq.gi l 0 :: l.tail := by
  cases l with
  | nil => simp at h
  | cons a r => simp [Hq.gi]

section
variable {tx : List ByteArray} {mg : List (Int × Int)} {bl : Int} {ps : List Pt} {T : List Int} {l l' : List Hq.It}

/-- What is popped and doesn't stand is let go. -/
theorem StI.stale (h : StI tx mg bl ps T l) (hk : Tok tx mg) (h0 : 0 < l.length) (hP : l'.Perm l.tail) {i j : Nat} (hi : (Hq.gi l 0).x1 = i) (hj : (Hq.gi l 0).x2 = j) (hns : ¬ ((gp ps i).id = (Hq.gi l 0).x3 ∧ (gp ps j).id = (Hq.gi l 0).x4)) : StI tx mg bl ps T l' := by
  have hl := head_gi h0
  refine ⟨h.lay, fun e he => h.e1 e (List.mem_of_mem_tail (hP.mem_iff.1 he)), fun u a b v hT K hK hb hg => ?_⟩
  obtain ⟨e, he, hr, hp⟩ := h.e2 u a b v hT K hK hb hg
  rw [hl] at he
  rcases List.mem_cons.1 he with rfl | he
  · exfalso
    obtain ⟨i', j', K', g1, g2, g3, g4, g5, g6, g7, g8, g9, g10⟩ := h.e1 _ (by rw [hl]; exact List.mem_cons_self)
    obtain rfl : K = K' := by omega
    rw [hg] at g7
    have ea := congrArg Prod.fst g7
    have eb := congrArg Prod.snd g7
    simp only at ea eb
    have two := Lay.two a b v u (-1) 0 (hT ▸ h.lay)
    simp only [Nat.zero_add] at two
    have ei : i = pos tx u := by omega
    rw [← ea] at g8
    have ej : j = pos tx u + sz tx a := by omega
    apply hns
    rw [ei, ej, ← ea, ← eb]
    exact ⟨two.2.2.2.2.2.1, two.2.2.2.2.2.2.2.1⟩
  · exact ⟨e, hP.mem_iff.2 he, hr, hp⟩

/-- What is popped and stands: where it stands; what is made at last stays as it is. -/
theorem StI.top (h : StI tx mg bl ps T l) (hk : Tok tx mg) (hHp : Hq.Hp l) (h0 : 0 < l.length) {i j : Nat} (hi : (Hq.gi l 0).x1 = i) (hj : (Hq.gi l 0).x2 = j) (hs : (gp ps i).id = (Hq.gi l 0).x3 ∧ (gp ps j).id = (Hq.gi l 0).x4) :
    ∃ (K : Nat) (u v : List Int) (a b : Int), K < mg.length ∧ 256 + (K : Int) < bl ∧ (Hq.gi l 0).r = 256 + K ∧ (Hq.gi l 0).p = i ∧ gm mg K = (a, b) ∧ T = u ++ a :: b :: v ∧ pos tx u = i ∧ j = i + sz tx a ∧ (Hq.gi l 0).x3 = a ∧ (Hq.gi l 0).x4 = b ∧ enc mg (rnds mg bl) T = enc mg (rnds mg bl) (u ++ (256 + (K : Int)) :: v) := by
  have hl := head_gi h0
  obtain ⟨i', j', K, g1, g2, g3, g4, g5, g6, g7, g8, g9, g10⟩ := h.e1 (Hq.gi l 0) (by rw [hl]; exact List.mem_cons_self)
  obtain rfl : i = i' := by omega
  obtain rfl : j = j' := by omega
  have hpar := hk.par K g5
  rw [g7] at hpar
  obtain ⟨u, v, hT, hp⟩ := Lay.find T (-1) 0 h.lay i j _ _ (Nat.zero_le _) hpar.1 hs.1 hs.2 g8 g10
  rw [Nat.zero_add] at hp
  refine ⟨K, u, v, _, _, g5, g6, g4, g3, g7, hT, hp, g8, rfl, rfl, ?_⟩
  have two := Lay.two _ _ v u (-1) 0 (hT ▸ h.lay)
  generalize (Hq.gi l 0).x3 = a at *
  generalize (Hq.gi l 0).x4 = b at *
  have key := enc_step hk g5 (u := u) (v := v)
  rw [g7] at key
  rw [hT]
  refine key (fun k hkK x y e => ?_) (fun x y e => ?_) _ (rnds_lt.2 ⟨g5, g6⟩)
  · obtain ⟨e', he, hr, hp'⟩ := h.e2 x (gm mg k).1 (gm mg k).2 y (hT.trans e) k (by omega) (by omega) rfl
    have := hHp.least e' he
    rw [Hq.ltB_not] at this
    omega
  · have hT2 : T = x ++ a :: b :: (y ++ b :: v) := by
      rw [hT, show u ++ a :: b :: v = (u ++ [a]) ++ b :: v by simp, e]
      simp
    obtain ⟨e', he, hr, hp'⟩ := h.e2 x a b (y ++ b :: v) hT2 K g5 g6 g7
    have := hHp.least e' he
    rw [Hq.ltB_not] at this
    have hq := congrArg (pos tx) e
    simp only [pos_append, pos] at hq
    have hb0 := two.2.2.2.1
    omega

/-- Behind a join. -/
theorem StI.joined (h : StI tx mg bl ps T l) (hk : Tok tx mg) (h0 : 0 < l.length) {l0 l1 : List Hq.It} (hP : l0.Perm l.tail) {K i j A : Nat} {u v : List Int} {a b : Int} (hK : K < mg.length) (hg : gm mg K = (a, b)) (hT : T = u ++ a :: b :: v) (hp : pos tx u = i) (hj : j = i + sz tx a) (hA : A = j + sz tx b) (hpi : (Hq.gi l 0).p = i)
    {tn tn1 tn' : Int} (aw1 : AwR mg bl (jn ps i j A (256 + (K : Int))) (gp ps i).ah i tn l0 tn1 l1) (aw2 : AwR mg bl (jn ps i j A (256 + (K : Int))) i A tn1 l1 tn' l') : StI tx mg bl (jn ps i j A (256 + (K : Int))) (u ++ (256 + (K : Int)) :: v) l' := by
  have hl := head_gi h0
  have two := Lay.two a b v u (-1) 0 (hT ▸ h.lay)
  simp only [Nat.zero_add, hp] at two
  rw [← hj] at two
  rw [← hA] at two
  obtain ⟨ha, hb, za, zb, hle, ia, fa, ib, fb, hah⟩ := two
  have hl2 := hk.len
  have hsz : sz tx (256 + (K : Int)) = sz tx a + sz tx b := by
    have hm := hk.made K hK
    rw [hg] at hm
    unfold sz
    rw [show (256 + (K : Int)).toNat = 256 + K by omega, hm]
    simp
  have hlay := Lay.join rfl a b (256 + (K : Int)) v (by omega) hsz u (-1) 0 (hT ▸ h.lay) i j A (by omega) hj hA
  have hlen := jn_len ps i j A (256 + (K : Int))
  have G := jn_get ps (i := i) (j := j) (A := A) (256 + (K : Int)) (by omega) (by omega) (by omega) (by omega)
  have gi_ : (gp (jn ps i j A (256 + (K : Int))) i).id = 256 + (K : Int) := by rw [G i, if_pos rfl]
  have keep : ∀ e ∈ l, e.p ≠ i → e ∈ l' := by
    intro e he hne
    rw [hl] at he
    rcases List.mem_cons.1 he with rfl | he
    · exact absurd hpi hne
    · exact aw2.sub e (aw1.sub e (hP.mem_iff.2 he))
  refine ⟨by rw [hlen]; exact hlay, ?_, ?_⟩
  · intro e he
    rw [hlen]
    have new : ∀ i' j' k : Nat, i' < j' → j' < ps.length → k < mg.length → 256 + (k : Int) < bl → gm mg k = ((gp (jn ps i j A (256 + (K : Int))) i').id, (gp (jn ps i j A (256 + (K : Int))) j').id) → ∀ t, j' = i' + sz tx (gp (jn ps i j A (256 + (K : Int))) i').id → Ent tx mg bl ps.length ⟨256 + k, i', t, i', j', (gp (jn ps i j A (256 + (K : Int))) i').id, (gp (jn ps i j A (256 + (K : Int))) j').id⟩ :=
      fun i' j' k q1 q2 q3 q4 q5 t q6 => ⟨i', j', k, rfl, rfl, rfl, rfl, q3, q4, q5, q6, q1, q2⟩
    rcases aw2.mem e he with he | ⟨i', j', k, q1, q2, q3, q4, q5, q6, q7, rfl⟩
    · rcases aw1.mem e he with he | ⟨i', j', k, q1, q2, q3, q4, q5, q6, q7, rfl⟩
      · exact h.e1 e (List.mem_of_mem_tail (hP.mem_iff.1 he))
      · obtain rfl : i = j' := by omega
        rcases hah with ⟨_, e0⟩ | ⟨u', x, rfl, e0⟩
        · omega
        · have hi' : i' = pos tx u' := by omega
          have hpx : pos tx u' + sz tx x = i := by rw [← hp, pos_append]; simp [pos]
          have hT3 : T = u' ++ x :: a :: (b :: v) := by rw [hT]; simp
          have tw := Lay.two x a (b :: v) u' (-1) 0 (hT3 ▸ h.lay)
          simp only [Nat.zero_add] at tw
          have hidx : (gp (jn ps i j A (256 + (K : Int))) i').id = x := by
            rw [G i', if_neg (by have := tw.2.2.1; omega), if_neg (by have := tw.2.2.1; omega), if_neg (by have := tw.2.2.1; omega), hi']
            exact tw.2.2.2.2.2.1
          exact new i' i k (by have := tw.2.2.1; omega) (by omega) q5 q6 q7 tn (by rw [hidx]; omega)
    · obtain rfl : i = i' := by omega
      obtain rfl : A = j' := by omega
      exact new i A k (by omega) (by omega) q5 q6 q7 tn1 (by rw [gi_, hsz]; omega)
  · intro u1 x y v1 hT1 K1 hK1 hb1 hg1
    have hpar := hk.par K hK
    -- where the two stand
    rcases List.append_eq_append_iff.1 hT1 with ⟨z, e1, e2⟩ | ⟨z, e1, e2⟩
    · -- u1 = u ++ z, (256+K) :: v = z ++ x :: y :: v1
      cases z with
      | nil =>
        simp at e1 e2
        obtain ⟨rfl, e3⟩ := e2
        subst e1
        have hT3 : T = u1 ++ a :: b :: y :: v1 := by rw [hT, e3]
        have hT4 : u1 ++ (256 + (K : Int)) :: v = u1 ++ (256 + (K : Int)) :: y :: v1 := by rw [e3]
        have tw := Lay.two (256 + (K : Int)) y v1 u1 (-1) 0 (hT4 ▸ hlay)
        simp only [Nat.zero_add, hp] at tw
        have hiA : i + sz tx (256 + (K : Int)) = A := by omega
        rw [hiA] at tw
        have hAl : A < ps.length := by have := tw.2.2.2.1; have := tw.2.2.2.2.1; omega
        obtain ⟨e, he, hr, hpe⟩ := aw2.has (by rw [hlen]; exact hAl) hK1 hb1 (by rw [hg1, gi_, tw.2.2.2.2.2.2.2.1]) hk
        exact ⟨e, he, hr, by omega⟩
      | cons q z =>
        simp at e1 e2
        obtain ⟨rfl, e3⟩ := e2
        have hT3 : T = (u ++ a :: b :: z) ++ x :: y :: v1 := by rw [hT, e3]; simp
        obtain ⟨e, he, hr, hpe⟩ := h.e2 _ x y v1 hT3 K1 hK1 hb1 hg1
        have e4 : pos tx u1 = pos tx (u ++ a :: b :: z) := by
          rw [e1]; simp only [pos_append, pos]; omega
        refine ⟨e, keep e he ?_, hr, by omega⟩
        rw [hpe]
        simp only [pos_append, pos]
        omega
    · -- u = u1 ++ z, x :: y :: v1 = z ++ (256+K) :: v
      cases z with
      | nil =>
        simp at e1 e2
        obtain ⟨rfl, e3⟩ := e2
        subst e1
        have hT3 : T = u ++ a :: b :: v := hT
        have hT4 : u ++ (256 + (K : Int)) :: v = u ++ (256 + (K : Int)) :: y :: v1 := by rw [e3]
        have tw := Lay.two (256 + (K : Int)) y v1 u (-1) 0 (hT4 ▸ hlay)
        simp only [Nat.zero_add, hp] at tw
        have hiA : i + sz tx (256 + (K : Int)) = A := by omega
        rw [hiA] at tw
        have hAl : A < ps.length := by have := tw.2.2.2.1; have := tw.2.2.2.2.1; omega
        obtain ⟨e, he, hr, hpe⟩ := aw2.has (by rw [hlen]; exact hAl) hK1 hb1 (by rw [hg1, gi_, tw.2.2.2.2.2.2.2.1]) hk
        exact ⟨e, he, hr, by omega⟩
      | cons q z =>
        simp at e2
        obtain ⟨rfl, e3⟩ := e2
        cases z with
        | nil =>
          -- the last of u and the new one
          simp at e3
          obtain ⟨rfl, rfl⟩ := e3
          have hT3 : T = u1 ++ x :: a :: b :: v1 := by rw [hT, e1]; simp
          have tw := Lay.two x a (b :: v1) u1 (-1) 0 (hT3 ▸ h.lay)
          simp only [Nat.zero_add] at tw
          have hpx : pos tx u1 + sz tx x = i := by rw [← hp, e1, pos_append]; simp [pos]
          have zx := tw.2.2.1
          rcases hah with ⟨e0, _⟩ | ⟨u', x', e5, e0⟩
          · rw [e0] at e1; simp at e1
          · have e6 : u1 = u' := by
              have := e1.symm.trans e5
              exact (List.append_inj' this rfl).1
            subst e6
            rw [e0] at aw1
            have hidx : (gp (jn ps i j A (256 + (K : Int))) (pos tx u1)).id = x := by
              rw [G, if_neg (by omega), if_neg (by omega), if_neg (by omega)]
              exact tw.2.2.2.2.2.1
            obtain ⟨e, he, hr, hpe⟩ := aw1.has (by rw [hlen]; omega) hK1 hb1 (by rw [hg1, hidx, gi_]) hk
            exact ⟨e, aw2.sub e he, hr, by omega⟩
        | cons q2 z =>
          simp at e3
          obtain ⟨rfl, e4⟩ := e3
          have hT3 : T = u1 ++ x :: y :: (z ++ a :: b :: v) := by rw [hT, e1]; simp
          obtain ⟨e, he, hr, hpe⟩ := h.e2 _ x y _ hT3 K1 hK1 hb1 hg1
          have tw := Lay.two x y _ u1 (-1) 0 (hT3 ▸ h.lay)
          have zx := tw.2.2.1
          refine ⟨e, keep e he ?_, hr, hpe⟩
          rw [hpe, ← hp, e1]
          simp only [pos_append, pos]
          omega

/-- Nothing waits: what stands is what is made. -/
theorem StI.done (h : StI tx mg bl ps T []) : enc mg (rnds mg bl) T = T := by
  refine enc_id _ (fun k hk u v e => ?_)
  obtain ⟨h1, h2⟩ := rnds_lt.1 hk
  obtain ⟨e', he, _⟩ := h.e2 u _ _ v e k h1 h2 rfl
  cases he
end

end Go.Proofs.YtoihocbnhoniaaaGreatDoor
