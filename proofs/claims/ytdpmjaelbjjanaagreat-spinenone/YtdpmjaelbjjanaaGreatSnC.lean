/- Tokens are what is made of their items just where each is alone, and each two that stand side by side may. -/
import Derived.Test.YtdpmjaelbjjanaaGreatEcR
import Derived.Test.YtdpmjaelbjjanaaGreatSnW
import Derived.Test.YtdpmjaelbjjanaaGreatQv0
import Derived.Test.YtdpmjaelbjjanaaGreatVtHs
namespace Go.Proofs.YtdpmjaelbjjanaaGreat
open Go.RowKit Go.Maps
set_option linter.unusedVariables false
set_option linter.unusedSimpArgs false

section
variable {c : Int → Int → Bool}
/-- Nothing is cut in it. -/
def Unc (c : Int → Int → Bool) (p : List Int) : Prop := ∀ u a b v, p = u ++ a :: b :: v → c a b = false
theorem Unc.left {p r : List Int} (h : Unc c (p ++ r)) : Unc c p := fun u a b v e => h u a b (v ++ r) (by rw [e]; simp)
theorem Unc.right {p r : List Int} (h : Unc c (p ++ r)) : Unc c r := fun u a b v e => h (p ++ u) a b v (by rw [e]; simp)
theorem unc_rns : ∀ (l : List Int), Unc c l → l ≠ [] → rns c l = [l]
  | [], _, h => absurd rfl h
  | [a], _, _ => rfl
  | a :: b :: l, hu, _ => by
    rw [rns, if_neg (by rw [hu [] a b l rfl]; simp), unc_rns (b :: l) (Unc.right (p := [a]) hu) (by simp)]
    rfl
theorem rns_unc {I p : List Int} (hp : p ∈ rns c I) : Unc c p := fun u a b v e => rns_in I p hp u a b v e
theorem rns_front {x : Int} {r p : List Int} {rest : List (List Int)} (h : rns c (x :: r) = p :: rest) : ∀ l, Unc c (l ++ [x]) → rns c (l ++ x :: r) = (l ++ p) :: rest
  | [], _ => h
  | [a], hu => by
    have h1 : c a x = false := hu [] a x [] rfl
    show rns c (a :: x :: r) = _
    rw [rns, if_neg (by rw [h1]; simp), h]
    rfl
  | a :: b :: l, hu => by
    have h1 : c a b = false := hu [] a b (l ++ [x]) rfl
    have ih := rns_front h (b :: l) (Unc.right (p := [a]) hu)
    simp only [List.cons_append] at ih ⊢
    rw [rns, if_neg (by rw [h1]; simp), ih]
    rfl
theorem rns_cons : ∀ (I : List Int), I ≠ [] → ∃ p I', I = p ++ I' ∧ rns c I = p :: rns c I' ∧ p ≠ [] ∧ (I' = [] ∨ ∃ u x y v, p = u ++ [x] ∧ I' = y :: v ∧ c x y = true)
  | [], h => absurd rfl h
  | [a], _ => ⟨[a], [], rfl, rfl, by simp, Or.inl rfl⟩
  | a :: b :: l, _ => by
    cases hc : c a b with
    | true => exact ⟨[a], b :: l, rfl, by rw [rns, if_pos hc], by simp, Or.inr ⟨[], a, b, l, rfl, rfl, hc⟩⟩
    | false =>
      obtain ⟨p, I', h1, h2, h3, h4⟩ := rns_cons (b :: l) (by simp)
      refine ⟨a :: p, I', by rw [h1]; rfl, by rw [rns, if_neg (by rw [hc]; simp), h2]; rfl, by simp, ?_⟩
      rcases h4 with h4 | ⟨u, x, y, v, e1, e2, e3⟩
      · exact Or.inl h4
      · exact Or.inr ⟨a :: u, x, y, v, by rw [e1]; rfl, e2, e3⟩
end

section
variable {s : Wf.Sp}
abbrev itm (s : Wf.Sp) (x : Int) : List Int := (itV s.specials (txT s) x).getD []
abbrev ctV (s : Wf.Sp) (ids : List Int) : List Int := catV s.specials (txT s) ids
abbrev qI (s : Wf.Sp) : Int → Int → Bool := icE (cuE s)
theorem ctV_cons (x : Int) (r : List Int) : ctV s (x :: r) = itm s x ++ ctV s r := by
  show catV _ _ _ = _ ++ catV _ _ _
  unfold catV
  rw [List.flatMap_cons]
theorem enS_nil : enS s [] = [] := rfl
theorem enS_cons {I I' p : List Int} (h : rns (qI s) I = p :: rns (qI s) I') : enS s I = mkE1 s p ++ enS s I' := by
  show encG _ _ _ _ _ = _
  unfold encG
  rw [h, List.flatMap_cons]
  rfl
theorem bL_it (s : Wf.Sp) (x : Int) : bL (txT s) x = itE (gs (txT s) x.toNat).data.toList := by
  unfold bL itE
  rw [bys_all]
theorem mk_bytes {p : List Int} (hp : Bt p) : mkE1 s p = enc (mgT s) (mgT s).length p := by
  have h0 : ¬ p.getD 0 0 < 0 := by
    cases p with
    | nil => simp
    | cons a r => have := hp a (by simp); simp; omega
  unfold mkE1 mk1E
  rw [if_neg h0]
  unfold made tE
  rw [rnds_all (tokT s), bys_all]
  exact congrArg _ (bys_bsE hp)
theorem mk_mark {m : Int} (hm : m < 0) : mkE1 s [m] = [idE s.specials m] := by
  unfold mkE1 mk1E
  rw [if_pos (by simpa using hm)]
  rfl
theorem spc_mkF (s : Wf.Sp) (x : Int) : spcV s x = decide (mkF s.specials x < 0) := by
  rw [Bool.eq_iff_iff, decide_eq_true_iff, mkF_mem]
  unfold spcV
  simp
theorem tok_spc {x : Int} (h : spcV s x = true) : ∃ m, m < 0 ∧ itm s x = [m] ∧ idE s.specials m = x := by
  rw [spc_mkF, decide_eq_true_iff] at h
  rcases mkF_cases s.specials x with ⟨k, hk, _, h1, h2⟩ | ⟨_, h2⟩
  · refine ⟨mkF s.specials x, h, ?_, ?_⟩
    · show (itV s.specials (txT s) x).getD [] = _
      unfold itV
      rw [if_pos h]
      rfl
    · rw [h2]
      unfold idE
      rw [show (-1 - (-1 - (k : Int))).toNat = k by omega]
      exact h1
  · omega
theorem tok_ord {x : Int} (h : spcV s x = false) (hx : inT (txT s) x) : itm s x = bL (txT s) x := by
  rw [spc_mkF, decide_eq_false_iff_not] at h
  show (itV s.specials (txT s) x).getD [] = _
  unfold itV
  rw [if_neg h, if_pos ⟨hx.1, hx.2⟩, bL_it]
  rfl
theorem spc_id {m : Int} (hm : m < 0) (hl : -(s.specials.length : Int) ≤ m) : spcV s (idE s.specials m) = true := by
  unfold spcV idE
  have hk : (-1 - m).toNat < s.specials.length := by omega
  rw [List.any_eq_true]
  exact ⟨s.specials[(-1 - m).toNat], List.getElem_mem hk, by simp [Mk.gS, hk]⟩
theorem spc_ord (hV : VOk s) {x : Int} (hx : inT (txT s) x) : spcV s x = false := by
  rw [spc_mkF, decide_eq_false_iff_not, mkF_in hV hx.1 hx.2]
  omega

/-- An ordinary one that is alone. -/
def OrdA (s : Wf.Sp) (x : Int) : Prop := inT (txT s) x ∧ Al (txT s) (mgT s) x ∧ Unc (qI s) (bL (txT s) x)
theorem ord_ne {x : Int} (hx : inT (txT s) x) : bL (txT s) x ≠ [] := bL_ne (tokT s) _ _ (Nat.le_refl _) hx
theorem alone_ord (hV : VOk s) {x : Int} (hx : inT (txT s) x) : aloneV s x = true ↔ OrdA s x := by
  have e : ((x.toNat : Nat) : Int) = x := by have := hx.1; omega
  unfold aloneV OrdA
  rw [spc_ord hV hx, Bool.false_or, decide_eq_true (show 0 ≤ x ∧ x < ((txT s).length : Int) from hx), Bool.true_and]
  unfold alF
  rw [Bool.and_eq_true]
  have h1 : madeF s x.toNat = true ↔ Al (txT s) (mgT s) x := by
    rw [← alB_iff (tokT s)]
    unfold madeF alB
    rw [e]
  have h2 : wholeF s x.toNat = true ↔ Unc (qI s) (bL (txT s) x) := by
    unfold wholeF
    rw [decide_eq_true_iff]
    have hr := rns_it (cuE s) (gs (txT s) x.toNat).data.toList
    rw [← bL_it] at hr
    have hl := congrArg List.length hr
    rw [List.length_map] at hl
    have hne := ord_ne hx
    constructor
    · intro h
      have hlt : (rns (qI s) (bL (txT s) x)).length < 2 := by
        show (rns (icE (cuE s)) (bL (txT s) x)).length < 2
        rw [hl]
        exact h
      have hf := rns_flat (c := qI s) (bL (txT s) x)
      match hg : rns (qI s) (bL (txT s) x), hlt with
      | [], _ => rw [hg] at hf; simp at hf; exact absurd hf hne
      | [p], _ =>
        rw [hg] at hf
        simp at hf
        rw [← hf]
        exact rns_unc (I := bL (txT s) x) (by rw [hg]; simp)
      | a :: b :: r, h => simp at h; omega
    · intro h
      have := unc_rns _ h hne
      have h3 : (rns (icE (cuE s)) (bL (txT s) x)).length = 1 := by
        show (rns (qI s) (bL (txT s) x)).length = 1
        rw [this]; rfl
      have h4 : (Wf.Bq.pcs (cuE s) (gs (txT s) x.toNat).data.toList).length = 1 := by omega
      show (Wf.Bq.pcs (cuE s) (gs (txT s) x.toNat).data.toList).length < 2
      omega
  rw [h1, h2]
  exact ⟨fun h => ⟨hx, h.2, h.1⟩, fun h => ⟨h.2.2, h.2.1⟩⟩
theorem alone_kind {x : Int} (h : aloneV s x = true) : spcV s x = true ∨ (spcV s x = false ∧ inT (txT s) x) := by
  unfold aloneV at h
  cases hs : spcV s x with
  | true => exact Or.inl rfl
  | false =>
    rw [hs, Bool.false_or, Bool.and_eq_true, decide_eq_true_iff] at h
    exact Or.inr ⟨rfl, h.1⟩
theorem alone_has {x : Int} (h : aloneV s x = true) : hasV s x = true := by
  unfold hasV
  rcases alone_kind h with h | ⟨_, h⟩
  · rw [h]; rfl
  · rw [decide_eq_true (show 0 ≤ x ∧ x < ((txT s).length : Int) from h), Bool.or_true]

/-- May two that are alone stand side by side? -/
def besV (s : Wf.Sp) (x y : Int) : Bool := spcV s x || spcV s y || Wf.Bq.btw (cuE s) (gs (txT s) x.toNat).data.toList (gs (txT s) y.toNat).data.toList || (wk (mgT s) x y 9223372036854775807).1
theorem btw_it {q : Int → Int → Bool} {a b : List UInt8} {u v : List Int} {i j : Int} (h1 : itE a = u ++ [i]) (h2 : itE b = j :: v) : Wf.Bq.btw q a b = q i j := by
  unfold itE at h1 h2
  cases b with
  | nil => simp at h2
  | cons y r =>
    rcases List.eq_nil_or_concat a with rfl | ⟨a', x, rfl⟩
    · simp at h1
    · rw [List.concat_eq_append] at *
      simp at h1 h2
      unfold Wf.Bq.btw
      simp [h1.2, h2.1]
/-- Each is alone, and each two that stand side by side may. -/
def ChV (s : Wf.Sp) : List Int → Prop
  | [] => True
  | [a] => aloneV s a = true
  | a :: b :: r => aloneV s a = true ∧ besV s a b = true ∧ ChV s (b :: r)
theorem ChV.head {a : Int} {r : List Int} (h : ChV s (a :: r)) : aloneV s a = true := by
  cases r with
  | nil => exact h
  | cons b r => exact h.1
theorem ch_app {x y : Int} {v : List Int} (h2 : ChV s (y :: v)) (hb : besV s x y = true) : ∀ u, ChV s (u ++ [x]) → ChV s (u ++ x :: y :: v)
  | [], h => ⟨h, hb, h2⟩
  | [a], h => ⟨h.1, h.2.1, ch_app h2 hb [] h.2.2⟩
  | a :: b :: u, h => ⟨h.1, h.2.1, ch_app h2 hb (b :: u) h.2.2⟩
theorem ch_snoc {x : Int} : ∀ l, ChV s (l ++ [x]) ↔ ChV s l ∧ aloneV s x = true ∧ ∀ y, l.getLast? = some y → besV s y x = true
  | [] => ⟨fun h => ⟨trivial, h, fun y h => by cases h⟩, fun h => h.2.1⟩
  | [a] => by
    simp only [List.cons_append, List.nil_append, ChV, List.getLast?_singleton, Option.some.injEq]
    exact ⟨fun h => ⟨h.1, h.2.2, fun y e => by rw [← e]; exact h.2.1⟩, fun h => ⟨h.1, h.2.2 a rfl, h.2.1⟩⟩
  | a :: b :: l => by
    have ih := ch_snoc (x := x) (b :: l)
    have e : (a :: b :: l).getLast? = (b :: l).getLast? := by simp [List.getLast?_cons_cons]
    rw [e]
    simp only [List.cons_append] at ih ⊢
    constructor
    · rintro ⟨h1, h2, h3⟩
      have := ih.1 h3
      exact ⟨⟨h1, h2, this.1⟩, this.2⟩
    · rintro ⟨⟨h1, h2, h3⟩, h4⟩
      exact ⟨h1, h2, ih.2 ⟨h3, h4⟩⟩

theorem txt_itE (tx : List ByteArray) {mg : List (Int × Int)} (hk : Tok tx mg) : ∀ {l : List Int}, Bt l → itE (txt tx l) = l
  | [], _ => rfl
  | x :: r, h => by
    have hx := h x (by simp)
    have ih := txt_itE tx hk (fun y hy => h y (List.mem_cons_of_mem _ hy))
    have hb := bL_byte hk hx.1 hx.2
    unfold bL at hb
    rw [bys_all] at hb
    unfold itE at ih ⊢
    rw [txt, List.map_append, ih, hb]
    rfl
/-- Bytes of which just one is made are its. -/
theorem enc_one_bL {p : List Int} (hp : Bt p) {n : Nat} (hn : n ≤ (mgT s).length) {x : Int} (h : enc (mgT s) n p = [x]) : p = bL (txT s) x := by
  have h1 := txt_enc (tokT s) p n hn
  rw [h] at h1
  rw [← txt_itE (txT s) (tokT s) hp, ← h1, bL_it]
  simp [txt]
theorem inT_of {p : List Int} (hp : Bt p) {x : Int} (h : x ∈ enc (mgT s) (mgT s).length p) : inT (txT s) x := by
  refine enc_in (tokT s) (fun y hy => ?_) _ (Nat.le_refl _) x h
  have := hp y hy
  have := (tokT s).len
  exact ⟨by omega, by omega⟩
theorem bt_parts {p r : List Int} (h : Bt (p ++ r)) : Bt p ∧ Bt r := ⟨fun x hx => h x (List.mem_append_left _ hx), fun x hx => h x (List.mem_append_right _ hx)⟩
theorem big_le (s : Wf.Sp) : 256 + ((mgT s).length : Int) ≤ 9223372036854775807 := by
  have h1 := (tokT s).len
  have h2 := (tokT s).cap
  omega
/-- What is made of a run of bytes. -/
theorem run_ch (hV : VOk s) : ∀ (e p : List Int), Bt p → Unc (qI s) p → enc (mgT s) (mgT s).length p = e → ChV s e
  | [], _, _, _, _ => trivial
  | x :: r, p, hp, hu, h => by
    obtain ⟨p1, p2, e1, e2, e3⟩ := enc_split (mg := mgT s) _ p [x] r (by rw [h]; rfl)
    subst e1
    obtain ⟨b1, b2⟩ := bt_parts hp
    have hx : inT (txT s) x := inT_of hp (by rw [h]; simp)
    have f1 : p1 = bL (txT s) x := enc_one_bL b1 (Nat.le_refl _) e2.symm
    have ax : Al (txT s) (mgT s) x := by unfold Al; rw [← f1]; exact e2.symm
    have al : aloneV s x = true := (alone_ord hV hx).2 ⟨hx, ax, by rw [← f1]; exact hu.left⟩
    have ih := run_ch hV r p2 b2 hu.right e3.symm
    cases r with
    | nil => exact al
    | cons y r =>
      refine ⟨al, ?_, ih⟩
      obtain ⟨p3, p4, e4, e5, e6⟩ := enc_split (mg := mgT s) _ p2 [y] r (by rw [← e3]; rfl)
      subst e4
      obtain ⟨b3, b4⟩ := bt_parts b2
      have hy : inT (txT s) y := inT_of hp (by rw [h]; simp)
      have f3 : p3 = bL (txT s) y := enc_one_bL b3 (Nat.le_refl _) e5.symm
      have ay : Al (txT s) (mgT s) y := by unfold Al; rw [← f3]; exact e5.symm
      have hxy : enc (mgT s) (mgT s).length (bL (txT s) x ++ bL (txT s) y) = [x, y] := by
        have h2 : enc (mgT s) (mgT s).length ((p1 ++ p3) ++ p4) = [x, y] ++ r := by rw [List.append_assoc, h]; rfl
        have := (enc_sub (tokT s) (Nat.le_refl _) (b1.app b3) b4 h2 (by rw [show [x, y] = [x] ++ [y] from rfl, pos_app, pos_one, pos_one, List.length_append, f1, f3, bL_len, bL_len])).1
        rw [← f1, ← f3, ← this]
      unfold besV
      rw [(wk_all (tokT s) hx hy ax ay (big_le s)).2 hxy, Bool.or_true]
theorem first_tok (hV : VOk s) {I : List Int} (hI : ∀ x ∈ I, okE s.specials x) (hne : I ≠ []) : ∃ y r, enS s I = y :: r ∧ (spcV s y = true ∨ (inT (txT s) y ∧ ∃ v, I = bL (txT s) y ++ v)) := by
  obtain ⟨p, I', h1, h2, h3, _⟩ := rns_cons (c := qI s) I hne
  rw [enS_cons h2]
  rcases rns_kind (q := cuE s) I (p := p) (by show p ∈ rns (qI s) I; rw [h2]; simp) with ⟨m, rfl, hm⟩ | ⟨_, hpos⟩
  · rw [mk_mark hm]
    exact ⟨_, _, rfl, Or.inl (spc_id hm (hI m (by rw [h1]; simp)).2)⟩
  · have hp : Bt p := fun x hx => ⟨hpos x hx, (hI x (by rw [h1]; exact List.mem_append_left _ hx)).1⟩
    rw [mk_bytes hp]
    cases hg : enc (mgT s) (mgT s).length p with
    | nil => exact absurd hg (enc_ne _ h3)
    | cons y g =>
      refine ⟨y, _, rfl, Or.inr ⟨inT_of hp (by rw [hg]; simp), ?_⟩⟩
      obtain ⟨p1, p2, e1, e2, e3⟩ := enc_split (mg := mgT s) _ p [y] g (by rw [hg]; rfl)
      subst e1
      have f1 : p1 = bL (txT s) y := enc_one_bL (bt_parts hp).1 (Nat.le_refl _) e2.symm
      exact ⟨p2 ++ I', by rw [h1, f1, List.append_assoc]⟩
/-- What is made is such. -/
theorem made_ch (hV : VOk s) : ∀ (n : Nat) (I : List Int), I.length ≤ n → (∀ x ∈ I, okE s.specials x) → ChV s (enS s I) := by
  intro n
  induction n with
  | zero =>
    intro I hn _
    obtain rfl : I = [] := List.length_eq_zero_iff.1 (by omega)
    exact trivial
  | succ n ih =>
    intro I hn hI
    by_cases hne : I = []
    · subst hne; exact trivial
    obtain ⟨p, I', h1, h2, h3, h4⟩ := rns_cons (c := qI s) I hne
    have hp0 := List.length_pos_iff.2 h3
    have hI' : ∀ x ∈ I', okE s.specials x := fun x hx => hI x (by rw [h1]; exact List.mem_append_right _ hx)
    have ih' := ih I' (by rw [h1, List.length_append] at hn; omega) hI'
    rw [enS_cons h2]
    have hpm : p ∈ rns (icE (cuE s)) I := by show p ∈ rns (qI s) I; rw [h2]; simp
    have hA : ChV s (mkE1 s p) ∧ mkE1 s p ≠ [] ∧ ∀ u x, mkE1 s p = u ++ [x] → spcV s x = true ∨ (inT (txT s) x ∧ ∃ v, p = v ++ bL (txT s) x) := by
      rcases rns_kind (q := cuE s) I hpm with ⟨m, rfl, hm⟩ | ⟨_, hpos⟩
      · have hs := spc_id (s := s) hm (hI m (by rw [h1]; simp)).2
        rw [mk_mark hm]
        refine ⟨?_, by simp, fun u x e => ?_⟩
        · show aloneV s _ = true
          unfold aloneV
          rw [hs]; rfl
        · have : u = [] ∧ idE s.specials m = x := by
            cases u with
            | nil => simpa using e
            | cons a u => simp at e
          rw [← this.2]
          exact Or.inl hs
      · have hp : Bt p := fun x hx => ⟨hpos x hx, (hI x (by rw [h1]; exact List.mem_append_left _ hx)).1⟩
        rw [mk_bytes hp]
        refine ⟨run_ch hV _ p hp (rns_unc hpm) rfl, enc_ne _ h3, fun u x e => Or.inr ⟨inT_of hp (by rw [e]; simp), ?_⟩⟩
        obtain ⟨p1, p2, e1, e2, e3⟩ := enc_split (mg := mgT s) _ p u [x] e
        subst e1
        exact ⟨p1, by rw [← enc_one_bL (bt_parts hp).2 (Nat.le_refl _) e3.symm]⟩
    obtain ⟨hA1, hA2, hA3⟩ := hA
    rcases List.eq_nil_or_concat (mkE1 s p) with h | ⟨u, x, hx⟩
    · exact absurd h hA2
    rw [List.concat_eq_append] at hx
    rcases h4 with rfl | ⟨pu, i, j, v, e1, e2, e3⟩
    · rw [enS_nil, List.append_nil]
      exact hA1
    · obtain ⟨y, r, f1, f2⟩ := first_tok hV hI' (by rw [e2]; simp)
      rw [f1] at ih' ⊢
      rw [hx] at hA1 ⊢
      rw [List.append_assoc]
      refine ch_app ih' ?_ u hA1
      unfold besV
      rcases hA3 u x hx with h | ⟨hxt, w, hw⟩
      · rw [h]; rfl
      rcases f2 with h | ⟨hyt, w2, hw2⟩
      · rw [h, Bool.or_true]; rfl
      have hi : ∃ u', bL (txT s) x = u' ++ [i] := by
        rcases List.eq_nil_or_concat (bL (txT s) x) with h | ⟨u', k, hk⟩
        · exact absurd h (ord_ne hxt)
        · rw [List.concat_eq_append] at hk
          rw [hk, ← List.append_assoc, e1] at hw
          have := List.append_inj_right' hw rfl
          simp only [List.cons.injEq, and_true] at this
          exact ⟨u', by rw [this]; exact hk⟩
      have hj : ∃ v', bL (txT s) y = j :: v' := by
        cases hg : bL (txT s) y with
        | nil => exact absurd hg (ord_ne hyt)
        | cons k v' =>
          rw [hg, e2] at hw2
          simp only [List.cons_append, List.cons.injEq] at hw2
          exact ⟨v', by rw [hw2.1]⟩
      obtain ⟨u', hi⟩ := hi
      obtain ⟨v', hj⟩ := hj
      have ib := bL_bt (txT s) x i (by rw [hi]; simp)
      have jb := bL_bt (txT s) y j (by rw [hj]; simp)
      have hq : cuE s i j = true := by
        have h := e3
        show cuE s i j = true
        have h' : icE (cuE s) i j = true := h
        unfold icE at h'
        rw [decide_eq_false (by omega), decide_eq_false (by omega)] at h'
        simpa using h'
      rw [bL_it] at hi hj
      rw [btw_it hi hj, hq, Bool.or_true, Bool.true_or]
theorem ch_one (hV : VOk s) {a : Int} (ha : aloneV s a = true) : enS s (itm s a) = [a] := by
  rcases alone_kind ha with hs | ⟨hs, hx⟩
  · obtain ⟨m, hm, e1, e2⟩ := tok_spc hs
    rw [e1, enS_cons (p := [m]) (I' := []) rfl, mk_mark hm, e2]
    rfl
  · obtain ⟨_, ax, hu⟩ := (alone_ord hV hx).1 ha
    rw [tok_ord hs hx, enS_cons (p := bL (txT s) a) (I' := []) (unc_rns _ hu (ord_ne hx)), mk_bytes (bL_bt _ _), ax]
    rfl
/-- Such are what is made of their items. -/
theorem ch_made (hV : VOk s) : ∀ (ids : List Int), ChV s ids → enS s (ctV s ids) = ids
  | [], _ => rfl
  | [a], h => by
    rw [ctV_cons]
    show enS s (itm s a ++ []) = _
    rw [List.append_nil]
    exact ch_one hV h
  | a :: b :: r, h => by
    obtain ⟨ha, hb, hr⟩ := h
    have ih := ch_made hV (b :: r) hr
    have hba := hr.head
    rw [ctV_cons]
    have hIb := ctV_cons (s := s) b r
    have hitb : ∃ j v, itm s b = j :: v ∧ ctV s (b :: r) = j :: (v ++ ctV s r) := by
      have : itm s b ≠ [] := by
        rcases alone_kind hba with hs | ⟨hs, hx⟩
        · obtain ⟨m, hm, e1, e2⟩ := tok_spc hs
          rw [e1]; simp
        · rw [tok_ord hs hx]; exact ord_ne hx
      cases hg : itm s b with
      | nil => exact absurd hg this
      | cons j v => exact ⟨j, v, rfl, by rw [hIb, hg]; rfl⟩
    obtain ⟨j, v, hj, hI⟩ := hitb
    -- cut between the two
    have cut : ∀ u i, itm s a = u ++ [i] → icE (cuE s) i j = true → enS s (itm s a) = [a] → enS s (itm s a ++ ctV s (b :: r)) = a :: b :: r := by
      intro u i hi hc hone
      have h1 : rns (qI s) (itm s a ++ ctV s (b :: r)) = rns (qI s) (itm s a) ++ rns (qI s) (ctV s (b :: r)) := by
        rw [hI, hi, List.append_assoc]
        exact rns_cut (c := qI s) u i j _ hc
      have h2 : enS s (itm s a ++ ctV s (b :: r)) = enS s (itm s a) ++ enS s (ctV s (b :: r)) := by
        show encG _ _ _ _ _ = encG _ _ _ _ _ ++ encG _ _ _ _ _
        unfold encG
        rw [show rns (icE (cuE s)) (itm s a ++ ctV s (b :: r)) = rns (icE (cuE s)) (itm s a) ++ rns (icE (cuE s)) (ctV s (b :: r)) from h1, List.flatMap_append]
      rw [h2, hone, ih]
      rfl
    have hone := ch_one hV ha
    rcases alone_kind ha with hs | ⟨hs, hx⟩
    · obtain ⟨m, hm, e1, e2⟩ := tok_spc hs
      exact cut [] m (by rw [e1]; rfl) (by unfold icE; rw [decide_eq_true hm]; rfl) hone
    have hia := tok_ord hs hx
    rcases List.eq_nil_or_concat (itm s a) with h | ⟨u, i, hi⟩
    · exact absurd (hia.symm.trans h) (ord_ne hx)
    rw [List.concat_eq_append] at hi
    cases hc : icE (cuE s) i j with
    | true => exact cut u i hi hc hone
    | false =>
      obtain ⟨_, ax, hua⟩ := (alone_ord hV hx).1 ha
      have hc' := hc
      unfold icE at hc'
      rw [Bool.or_eq_false_iff, Bool.or_eq_false_iff, decide_eq_false_iff_not, decide_eq_false_iff_not] at hc'
      obtain ⟨⟨hi0, hj0⟩, hq⟩ := hc'
      rcases alone_kind hba with hsb | ⟨hsb, hy⟩
      · obtain ⟨m, hm, e1, e2⟩ := tok_spc hsb
        rw [e1] at hj
        simp only [List.cons.injEq] at hj
        omega
      have hib := tok_ord hsb hy
      obtain ⟨_, ay, hub⟩ := (alone_ord hV hy).1 hba
      have hw : enc (mgT s) (mgT s).length (bL (txT s) a ++ bL (txT s) b) = [a, b] := by
        refine (wk_all (tokT s) hx hy ax ay (big_le s)).1 ?_
        have hb' := hb
        unfold besV at hb'
        have f1 : itE (gs (txT s) a.toNat).data.toList = u ++ [i] := by rw [← bL_it, ← hia, hi]
        have f2 : itE (gs (txT s) b.toNat).data.toList = j :: v := by rw [← bL_it, ← hib, hj]
        rw [hs, hsb, btw_it f1 f2, show cuE s i j = false from hq] at hb'
        simpa using hb'
      -- the first run of what stands behind
      obtain ⟨p, I', g1, g2, g3, g4⟩ := rns_cons (c := qI s) (ctV s (b :: r)) (by rw [hI]; simp)
      have hpj : ∃ p', p = j :: p' := by
        cases p with
        | nil => exact absurd rfl g3
        | cons k p' => rw [hI] at g1; simp only [List.cons_append, List.cons.injEq] at g1; exact ⟨p', by rw [g1.1]⟩
      obtain ⟨p', hp'⟩ := hpj
      have hpm : p ∈ rns (icE (cuE s)) (ctV s (b :: r)) := by show p ∈ rns (qI s) _; rw [g2]; simp
      have hpb : Bt p := by
        rcases rns_kind (q := cuE s) _ hpm with ⟨m, hm1, hm2⟩ | ⟨_, hpos⟩
        · rw [hp'] at hm1; simp only [List.cons.injEq] at hm1; omega
        · intro x hxp
          refine ⟨hpos x hxp, ?_⟩
          have hmem : x ∈ ctV s (b :: r) := by rw [g1]; exact List.mem_append_left _ hxp
          have hmem' : x ∈ catV s.specials (txT s) (b :: r) := hmem
          unfold catV at hmem'
          obtain ⟨t, _, hxt⟩ := List.mem_flatMap.1 hmem'
          unfold itV at hxt
          split at hxt
          · simp at hxt; have := hpos x hxp; omega
          · split at hxt
            · simp [Mk.bys] at hxt
              obtain ⟨z, _, hz⟩ := hxt
              have := z.toNat_lt
              omega
            · simp at hxt
      have hfr : rns (qI s) (bL (txT s) a ++ ctV s (b :: r)) = (bL (txT s) a ++ p) :: rns (qI s) I' := by
        have g2' := g2
        rw [hI] at g2' ⊢
        refine rns_front g2' (bL (txT s) a) ?_
        rw [← hia, hi]
        intro u2 x y v2 e
        by_cases hv : v2 = []
        · subst hv
          have e' : (u ++ [i]) ++ [j] = (u2 ++ [x]) ++ [y] := by simpa using e
          obtain ⟨e1, e2⟩ := List.append_inj' e' rfl
          obtain ⟨_, e3⟩ := List.append_inj' e1 rfl
          simp only [List.cons.injEq, and_true] at e2 e3
          rw [← e2, ← e3]
          exact hc
        · rcases List.eq_nil_or_concat v2 with h | ⟨v3, z, hz⟩
          · exact absurd h hv
          · rw [List.concat_eq_append] at hz
            subst hz
            have e' : (u ++ [i]) ++ [j] = (u2 ++ x :: y :: v3) ++ [z] := by simpa using e
            obtain ⟨e1, _⟩ := List.append_inj' e' rfl
            exact hua u2 x y v3 (by rw [← hia, hi, e1])
      rw [hia, enS_cons hfr, mk_bytes ((bL_bt _ _).app hpb)]
      have ih2 := ih
      rw [enS_cons g2, mk_bytes hpb] at ih2
      cases hg : enc (mgT s) (mgT s).length p with
      | nil => exact absurd hg (enc_ne _ g3)
      | cons b' g =>
        rw [hg] at ih2
        simp only [List.cons_append, List.cons.injEq] at ih2
        obtain ⟨hbb, hgr⟩ := ih2
        subst hbb
        obtain ⟨p1, p2, e1, e2, e3⟩ := enc_split (mg := mgT s) _ p [b'] g (by rw [hg]; rfl)
        have f1 : p1 = bL (txT s) b' := enc_one_bL (bt_parts (by rw [← e1]; exact hpb)).1 (Nat.le_refl _) e2.symm
        have b2 : Bt p2 := (bt_parts (by rw [← e1]; exact hpb)).2
        have k1 : enc (mgT s) (mgT s).length (bL (txT s) a ++ bL (txT s) b') = enc (mgT s) (mgT s).length (bL (txT s) a) ++ enc (mgT s) (mgT s).length (bL (txT s) b') := by rw [hw, ax, ay]; rfl
        have k2 : enc (mgT s) (mgT s).length (bL (txT s) b' ++ p2) = enc (mgT s) (mgT s).length (bL (txT s) b') ++ enc (mgT s) (mgT s).length p2 := by rw [← f1, ← e1, hg, ← e2, ← e3]; rfl
        have k3 := enc_three (tokT s) (bL_bt (txT s) a) (bL_bt (txT s) b') b2 (ord_ne hy) _ (Nat.le_refl _) k1 k2
        rw [e1, f1, k3, ax, ay, ← e3, ← hgr]
        rfl
theorem ok_ctV (hV : VOk s) {ids : List Int} : ∀ x ∈ ctV s ids, okE s.specials x := by
  intro x hx
  have hx' : x ∈ catV s.specials (txT s) ids := hx
  unfold catV at hx'
  obtain ⟨t, _, hxt⟩ := List.mem_flatMap.1 hx'
  unfold itV at hxt
  split at hxt
  · rcases mkF_cases s.specials t with ⟨k, hk, _, _, h2⟩ | ⟨_, h2⟩
    · simp at hxt
      exact ⟨by omega, by omega⟩
    · omega
  · split at hxt
    · simp [Mk.bys] at hxt
      obtain ⟨z, _, hz⟩ := hxt
      have := z.toNat_lt
      exact ⟨by omega, by omega⟩
    · simp at hxt
/-- Tokens that are there are what is made of their items just where they are such. -/
theorem canon_iff (hV : VOk s) {ids : List Int} : enS s (ctV s ids) = ids ↔ ChV s ids :=
  ⟨fun h => by rw [← h]; exact made_ch hV _ _ (Nat.le_refl _) (ok_ctV hV), ch_made hV ids⟩
end
end Go.Proofs.YtdpmjaelbjjanaaGreat
