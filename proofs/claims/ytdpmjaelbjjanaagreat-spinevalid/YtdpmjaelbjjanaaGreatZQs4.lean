/- Tokens are what is made of their items just where each is alone, and each two that stand side by side may. The vocabulary of the laws' case, its rows being none of its box; how it stands while it is used. Contracts of package spine: beside, Valid, First. The example of the laws of layer 14. The document's walk along two spines; a token by a number; the laws' table. SpineAlone: the walk. SpineWalks: the walk. -/
import Derived.Test.YtdpmjaelbjjanaaGreatZQa39
import Derived.Test.YtdpmjaelbjjanaaGreatZQs2
import Derived.Test.YtdpmjaelbjjanaaGreatZQv0
import Derived.Test.YtdpmjaelbjjanaaGreatZQs1
import Derived.Test.YtdpmjaelbjjanaaGreatZQs3
import Derived.Test.YtdpmjaelbjjanaaGreatZQa33
import Derived.Test.YtdpmjaelbjjanaaGreatZQa23
import Derived.Test.YtdpmjaelbjjanaaGreatZQa25
import Derived.Deep.RegionHeld3
namespace Go.Proofs.YtdpmjaelbjjanaaGreat
open Go.RowKit Go.Maps
set_option linter.unusedVariables false
set_option linter.unusedSimpArgs false

section
variable {c : Int → Int → Bool}
/-- Nothing is cut in it. -/
def Unc (c : Int → Int → Bool) (p : List Int) : Prop := ∀ u a b v, p = u ++ a :: b :: v → c a b = false
theorem Unc.left {p r : List Int} (h : Unc c (p ++ r)) : Unc c p := fun u a b v e => h u a b (v ++ r) (by rw [e]; simp)
theorem Unc.right {p r : List Int} (h : Unc c (p ++ r)) : Unc c r := fun u a b v e => h (p ++ u) a b v (by rw [e]; simp)
theorem unc_rns : ∀ (l : List Int), Unc c l → l ≠ [] → rns c l = [l]
  | [], _, h => absurd rfl h
  | [a], _, _ => rfl
  | a :: b :: l, hu, _ => by
    rw [rns, if_neg (by rw [hu [] a b l rfl]; simp), unc_rns (b :: l) (Unc.right (p := [a]) hu) (by simp)]
    rfl
theorem rns_unc {I p : List Int} (hp : p ∈ rns c I) : Unc c p := fun u a b v e => rns_in I p hp u a b v e
theorem rns_front {x : Int} {r p : List Int} {rest : List (List Int)} (h : rns c (x :: r) = p :: rest) : ∀ l, Unc c (l ++ [x]) → rns c (l ++ x :: r) = (l ++ p) :: rest
  | [], _ => h
  | [a], hu => by
    have h1 : c a x = false := hu [] a x [] rfl
    show rns c (a :: x :: r) = _
    rw [rns, if_neg (by rw [h1]; simp), h]
    rfl
  | a :: b :: l, hu => by
    have h1 : c a b = false := hu [] a b (l ++ [x]) rfl
    have ih := rns_front h (b :: l) (Unc.right (p := [a]) hu)
    simp only [List.cons_append] at ih ⊢
    rw [rns, if_neg (by rw [h1]; simp), ih]
    rfl
theorem rns_cons : ∀ (I : List Int), I ≠ [] → ∃ p I', I = p ++ I' ∧ rns c I = p :: rns c I' ∧ p ≠ [] ∧ (I' = [] ∨ ∃ u x y v, p = u ++ [x] ∧ I' = y :: v ∧ c x y = true)
  | [], h => absurd rfl h
  | [a], _ => ⟨[a], [], rfl, rfl, by simp, Or.inl rfl⟩
  | a :: b :: l, _ => by
    cases hc : c a b with
    | true => exact ⟨[a], b :: l, rfl, by rw [rns, if_pos hc], by simp, Or.inr ⟨[], a, b, l, rfl, rfl, hc⟩⟩
    | false =>
      obtain ⟨p, I', h1, h2, h3, h4⟩ := rns_cons (b :: l) (by simp)
      refine ⟨a :: p, I', by rw [h1]; rfl, by rw [rns, if_neg (by rw [hc]; simp), h2]; rfl, by simp, ?_⟩
      rcases h4 with h4 | ⟨u, x, y, v, e1, e2, e3⟩
      · exact Or.inl h4
      · exact Or.inr ⟨a :: u, x, y, v, by rw [e1]; rfl, e2, e3⟩
end

section
variable {s : Wf.Sp}
abbrev itm (s : Wf.Sp) (x : Int) : List Int := (itV s.specials (txT s) x).getD []
abbrev ctV (s : Wf.Sp) (ids : List Int) : List Int := catV s.specials (txT s) ids
abbrev qI (s : Wf.Sp) : Int → Int → Bool := icE (cuE s)
theorem ctV_cons (x : Int) (r : List Int) : ctV s (x :: r) = itm s x ++ ctV s r := by
  show catV _ _ _ = _ ++ catV _ _ _
  unfold catV
  rw [List.flatMap_cons]
theorem enS_nil : enS s [] = [] := rfl
theorem enS_cons {I I' p : List Int} (h : rns (qI s) I = p :: rns (qI s) I') : enS s I = mkE1 s p ++ enS s I' := by
  show encG _ _ _ _ _ = _
  unfold encG
  rw [h, List.flatMap_cons]
  rfl
theorem bL_it (s : Wf.Sp) (x : Int) : bL (txT s) x = itE (gs (txT s) x.toNat).data.toList := by
  unfold bL itE
  rw [bys_all]
theorem mk_bytes {p : List Int} (hp : Bt p) : mkE1 s p = enc (mgT s) (mgT s).length p := by
  have h0 : ¬ p.getD 0 0 < 0 := by
    cases p with
    | nil => simp
    | cons a r => have := hp a (by simp); simp; omega
  unfold mkE1 mk1E
  rw [if_neg h0]
  unfold made tE
  rw [rnds_all (tokT s), bys_all]
  exact congrArg _ (bys_bsE hp)
theorem mk_mark {m : Int} (hm : m < 0) : mkE1 s [m] = [idE s.specials m] := by
  unfold mkE1 mk1E
  rw [if_pos (by simpa using hm)]
  rfl
theorem spc_mkF (s : Wf.Sp) (x : Int) : spcV s x = decide (mkF s.specials x < 0) := by
  rw [Bool.eq_iff_iff, decide_eq_true_iff, mkF_mem]
  unfold spcV
  simp
theorem tok_spc {x : Int} (h : spcV s x = true) : ∃ m, m < 0 ∧ itm s x = [m] ∧ idE s.specials m = x := by
  rw [spc_mkF, decide_eq_true_iff] at h
  rcases mkF_cases s.specials x with ⟨k, hk, _, h1, h2⟩ | ⟨_, h2⟩
  · refine ⟨mkF s.specials x, h, ?_, ?_⟩
    · show (itV s.specials (txT s) x).getD [] = _
      unfold itV
      rw [if_pos h]
      rfl
    · rw [h2]
      unfold idE
      rw [show (-1 - (-1 - (k : Int))).toNat = k by omega]
      exact h1
  · omega
theorem tok_ord {x : Int} (h : spcV s x = false) (hx : inT (txT s) x) : itm s x = bL (txT s) x := by
  rw [spc_mkF, decide_eq_false_iff_not] at h
  show (itV s.specials (txT s) x).getD [] = _
  unfold itV
  rw [if_neg h, if_pos ⟨hx.1, hx.2⟩, bL_it]
  rfl
theorem spc_id {m : Int} (hm : m < 0) (hl : -(s.specials.length : Int) ≤ m) : spcV s (idE s.specials m) = true := by
  unfold spcV idE
  have hk : (-1 - m).toNat < s.specials.length := by omega
  rw [List.any_eq_true]
  exact ⟨s.specials[(-1 - m).toNat], List.getElem_mem hk, by simp [Mk.gS, hk]⟩
theorem spc_ord (hV : VOk s) {x : Int} (hx : inT (txT s) x) : spcV s x = false := by
  rw [spc_mkF, decide_eq_false_iff_not, mkF_in hV hx.1 hx.2]
  omega

/-- An ordinary one that is alone. -/
def OrdA (s : Wf.Sp) (x : Int) : Prop := inT (txT s) x ∧ Al (txT s) (mgT s) x ∧ Unc (qI s) (bL (txT s) x)
theorem ord_ne {x : Int} (hx : inT (txT s) x) : bL (txT s) x ≠ [] := bL_ne (tokT s) _ _ (Nat.le_refl _) hx
theorem alone_ord (hV : VOk s) {x : Int} (hx : inT (txT s) x) : aloneV s x = true ↔ OrdA s x := by
  have e : ((x.toNat : Nat) : Int) = x := by have := hx.1; omega
  unfold aloneV OrdA
  rw [spc_ord hV hx, Bool.false_or, decide_eq_true (show 0 ≤ x ∧ x < ((txT s).length : Int) from hx), Bool.true_and]
  unfold alF
  rw [Bool.and_eq_true]
  have h1 : madeF s x.toNat = true ↔ Al (txT s) (mgT s) x := by
    rw [← alB_iff (tokT s)]
    unfold madeF alB
    rw [e]
  have h2 : wholeF s x.toNat = true ↔ Unc (qI s) (bL (txT s) x) := by
    unfold wholeF
    rw [decide_eq_true_iff]
    have hr := rns_it (cuE s) (gs (txT s) x.toNat).data.toList
    rw [← bL_it] at hr
    have hl := congrArg List.length hr
    rw [List.length_map] at hl
    have hne := ord_ne hx
    constructor
    · intro h
      have hlt : (rns (qI s) (bL (txT s) x)).length < 2 := by
        show (rns (icE (cuE s)) (bL (txT s) x)).length < 2
        rw [hl]
        exact h
      have hf := rns_flat (c := qI s) (bL (txT s) x)
      match hg : rns (qI s) (bL (txT s) x), hlt with
      | [], _ => rw [hg] at hf; simp at hf; exact absurd hf hne
      | [p], _ =>
        rw [hg] at hf
        simp at hf
        rw [← hf]
        exact rns_unc (I := bL (txT s) x) (by rw [hg]; simp)
      | a :: b :: r, h => simp at h; omega
    · intro h
      have := unc_rns _ h hne
      have h3 : (rns (icE (cuE s)) (bL (txT s) x)).length = 1 := by
        show (rns (qI s) (bL (txT s) x)).length = 1
        rw [this]; rfl
      have h4 : (Wf.Bq.pcs (cuE s) (gs (txT s) x.toNat).data.toList).length = 1 := by omega
      show (Wf.Bq.pcs (cuE s) (gs (txT s) x.toNat).data.toList).length < 2
      omega
  rw [h1, h2]
  exact ⟨fun h => ⟨hx, h.2, h.1⟩, fun h => ⟨h.2.2, h.2.1⟩⟩
theorem alone_kind {x : Int} (h : aloneV s x = true) : spcV s x = true ∨ (spcV s x = false ∧ inT (txT s) x) := by
  unfold aloneV at h
  cases hs : spcV s x with
  | true => exact Or.inl rfl
  | false =>
    rw [hs, Bool.false_or, Bool.and_eq_true, decide_eq_true_iff] at h
    exact Or.inr ⟨rfl, h.1⟩
theorem alone_has {x : Int} (h : aloneV s x = true) : hasV s x = true := by
  unfold hasV
  rcases alone_kind h with h | ⟨_, h⟩
  · rw [h]; rfl
  · rw [decide_eq_true (show 0 ≤ x ∧ x < ((txT s).length : Int) from h), Bool.or_true]

/-- May two that are alone stand side by side? -/
def besV (s : Wf.Sp) (x y : Int) : Bool := spcV s x || spcV s y || Wf.Bq.btw (cuE s) (gs (txT s) x.toNat).data.toList (gs (txT s) y.toNat).data.toList || (wk (mgT s) x y 9223372036854775807).1
theorem btw_it {q : Int → Int → Bool} {a b : List UInt8} {u v : List Int} {i j : Int} (h1 : itE a = u ++ [i]) (h2 : itE b = j :: v) : Wf.Bq.btw q a b = q i j := by
  unfold itE at h1 h2
  cases b with
  | nil => simp at h2
  | cons y r =>
    rcases List.eq_nil_or_concat a with rfl | ⟨a', x, rfl⟩
    · simp at h1
    · rw [List.concat_eq_append] at *
      simp at h1 h2
      unfold Wf.Bq.btw
      simp [h1.2, h2.1]
/-- Each is alone, and each two that stand side by side may. -/
def ChV (s : Wf.Sp) : List Int → Prop
  | [] => True
  | [a] => aloneV s a = true
  | a :: b :: r => aloneV s a = true ∧ besV s a b = true ∧ ChV s (b :: r)
theorem ChV.head {a : Int} {r : List Int} (h : ChV s (a :: r)) : aloneV s a = true := by
  cases r with
  | nil => exact h
  | cons b r => exact h.1
theorem ch_app {x y : Int} {v : List Int} (h2 : ChV s (y :: v)) (hb : besV s x y = true) : ∀ u, ChV s (u ++ [x]) → ChV s (u ++ x :: y :: v)
  | [], h => ⟨h, hb, h2⟩
  | [a], h => ⟨h.1, h.2.1, ch_app h2 hb [] h.2.2⟩
  | a :: b :: u, h => ⟨h.1, h.2.1, ch_app h2 hb (b :: u) h.2.2⟩
theorem ch_snoc {x : Int} : ∀ l, ChV s (l ++ [x]) ↔ ChV s l ∧ aloneV s x = true ∧ ∀ y, l.getLast? = some y → besV s y x = true
  | [] => ⟨fun h => ⟨trivial, h, fun y h => by cases h⟩, fun h => h.2.1⟩
  | [a] => by
    simp only [List.cons_append, List.nil_append, ChV, List.getLast?_singleton, Option.some.injEq]
    exact ⟨fun h => ⟨h.1, h.2.2, fun y e => by rw [← e]; exact h.2.1⟩, fun h => ⟨h.1, h.2.2 a rfl, h.2.1⟩⟩
  | a :: b :: l => by
    have ih := ch_snoc (x := x) (b :: l)
    have e : (a :: b :: l).getLast? = (b :: l).getLast? := by simp [List.getLast?_cons_cons]
    rw [e]
    simp only [List.cons_append] at ih ⊢
    constructor
    · rintro ⟨h1, h2, h3⟩
      have := ih.1 h3
      exact ⟨⟨h1, h2, this.1⟩, this.2⟩
    · rintro ⟨⟨h1, h2, h3⟩, h4⟩
      exact ⟨h1, h2, ih.2 ⟨h3, h4⟩⟩

theorem txt_itE (tx : List ByteArray) {mg : List (Int × Int)} (hk : Tok tx mg) : ∀ {l : List Int}, Bt l → itE (txt tx l) = l
  | [], _ => rfl
  | x :: r, h => by
    have hx := h x (by simp)
    have ih := txt_itE tx hk (fun y hy => h y (List.mem_cons_of_mem _ hy))
    have hb := bL_byte hk hx.1 hx.2
    unfold bL at hb
    rw [bys_all] at hb
    unfold itE at ih ⊢
    rw [txt, List.map_append, ih, hb]
    rfl
/-- Bytes of which just one is made are its. -/
theorem enc_one_bL {p : List Int} (hp : Bt p) {n : Nat} (hn : n ≤ (mgT s).length) {x : Int} (h : enc (mgT s) n p = [x]) : p = bL (txT s) x := by
  have h1 := txt_enc (tokT s) p n hn
  rw [h] at h1
  rw [← txt_itE (txT s) (tokT s) hp, ← h1, bL_it]
  simp [txt]
theorem inT_of {p : List Int} (hp : Bt p) {x : Int} (h : x ∈ enc (mgT s) (mgT s).length p) : inT (txT s) x := by
  refine enc_in (tokT s) (fun y hy => ?_) _ (Nat.le_refl _) x h
  have := hp y hy
  have := (tokT s).len
  exact ⟨by omega, by omega⟩
theorem bt_parts {p r : List Int} (h : Bt (p ++ r)) : Bt p ∧ Bt r := ⟨fun x hx => h x (List.mem_append_left _ hx), fun x hx => h x (List.mem_append_right _ hx)⟩
theorem big_le (s : Wf.Sp) : 256 + ((mgT s).length : Int) ≤ 9223372036854775807 := by
  have h1 := (tokT s).len
  have h2 := (tokT s).cap
  omega
/-- What is made of a run of bytes. -/
theorem run_ch (hV : VOk s) : ∀ (e p : List Int), Bt p → Unc (qI s) p → enc (mgT s) (mgT s).length p = e → ChV s e
  | [], _, _, _, _ => trivial
  | x :: r, p, hp, hu, h => by
    obtain ⟨p1, p2, e1, e2, e3⟩ := enc_split (mg := mgT s) _ p [x] r (by rw [h]; rfl)
    subst e1
    obtain ⟨b1, b2⟩ := bt_parts hp
    have hx : inT (txT s) x := inT_of hp (by rw [h]; simp)
    have f1 : p1 = bL (txT s) x := enc_one_bL b1 (Nat.le_refl _) e2.symm
    have ax : Al (txT s) (mgT s) x := by unfold Al; rw [← f1]; exact e2.symm
    have al : aloneV s x = true := (alone_ord hV hx).2 ⟨hx, ax, by rw [← f1]; exact hu.left⟩
    have ih := run_ch hV r p2 b2 hu.right e3.symm
    cases r with
    | nil => exact al
    | cons y r =>
      refine ⟨al, ?_, ih⟩
      obtain ⟨p3, p4, e4, e5, e6⟩ := enc_split (mg := mgT s) _ p2 [y] r (by rw [← e3]; rfl)
      subst e4
      obtain ⟨b3, b4⟩ := bt_parts b2
      have hy : inT (txT s) y := inT_of hp (by rw [h]; simp)
      have f3 : p3 = bL (txT s) y := enc_one_bL b3 (Nat.le_refl _) e5.symm
      have ay : Al (txT s) (mgT s) y := by unfold Al; rw [← f3]; exact e5.symm
      have hxy : enc (mgT s) (mgT s).length (bL (txT s) x ++ bL (txT s) y) = [x, y] := by
        have h2 : enc (mgT s) (mgT s).length ((p1 ++ p3) ++ p4) = [x, y] ++ r := by rw [List.append_assoc, h]; rfl
        have := (enc_sub (tokT s) (Nat.le_refl _) (b1.app b3) b4 h2 (by rw [show [x, y] = [x] ++ [y] from rfl, pos_app, pos_one, pos_one, List.length_append, f1, f3, bL_len, bL_len])).1
        rw [← f1, ← f3, ← this]
      unfold besV
      rw [(wk_all (tokT s) hx hy ax ay (big_le s)).2 hxy, Bool.or_true]
theorem first_tok (hV : VOk s) {I : List Int} (hI : ∀ x ∈ I, okE s.specials x) (hne : I ≠ []) : ∃ y r, enS s I = y :: r ∧ (spcV s y = true ∨ (inT (txT s) y ∧ ∃ v, I = bL (txT s) y ++ v)) := by
  obtain ⟨p, I', h1, h2, h3, _⟩ := rns_cons (c := qI s) I hne
  rw [enS_cons h2]
  rcases rns_kind (q := cuE s) I (p := p) (by show p ∈ rns (qI s) I; rw [h2]; simp) with ⟨m, rfl, hm⟩ | ⟨_, hpos⟩
  · rw [mk_mark hm]
    exact ⟨_, _, rfl, Or.inl (spc_id hm (hI m (by rw [h1]; simp)).2)⟩
  · have hp : Bt p := fun x hx => ⟨hpos x hx, (hI x (by rw [h1]; exact List.mem_append_left _ hx)).1⟩
    rw [mk_bytes hp]
    cases hg : enc (mgT s) (mgT s).length p with
    | nil => exact absurd hg (enc_ne _ h3)
    | cons y g =>
      refine ⟨y, _, rfl, Or.inr ⟨inT_of hp (by rw [hg]; simp), ?_⟩⟩
      obtain ⟨p1, p2, e1, e2, e3⟩ := enc_split (mg := mgT s) _ p [y] g (by rw [hg]; rfl)
      subst e1
      have f1 : p1 = bL (txT s) y := enc_one_bL (bt_parts hp).1 (Nat.le_refl _) e2.symm
      exact ⟨p2 ++ I', by rw [h1, f1, List.append_assoc]⟩
/-- What is made is such. -/
theorem made_ch (hV : VOk s) : ∀ (n : Nat) (I : List Int), I.length ≤ n → (∀ x ∈ I, okE s.specials x) → ChV s (enS s I) := by
  intro n
  induction n with
  | zero =>
    intro I hn _
    obtain rfl : I = [] := List.length_eq_zero_iff.1 (by omega)
    exact trivial
  | succ n ih =>
    intro I hn hI
    by_cases hne : I = []
    · subst hne; exact trivial
    obtain ⟨p, I', h1, h2, h3, h4⟩ := rns_cons (c := qI s) I hne
    have hp0 := List.length_pos_iff.2 h3
    have hI' : ∀ x ∈ I', okE s.specials x := fun x hx => hI x (by rw [h1]; exact List.mem_append_right _ hx)
    have ih' := ih I' (by rw [h1, List.length_append] at hn; omega) hI'
    rw [enS_cons h2]
    have hpm : p ∈ rns (icE (cuE s)) I := by show p ∈ rns (qI s) I; rw [h2]; simp
    have hA : ChV s (mkE1 s p) ∧ mkE1 s p ≠ [] ∧ ∀ u x, mkE1 s p = u ++ [x] → spcV s x = true ∨ (inT (txT s) x ∧ ∃ v, p = v ++ bL (txT s) x) := by
      rcases rns_kind (q := cuE s) I hpm with ⟨m, rfl, hm⟩ | ⟨_, hpos⟩
      · have hs := spc_id (s := s) hm (hI m (by rw [h1]; simp)).2
        rw [mk_mark hm]
        refine ⟨?_, by simp, fun u x e => ?_⟩
        · show aloneV s _ = true
          unfold aloneV
          rw [hs]; rfl
        · have : u = [] ∧ idE s.specials m = x := by
            cases u with
            | nil => simpa using e
            | cons a u => simp at e
          rw [← this.2]
          exact Or.inl hs
      · have hp : Bt p := fun x hx => ⟨hpos x hx, (hI x (by rw [h1]; exact List.mem_append_left _ hx)).1⟩
        rw [mk_bytes hp]
        refine ⟨run_ch hV _ p hp (rns_unc hpm) rfl, enc_ne _ h3, fun u x e => Or.inr ⟨inT_of hp (by rw [e]; simp), ?_⟩⟩
        obtain ⟨p1, p2, e1, e2, e3⟩ := enc_split (mg := mgT s) _ p u [x] e
        subst e1
        exact ⟨p1, by rw [← enc_one_bL (bt_parts hp).2 (Nat.le_refl _) e3.symm]⟩
    obtain ⟨hA1, hA2, hA3⟩ := hA
    rcases List.eq_nil_or_concat (mkE1 s p) with h | ⟨u, x, hx⟩
    · exact absurd h hA2
    rw [List.concat_eq_append] at hx
    rcases h4 with rfl | ⟨pu, i, j, v, e1, e2, e3⟩
    · rw [enS_nil, List.append_nil]
      exact hA1
    · obtain ⟨y, r, f1, f2⟩ := first_tok hV hI' (by rw [e2]; simp)
      rw [f1] at ih' ⊢
      rw [hx] at hA1 ⊢
      rw [List.append_assoc]
      refine ch_app ih' ?_ u hA1
      unfold besV
      rcases hA3 u x hx with h | ⟨hxt, w, hw⟩
      · rw [h]; rfl
      rcases f2 with h | ⟨hyt, w2, hw2⟩
      · rw [h, Bool.or_true]; rfl
      have hi : ∃ u', bL (txT s) x = u' ++ [i] := by
        rcases List.eq_nil_or_concat (bL (txT s) x) with h | ⟨u', k, hk⟩
        · exact absurd h (ord_ne hxt)
        · rw [List.concat_eq_append] at hk
          rw [hk, ← List.append_assoc, e1] at hw
          have := List.append_inj_right' hw rfl
          simp only [List.cons.injEq, and_true] at this
          exact ⟨u', by rw [this]; exact hk⟩
      have hj : ∃ v', bL (txT s) y = j :: v' := by
        cases hg : bL (txT s) y with
        | nil => exact absurd hg (ord_ne hyt)
        | cons k v' =>
          rw [hg, e2] at hw2
          simp only [List.cons_append, List.cons.injEq] at hw2
          exact ⟨v', by rw [hw2.1]⟩
      obtain ⟨u', hi⟩ := hi
      obtain ⟨v', hj⟩ := hj
      have ib := bL_bt (txT s) x i (by rw [hi]; simp)
      have jb := bL_bt (txT s) y j (by rw [hj]; simp)
      have hq : cuE s i j = true := by
        have h := e3
        show cuE s i j = true
        have h' : icE (cuE s) i j = true := h
        unfold icE at h'
        rw [decide_eq_false (by omega), decide_eq_false (by omega)] at h'
        simpa using h'
      rw [bL_it] at hi hj
      rw [btw_it hi hj, hq, Bool.or_true, Bool.true_or]
theorem ch_one (hV : VOk s) {a : Int} (ha : aloneV s a = true) : enS s (itm s a) = [a] := by
  rcases alone_kind ha with hs | ⟨hs, hx⟩
  · obtain ⟨m, hm, e1, e2⟩ := tok_spc hs
    rw [e1, enS_cons (p := [m]) (I' := []) rfl, mk_mark hm, e2]
    rfl
  · obtain ⟨_, ax, hu⟩ := (alone_ord hV hx).1 ha
    rw [tok_ord hs hx, enS_cons (p := bL (txT s) a) (I' := []) (unc_rns _ hu (ord_ne hx)), mk_bytes (bL_bt _ _), ax]
    rfl
/-- Such are what is made of their items. -/
theorem ch_made (hV : VOk s) : ∀ (ids : List Int), ChV s ids → enS s (ctV s ids) = ids
  | [], _ => rfl
  | [a], h => by
    rw [ctV_cons]
    show enS s (itm s a ++ []) = _
    rw [List.append_nil]
    exact ch_one hV h
  | a :: b :: r, h => by
    obtain ⟨ha, hb, hr⟩ := h
    have ih := ch_made hV (b :: r) hr
    have hba := hr.head
    rw [ctV_cons]
    have hIb := ctV_cons (s := s) b r
    have hitb : ∃ j v, itm s b = j :: v ∧ ctV s (b :: r) = j :: (v ++ ctV s r) := by
      have : itm s b ≠ [] := by
        rcases alone_kind hba with hs | ⟨hs, hx⟩
        · obtain ⟨m, hm, e1, e2⟩ := tok_spc hs
          rw [e1]; simp
        · rw [tok_ord hs hx]; exact ord_ne hx
      cases hg : itm s b with
      | nil => exact absurd hg this
      | cons j v => exact ⟨j, v, rfl, by rw [hIb, hg]; rfl⟩
    obtain ⟨j, v, hj, hI⟩ := hitb
    -- cut between the two
    have cut : ∀ u i, itm s a = u ++ [i] → icE (cuE s) i j = true → enS s (itm s a) = [a] → enS s (itm s a ++ ctV s (b :: r)) = a :: b :: r := by
      intro u i hi hc hone
      have h1 : rns (qI s) (itm s a ++ ctV s (b :: r)) = rns (qI s) (itm s a) ++ rns (qI s) (ctV s (b :: r)) := by
        rw [hI, hi, List.append_assoc]
        exact rns_cut (c := qI s) u i j _ hc
      have h2 : enS s (itm s a ++ ctV s (b :: r)) = enS s (itm s a) ++ enS s (ctV s (b :: r)) := by
        show encG _ _ _ _ _ = encG _ _ _ _ _ ++ encG _ _ _ _ _
        unfold encG
        rw [show rns (icE (cuE s)) (itm s a ++ ctV s (b :: r)) = rns (icE (cuE s)) (itm s a) ++ rns (icE (cuE s)) (ctV s (b :: r)) from h1, List.flatMap_append]
      rw [h2, hone, ih]
      rfl
    have hone := ch_one hV ha
    rcases alone_kind ha with hs | ⟨hs, hx⟩
    · obtain ⟨m, hm, e1, e2⟩ := tok_spc hs
      exact cut [] m (by rw [e1]; rfl) (by unfold icE; rw [decide_eq_true hm]; rfl) hone
    have hia := tok_ord hs hx
    rcases List.eq_nil_or_concat (itm s a) with h | ⟨u, i, hi⟩
    · exact absurd (hia.symm.trans h) (ord_ne hx)
    rw [List.concat_eq_append] at hi
    cases hc : icE (cuE s) i j with
    | true => exact cut u i hi hc hone
    | false =>
      obtain ⟨_, ax, hua⟩ := (alone_ord hV hx).1 ha
      have hc' := hc
      unfold icE at hc'
      rw [Bool.or_eq_false_iff, Bool.or_eq_false_iff, decide_eq_false_iff_not, decide_eq_false_iff_not] at hc'
      obtain ⟨⟨hi0, hj0⟩, hq⟩ := hc'
      rcases alone_kind hba with hsb | ⟨hsb, hy⟩
      · obtain ⟨m, hm, e1, e2⟩ := tok_spc hsb
        rw [e1] at hj
        simp only [List.cons.injEq] at hj
        omega
      have hib := tok_ord hsb hy
      obtain ⟨_, ay, hub⟩ := (alone_ord hV hy).1 hba
      have hw : enc (mgT s) (mgT s).length (bL (txT s) a ++ bL (txT s) b) = [a, b] := by
        refine (wk_all (tokT s) hx hy ax ay (big_le s)).1 ?_
        have hb' := hb
        unfold besV at hb'
        have f1 : itE (gs (txT s) a.toNat).data.toList = u ++ [i] := by rw [← bL_it, ← hia, hi]
        have f2 : itE (gs (txT s) b.toNat).data.toList = j :: v := by rw [← bL_it, ← hib, hj]
        rw [hs, hsb, btw_it f1 f2, show cuE s i j = false from hq] at hb'
        simpa using hb'
      -- the first run of what stands behind
      obtain ⟨p, I', g1, g2, g3, g4⟩ := rns_cons (c := qI s) (ctV s (b :: r)) (by rw [hI]; simp)
      have hpj : ∃ p', p = j :: p' := by
        cases p with
        | nil => exact absurd rfl g3
        | cons k p' => rw [hI] at g1; simp only [List.cons_append, List.cons.injEq] at g1; exact ⟨p', by rw [g1.1]⟩
      obtain ⟨p', hp'⟩ := hpj
      have hpm : p ∈ rns (icE (cuE s)) (ctV s (b :: r)) := by show p ∈ rns (qI s) _; rw [g2]; simp
      have hpb : Bt p := by
        rcases rns_kind (q := cuE s) _ hpm with ⟨m, hm1, hm2⟩ | ⟨_, hpos⟩
        · rw [hp'] at hm1; simp only [List.cons.injEq] at hm1; omega
        · intro x hxp
          refine ⟨hpos x hxp, ?_⟩
          have hmem : x ∈ ctV s (b :: r) := by rw [g1]; exact List.mem_append_left _ hxp
          have hmem' : x ∈ catV s.specials (txT s) (b :: r) := hmem
          unfold catV at hmem'
          obtain ⟨t, _, hxt⟩ := List.mem_flatMap.1 hmem'
          unfold itV at hxt
          split at hxt
          · simp at hxt; have := hpos x hxp; omega
          · split at hxt
            · simp [Mk.bys] at hxt
              obtain ⟨z, _, hz⟩ := hxt
              have := z.toNat_lt
              omega
            · simp at hxt
      have hfr : rns (qI s) (bL (txT s) a ++ ctV s (b :: r)) = (bL (txT s) a ++ p) :: rns (qI s) I' := by
        have g2' := g2
        rw [hI] at g2' ⊢
        refine rns_front g2' (bL (txT s) a) ?_
        rw [← hia, hi]
        intro u2 x y v2 e
        by_cases hv : v2 = []
        · subst hv
          have e' : (u ++ [i]) ++ [j] = (u2 ++ [x]) ++ [y] := by simpa using e
          obtain ⟨e1, e2⟩ := List.append_inj' e' rfl
          obtain ⟨_, e3⟩ := List.append_inj' e1 rfl
          simp only [List.cons.injEq, and_true] at e2 e3
          rw [← e2, ← e3]
          exact hc
        · rcases List.eq_nil_or_concat v2 with h | ⟨v3, z, hz⟩
          · exact absurd h hv
          · rw [List.concat_eq_append] at hz
            subst hz
            have e' : (u ++ [i]) ++ [j] = (u2 ++ x :: y :: v3) ++ [z] := by simpa using e
            obtain ⟨e1, _⟩ := List.append_inj' e' rfl
            exact hua u2 x y v3 (by rw [← hia, hi, e1])
      rw [hia, enS_cons hfr, mk_bytes ((bL_bt _ _).app hpb)]
      have ih2 := ih
      rw [enS_cons g2, mk_bytes hpb] at ih2
      cases hg : enc (mgT s) (mgT s).length p with
      | nil => exact absurd hg (enc_ne _ g3)
      | cons b' g =>
        rw [hg] at ih2
        simp only [List.cons_append, List.cons.injEq] at ih2
        obtain ⟨hbb, hgr⟩ := ih2
        subst hbb
        obtain ⟨p1, p2, e1, e2, e3⟩ := enc_split (mg := mgT s) _ p [b'] g (by rw [hg]; rfl)
        have f1 : p1 = bL (txT s) b' := enc_one_bL (bt_parts (by rw [← e1]; exact hpb)).1 (Nat.le_refl _) e2.symm
        have b2 : Bt p2 := (bt_parts (by rw [← e1]; exact hpb)).2
        have k1 : enc (mgT s) (mgT s).length (bL (txT s) a ++ bL (txT s) b') = enc (mgT s) (mgT s).length (bL (txT s) a) ++ enc (mgT s) (mgT s).length (bL (txT s) b') := by rw [hw, ax, ay]; rfl
        have k2 : enc (mgT s) (mgT s).length (bL (txT s) b' ++ p2) = enc (mgT s) (mgT s).length (bL (txT s) b') ++ enc (mgT s) (mgT s).length p2 := by rw [← f1, ← e1, hg, ← e2, ← e3]; rfl
        have k3 := enc_three (tokT s) (bL_bt (txT s) a) (bL_bt (txT s) b') b2 (ord_ne hy) _ (Nat.le_refl _) k1 k2
        rw [e1, f1, k3, ax, ay, ← e3, ← hgr]
        rfl
theorem ok_ctV (hV : VOk s) {ids : List Int} : ∀ x ∈ ctV s ids, okE s.specials x := by
  intro x hx
  have hx' : x ∈ catV s.specials (txT s) ids := hx
  unfold catV at hx'
  obtain ⟨t, _, hxt⟩ := List.mem_flatMap.1 hx'
  unfold itV at hxt
  split at hxt
  · rcases mkF_cases s.specials t with ⟨k, hk, _, _, h2⟩ | ⟨_, h2⟩
    · simp at hxt
      exact ⟨by omega, by omega⟩
    · omega
  · split at hxt
    · simp [Mk.bys] at hxt
      obtain ⟨z, _, hz⟩ := hxt
      have := z.toNat_lt
      exact ⟨by omega, by omega⟩
    · simp at hxt
/-- Tokens that are there are what is made of their items just where they are such. -/
theorem canon_iff (hV : VOk s) {ids : List Int} : enS s (ctV s ids) = ids ↔ ChV s ids :=
  ⟨fun h => by rw [← h]; exact made_ch hV _ _ (Nat.le_refl _) (ok_ctV hV), ch_made hV ids⟩
end
end Go.Proofs.YtdpmjaelbjjanaaGreat

namespace Go.Proofs.YtdpmjaelbjjanaaGreat
open Go.RowKit Go.Maps
set_option linter.unusedVariables false
set_option linter.unusedSimpArgs false

theorem row_off {α : Type} {B E k : Nat} {e : α → List Value} {ao : Option Addr} {n cap : Nat} {l : List α} {W : World} (h : Wf.Row B E k e ao n cap l W) (h0 : 0 < n) {b off : Nat} (ea : ao = some ⟨b, off, none⟩) {q : Nat} {cs : Array Value} {T : TypeId} (hb : W.heap[q]? = some (.cells cs T (0, 0))) (hT : T ≠ E) : b ≠ q := by
  rintro rfl
  subst ea
  rcases h.own.2 with ⟨e1, _⟩ | ⟨g, c, cur, e1, _, hg, _⟩
  · simp at e1
  · simp only [Value.slice.injEq, Option.some.injEq, Addr.mk.injEq] at e1
    obtain ⟨⟨rfl, _⟩, _⟩ := e1
    rw [hb] at hg
    simp only [Option.some.injEq, Obj.cells.injEq] at hg
    exact hT hg.2.1

/-- What comes of Of. -/
def OcX (w : World) (e : Ending) (w' : World) : Prop :=
  (∃ (s : Wf.Sp) (q : Nat) (z : VV) (B : Nat) (vb vm : Value) (a4 : Option Addr) (n4 c4 : Nat) (a5 : Option Addr) (n5 c5 : Nat) (a3 : Option Addr) (n3 c3 : Nat), e = .returned (.tuple #[.pointer (some ⟨q, 0, none⟩), .agg #[vb, vm, .slice a4 n4 c4, .slice a5 n5 c5, .slice a3 n3 c3]]) ∧
    VOk s ∧ okB s ∧ s.specials.length ≤ 1000 ∧ w.heap.size ≤ q ∧ Ve B q z s 0 w' ∧ DvP s vb vm a4 n4 a5 n5 a3 n3 w' ∧ (0 < n4 → ∀ b off, a4 = some ⟨b, off, none⟩ → b ≠ q) ∧ (0 < n5 → ∀ b off, a5 = some ⟨b, off, none⟩ → b ≠ q)) ∧ Below w.heap.size w w'

set_option maxRecDepth 20000 in
set_option maxHeartbeats 8000000 in
theorem cofx_any (c : CsR) (w : World) (h : CsAt c w) (hf : CsF c) : Calls Tryz.prog 11 #[.agg c.cells] w (OcX w) := by
  have hlo := Wf.low_alloc w (.cells c.cells 27)
  have hlo2 := Wf.low_alloc (w.alloc (.cells c.cells 27)) (.cells rz5 38)
  have hB0 := below_step hlo hlo2
  have HB0 := hide hB0
  have hbx := heap_alloc_new w (.cells c.cells 27)
  have hres := heap_alloc_new (w.alloc (.cells c.cells 27)) (.cells rz5 38)
  rw [World.size_alloc] at hres
  have HRS := hide hres
  have h1 := h.kept hB0
  have HSM := hide (rsome_any c.au c.nu c.cu c.U c.ac c.nc c.cc c.C c.aj c.nj c.cj c.J c.ax c.nx c.cx c.X _ h1.hU h1.hC h1.hJ h1.hX (by have := hf.fu; omega) (by have := hf.fc; omega) (by have := hf.fj; omega) (by have := hf.fx; omega) h1.q2 h1.q3)
  clear h hlo hlo2 hf h1 hB0 hres
  obtain ⟨au, nu, cu, U, ac, nc, cc, C, aj, nj, cj, J, ax, nx, cx, X⟩ := c
  simp only [CsR.cells] at *
  have y0 := Lib.cell_of_heap hbx 0
  have y1 := Lib.cell_of_heap hbx 1
  have y2 := Lib.cell_of_heap hbx 2
  have y3 := Lib.cell_of_heap hbx 3
  clear hbx
  go_enter Tryz.func11, Tryz.ntmps11
  go_wp2_with fail
  refine (unhide HSM).mono ?_
  clear HSM y0 y1 y2 y3
  generalize (w.alloc (.cells #[.slice au nu cu, .slice ac nc cc, .slice aj nj cj, .slice ax nx cx] 27)).alloc (.cells rz5 38) = W0 at *
  rintro e w3 ⟨⟨ys, s, tx, mg, rfl, hR, hG, hrw⟩, hb3⟩
  have hB3 := below_step HB0.out hb3
  have HRS3 := hide ((hb3.block _ (Array.getElem?_eq_some_iff.1 HRS.out).1).trans HRS.out)
  have hlo := Wf.low_alloc w3 (.cells ys.cs 81)
  have HB4 := hide (below_step hB3 hlo)
  have HRS4 := hide ((hlo.block _ (Array.getElem?_eq_some_iff.1 HRS3.out).1).trans HRS3.out)
  have HRT := hide (smg_right hG hR)
  have HOK := hide (smg_ok hG hR)
  have HOB := hide (smg_okb hG)
  have HRW : Hid (Wf.SpRw w.heap.size ys s (w3.alloc (.cells ys.cs 81))) := hide ((hrw.low hlo).mono HB0.out.size)
  have HNW := hide (vnew_any ys s _ HRW.out.spec)
  have HNS := hide (at_le HRW.out.spec HRT.out)
  have hbx0 := Wf.BxS.new w3 ys 81
  have HBX := hide hbx0
  obtain ⟨y0, y1, y2, y3, y4, y5⟩ := hbx0
  have hqs : w3.heap.size < (w3.alloc (.cells ys.cs 81)).heap.size := by simp
  have HQS := hide hqs
  have HLS := hide HRW.out.spec.ss.1
  clear hb3 hB3 hlo hR hG hrw hqs HRS HRS3 HB0
  obtain ⟨r, a1, n1, c1, a2, n2, c2, a3, n3, c3, a4, n4, c4, a5, n5, c5⟩ := ys
  simp only at y0 y1 y2 y3 y4 y5 HLS
  go_wp2_with fail
  generalize w3.heap.size = qs at *
  generalize (w3.alloc (.cells (Wf.Sv.mk r a1 n1 c1 a2 n2 c2 a3 n3 c3 a4 n4 c4 a5 n5 c5).cs 81)) = W1 at *
  refine (unhide HNW).mono ?_
  rintro e W2 ⟨hP, hb⟩
  rcases hP with ⟨hr, _⟩ | ⟨_, ⟨q, z, _, rfl, hz⟩ | ⟨p, k, er, hbad, _⟩⟩
  · exact absurd ((Wf.rightB_iff s).2 HRT.out) (by rw [hr]; simp)
  rotate_left
  · exact (hbad.not HOK.out).elim
  have HZ := hide hz
  have HQ : Hid (w.heap.size ≤ q ∧ W1.heap.size ≤ q) := hide ⟨Nat.le_trans HB4.out.size hz.hq, hz.hq⟩
  have HRQ : Hid (w.heap.size + 1 < W1.heap.size) := hide (Array.getElem?_eq_some_iff.1 HRS4.out).1
  have HB5 := hide (below_step HB4.out hb)
  have HRS5 := hide ((hb.block _ (Array.getElem?_eq_some_iff.1 HRS4.out).1).trans HRS4.out)
  have HRW2 := hide (HRW.out.low hb)
  have HBX2 := hide (HBX.out.kept HQS.out hb)
  have HOF := hide (rof_any _ s W2 HRW2.out.spec HRT.out HOK.out)
  clear hz hb HNW y0 y1 y2 y3 y4 y5 HBX HRW HRS4 HQS
  obtain ⟨y0, y1, y2, y3, y4, y5⟩ := HBX2.out
  simp only at y0 y1 y2 y3 y4 y5
  go_wp2_with fail
  refine (unhide HOF).mono ?_
  rintro e W3 ⟨⟨vb, vm, rfl, hT⟩, hb⟩
  obtain ⟨e1, d1, rfl⟩ := row_form hT.rb
  obtain ⟨e2, d2, rfl⟩ := row_form hT.rm
  have HZ3 := hide (HZ.out.low hb)
  have HB6 := hide (below_step HB5.out hb)
  have HRS6 := hide ((hb.block _ (Array.getElem?_eq_some_iff.1 HRS5.out).1).trans HRS5.out)
  have HRW3 := hide (HRW2.out.low hb)
  have HT := hide hT
  clear hT hb HOF HBX2 HZ HB5 HRS5 HRW2 y0 y1 y2 y3 y4 y5
  generalize hN1 : (txT s).length = N1 at *
  generalize hN2 : (mgT s).length = N2 at *
  have HN := hide (And.intro hN1 hN2)
  clear hN1 hN2
  have x0 := Lib.frozen_of_heap HRS6.out 0
  have x1 := Lib.frozen_of_heap HRS6.out 1
  have x2 := Lib.frozen_of_heap HRS6.out 2
  have x3 := Lib.frozen_of_heap HRS6.out 3
  have x4 := Lib.frozen_of_heap HRS6.out 4
  have z0 := Lib.cell_of_heap HRS6.out 0
  have z1 := Lib.cell_of_heap HRS6.out 1
  have z2 := Lib.cell_of_heap HRS6.out 2
  have z3 := Lib.cell_of_heap HRS6.out 3
  have z4 := Lib.cell_of_heap HRS6.out 4
  go_wp2
  have HF : Hid (FrL [w.heap.size + 1] W3 (((((W3.setCell ⟨w.heap.size + 1, 0, none⟩ (.slice e1 N1 d1)).setCell ⟨w.heap.size + 1, 1, none⟩ (.slice e2 N2 d2)).setCell ⟨w.heap.size + 1, 2, none⟩ (.slice a4 n4 c4)).setCell ⟨w.heap.size + 1, 3, none⟩ (.slice a5 n5 c5)).setCell ⟨w.heap.size + 1, 4, none⟩ (.slice a3 n3 c3))) := hide ((((((FrL.refl [w.heap.size + 1] W3).set (b := w.heap.size + 1) (o := 0) (by simp) (.slice e1 N1 d1)).set (b := w.heap.size + 1) (o := 1) (by simp) (.slice e2 N2 d2)).set (b := w.heap.size + 1) (o := 2) (by simp) (.slice a4 n4 c4)).set (b := w.heap.size + 1) (o := 3) (by simp) (.slice a5 n5 c5)).set (b := w.heap.size + 1) (o := 4) (by simp) (.slice a3 n3 c3))
  have HZZ : Hid ((((((W3.setCell ⟨w.heap.size + 1, 0, none⟩ (.slice e1 N1 d1)).setCell ⟨w.heap.size + 1, 1, none⟩ (.slice e2 N2 d2)).setCell ⟨w.heap.size + 1, 2, none⟩ (.slice a4 n4 c4)).setCell ⟨w.heap.size + 1, 3, none⟩ (.slice a5 n5 c5)).setCell ⟨w.heap.size + 1, 4, none⟩ (.slice a3 n3 c3)).heap[w.heap.size + 1]? = some (.cells #[.slice e1 N1 d1, .slice e2 N2 d2, .slice a4 n4 c4, .slice a5 n5 c5, .slice a3 n3 c3] 38 (0, 0))) := hide (by simpa using (Wf.set_block (Wf.set_block (Wf.set_block (Wf.set_block (Wf.set_block HRS6.out 0 (.slice e1 N1 d1)) 1 (.slice e2 N2 d2)) 2 (.slice a4 n4 c4)) 3 (.slice a5 n5 c5)) 4 (.slice a3 n3 c3)))
  generalize (((((W3.setCell ⟨w.heap.size + 1, 0, none⟩ (.slice e1 N1 d1)).setCell ⟨w.heap.size + 1, 1, none⟩ (.slice e2 N2 d2)).setCell ⟨w.heap.size + 1, 2, none⟩ (.slice a4 n4 c4)).setCell ⟨w.heap.size + 1, 3, none⟩ (.slice a5 n5 c5)).setCell ⟨w.heap.size + 1, 4, none⟩ (.slice a3 n3 c3)) = W4 at *
  have g0 := Lib.cell_of_heap HZZ.out 0
  have g1 := Lib.cell_of_heap HZZ.out 1
  have g2 := Lib.cell_of_heap HZZ.out 2
  have g3 := Lib.cell_of_heap HZZ.out 3
  have g4 := Lib.cell_of_heap HZZ.out 4
  have hV : IsV (w.heap.size + 1) W3 := isV_rz HRS6.out
  have hq1 := HQ.out
  have hq2 := HRQ.out
  obtain ⟨z', hz'⟩ := (HZ3.out.base HB4.out).other hV (by omega) (by omega) HF.out
  have hrw := rows_q HRW3.out hV HF.out
  have hns := HNS.out
  (try simp only [Exit.inBlock, Exit.then])
  refine bodyPost_ret (v := .tuple #[.pointer (some ⟨q, 0, none⟩), .agg #[.slice e1 N1 d1, .slice e2 N2 d2, .slice a4 n4 c4, .slice a5 n5 c5, .slice a3 n3 c3]]) (by simp [results, Tryz.results11, go_sem, g0, g1, g2, g3, g4]) rfl ?_
  refine ⟨⟨s, q, z', _, _, _, a4, n4, c4, a5, n5, c5, a3, n3, c3, rfl, HOK.out, HOB.out, by rw [HLS.out]; exact hns.n3, hq1.1, hz'.ve, ⟨HT.out.q HRS6.out (by decide) (by decide) HF.out, bd_at hrw.spec.cs, bj_at hrw.spec.js, mk_at hrw.spec.ss, hns.n4, hns.n5, hns.n3⟩, fun h0 b off e => row_off hrw.m4 h0 e hz'.ve.vu.box (by decide), fun h0 b off e => row_off hrw.m5 h0 e hz'.ve.vu.box (by decide)⟩, ?_⟩
  exact HB6.out.trans (HF.out.below HB6.out.size (fun k hk => by simp at hk; omega))

/-- Where the law stands: the vocabulary, and the document's. -/
structure SvS (w : World) (B q qd : Nat) (z : VV) (s : Wf.Sp) (vb vm : Value) (a4 : Option Addr) (n4 c4 : Nat) (a5 : Option Addr) (n5 c5 : Nat) (a3 : Option Addr) (n3 c3 : Nat) (W : World) : Prop where
  va : ∃ u d ax an, Va B q z s u d ax an 0 W
  bel : Below w.heap.size w W
  rt : RT vb vm (txT s) (mgT s) W
  rd : Mk.RdS W a3 n3 s.specials
  rc : Wf.Bq.RdC W a4 n4 s.classes
  rj : Wf.Bq.RdJ W a5 n5 s.joins
  ncq : 0 < n4 → ∀ b off, a4 = some ⟨b, off, none⟩ → b ≠ q
  njq : 0 < n5 → ∀ b off, a5 = some ⟨b, off, none⟩ → b ≠ q
  box : W.heap[qd]? = some (.cells #[vb, vm, .slice a4 n4 c4, .slice a5 n5 c5, .slice a3 n3 c3] 38 (0, 0))
  hq : w.heap.size ≤ q
section
variable {w : World} {B q qd : Nat} {z : VV} {s : Wf.Sp} {vb vm : Value} {a4 : Option Addr} {n4 c4 : Nat} {a5 : Option Addr} {n5 c5 : Nat} {a3 : Option Addr} {n3 c3 : Nat} {W W' : World}
theorem SvS.next (h : SvS w B q qd z s vb vm a4 n4 c4 a5 n5 c5 a3 n3 c3 W) (hb : Below W.heap.size W W') : SvS w B q qd z s vb vm a4 n4 c4 a5 n5 c5 a3 n3 c3 W' := by
  obtain ⟨u, d, ax, an, hv⟩ := h.va
  exact ⟨⟨u, d, ax, an, hv.low hb⟩, h.bel.trans (hb.mono h.bel.size), h.rt.kept hb, h.rd.kept hb, h.rc.kept hb, h.rj.kept hb, h.ncq, h.njq, by rw [hb.block _ (Array.getElem?_eq_some_iff.1 h.box).1]; exact h.box, h.hq⟩
theorem SvS.turned (h : SvS w B q qd z s vb vm a4 n4 c4 a5 n5 c5 a3 n3 c3 W) (hv : ∃ u d ax an, Va B q z s u d ax an 0 W') (hF : FrL [q] W W') : SvS w B q qd z s vb vm a4 n4 c4 a5 n5 c5 a3 n3 c3 W' := by
  obtain ⟨u, d, ax, an, hv0⟩ := h.va
  have hV : IsV q W := IsV.of hv0.box
  have hw := h.hq
  refine ⟨hv, h.bel.trans (hF.below h.bel.size (fun k hk => by simp at hk; omega)), h.rt.q hv0.box (by decide) (by decide) hF, ?_, ?_, ?_, h.ncq, h.njq, ?_, h.hq⟩
  · refine ⟨h.rd.1, ?_⟩
    rcases h.rd.2 with h0 | ⟨b, off, ha, hlt, hc⟩
    · exact Or.inl h0
    · rcases Nat.eq_zero_or_pos n3 with h0 | h0
      · exact Or.inl h0
      · have hne := hV.ne_str (hc 0 h0).2
        exact Or.inr ⟨b, off, ha, Nat.lt_of_lt_of_le hlt hF.size, fun i hi => ⟨frq hF (hc i hi).1 hne, frq hF (hc i hi).2 hne⟩⟩
  · refine ⟨h.rc.1, ?_⟩
    rcases h.rc.2 with h0 | ⟨b, off, ha, hlt, hc⟩
    · exact Or.inl h0
    · rcases Nat.eq_zero_or_pos n4 with h0 | h0
      · exact Or.inl h0
      · have hne := h.ncq h0 b off ha
        exact Or.inr ⟨b, off, ha, Nat.lt_of_lt_of_le hlt hF.size, fun i hi => ⟨frq hF (hc i hi).1 hne, frq hF (hc i hi).2.1 hne, frq hF (hc i hi).2.2 hne⟩⟩
  · refine ⟨h.rj.1, ?_⟩
    rcases h.rj.2 with h0 | ⟨b, off, ha, hlt, hc⟩
    · exact Or.inl h0
    · rcases Nat.eq_zero_or_pos n5 with h0 | h0
      · exact Or.inl h0
      · have hne := h.njq h0 b off ha
        exact Or.inr ⟨b, off, ha, Nat.lt_of_lt_of_le hlt hF.size, fun i hi => ⟨frq hF (hc i hi).1 hne, frq hF (hc i hi).2 hne⟩⟩
  · have hne : qd ≠ q := by
      rintro rfl
      have h1 := h.box
      rw [hv0.box] at h1
      simp only [Option.some.injEq, Obj.cells.injEq] at h1
      exact absurd h1.2.1 (by decide)
    rw [hF.block qd (Array.getElem?_eq_some_iff.1 h.box).1 (by simpa using hne)]
    exact h.box
theorem SvS.alone (h : SvS w B q qd z s vb vm a4 n4 c4 a5 n5 c5 a3 n3 c3 W) (hR : okB s) (hl : s.specials.length ≤ 1000) (id : Int) (hw : Mk.wfI id) :
    Calls Tryz.prog 59 #[.pointer (some ⟨q, 0, none⟩), .int .i64 id] W fun e w' => e = .returned (.bool (aloneV s id)) ∧ SvS w B q qd z s vb vm a4 n4 c4 a5 n5 c5 a3 n3 c3 w' := by
  obtain ⟨u, d, ax, an, hv⟩ := h.va
  exact (valone_any hv hR hl id hw).mono (fun e w' ⟨h1, h2, h3⟩ => ⟨h1, h.turned h2 h3⟩)
theorem SvS.cells (h : SvS w B q qd z s vb vm a4 n4 c4 a5 n5 c5 a3 n3 c3 W) : W.cell? ⟨qd, 0, none⟩ = some vb ∧ W.cell? ⟨qd, 1, none⟩ = some vm ∧ W.cell? ⟨qd, 2, none⟩ = some (.slice a4 n4 c4) ∧ W.cell? ⟨qd, 3, none⟩ = some (.slice a5 n5 c5) ∧ W.cell? ⟨qd, 4, none⟩ = some (.slice a3 n3 c3) :=
  ⟨Lib.cell_of_heap h.box 0, Lib.cell_of_heap h.box 1, Lib.cell_of_heap h.box 2, Lib.cell_of_heap h.box 3, Lib.cell_of_heap h.box 4⟩
end
end Go.Proofs.YtdpmjaelbjjanaaGreat

namespace Go.Proofs.YtdpmjaelbjjanaaGreat
open Go.RowKit Go.Maps
set_option linter.unusedVariables false
set_option linter.unusedSimpArgs false

/-- Two tokens of a vocabulary may stand side by side. -/
def validV (s : Wf.Sp) (x y : Int) : Bool := aloneV s x && (aloneV s y && besV s x y)
theorem spc_size {s : Wf.Sp} (hV : VOk s) {x : Int} (h : aloneV s x = true) : decide (((txT s).length : Int) ≤ x) = spcV s x := by
  rcases alone_kind h with hs | ⟨hs, hx⟩
  · rw [hs]
    refine decide_eq_true ?_
    unfold spcV at hs
    rw [List.any_eq_true] at hs
    obtain ⟨y, hy, hd⟩ := hs
    obtain ⟨j, hj, rfl⟩ := List.mem_iff_getElem.1 hy
    have h1 := hV.2.2 j hj
    have h2 := of_decide_eq_true hd
    have h3 : Mk.gS s.specials j = s.specials[j] := by simp [Mk.gS, hj]
    rw [h3] at h1
    omega
  · rw [hs]
    refine decide_eq_false ?_
    have := hx.2
    omega
section
variable {w W W' : World} {B q : Nat} {z : VV} {s : Wf.Sp} {u d m1 : Int} {ax : Option Addr} {an : Nat}
theorem vboundsV (h : Va B q z s u d ax an m1 W) : Calls Tryz.prog 94 #[.pointer (some ⟨q, 0, none⟩)] W fun e w' => e = .returned (.pointer (some ⟨z.pb, 0, none⟩)) ∧ w' = W := by
  have c9 := h.cells.2.2.2.1
  clear h
  go_enter Tryz.func94, Tryz.ntmps94
  go_wp2
  go_ret
  exact ⟨rfl, rfl⟩
theorem isspecial_any (h : Va B q z s u d ax an m1 W) (x : Int) : Calls Tryz.prog 93 #[.pointer (some ⟨q, 0, none⟩), .int .i64 x] W fun e w' => e = .returned (.bool (decide (((txT s).length : Int) ≤ x))) ∧ w' = W := by
  have KS := hide (vsize_c h.cells.2.1)
  clear h
  go_enter Tryz.func93, Tryz.ntmps93
  go_wp2_with fail
  refine (unhide KS).mono ?_
  rintro e w' ⟨rfl, hw⟩
  subst hw
  go_wp2
  go_ret
  exact ⟨rfl, rfl⟩

set_option maxRecDepth 20000 in
set_option maxHeartbeats 4000000 in
theorem beside_any (h : Va B q z s u d ax an m1 W) (hV : VOk s) (hR : okB s) {x y : Int} (hx : aloneV s x = true) (hy : aloneV s y = true) :
    Calls Tryz.prog 60 #[.pointer (some ⟨q, 0, none⟩), .pointer (some ⟨z.p, 0, none⟩), .int .i64 x, .int .i64 y] W fun e w' => e = .returned (.bool (besV s x y)) ∧ Below W.heap.size W w' := by
  have K1 := hide (isspecial_any h x)
  have K2 := hide (isspecial_any h y)
  rw [spc_size hV hx] at K1
  rw [spc_size hV hy] at K2
  have HV := hide h
  unfold besV
  cases h1 : spcV s x with
  | true =>
    rw [h1] at K1
    clear h hx hy h1 K2 HV
    go_enter Tryz.func60, Tryz.ntmps60
    go_wp2_with fail
    refine (unhide K1).mono ?_
    rintro e w' ⟨rfl, hw⟩
    subst hw
    go_wp2
    (try simp only [Exit.inBlock, Exit.then])
    refine bodyPost_ret (v := .bool true) (by simp [results, Tryz.results60, go_sem]) rfl ?_
    exact ⟨rfl, Below.refl _ _⟩
  | false =>
    rw [h1] at K1
    cases h2 : spcV s y with
    | true =>
      rw [h2] at K2
      clear h hx hy h1 h2 HV
      go_enter Tryz.func60, Tryz.ntmps60
      go_wp2_with fail
      refine (unhide K1).mono ?_
      rintro e w' ⟨rfl, hw⟩
      subst hw
      go_wp2_with fail
      refine (unhide K2).mono ?_
      rintro e w' ⟨rfl, hw⟩
      subst hw
      go_wp2
      (try simp only [Exit.inBlock, Exit.then])
      refine bodyPost_ret (v := .bool true) (by simp [results, Tryz.results60, go_sem]) rfl ?_
      exact ⟨rfl, Below.refl _ _⟩
    | false =>
      rw [h2] at K2
      have tx1 : inT (txT s) x := by rcases alone_kind hx with e | ⟨_, e⟩
                                     · rw [h1] at e; cases e
                                     · exact e
      have ty1 : inT (txT s) y := by rcases alone_kind hy with e | ⟨_, e⟩
                                     · rw [h2] at e; cases e
                                     · exact e
      have hsx := hsT_iff.2 tx1
      have hsy := hsT_iff.2 ty1
      have KX := hide (tbytesS h.tb.1 x)
      have KY := hide (tbytesS h.tb.1 y)
      have ex : gsT (txT s) x = gs (txT s) x.toNat := by unfold gsT; rw [hsx]; rfl
      have ey : gsT (txT s) y = gs (txT s) y.toNat := by unfold gsT; rw [hsy]; rfl
      rw [ex, hsx] at KX
      rw [ey, hsy] at KY
      have hzx := (tokT s).sz x.toNat (by have := tx1.1; have := tx1.2; omega)
      have KB := hide (vboundsV h)
      have KT := hide (Wf.Bq.between_any (bat_tb h.bd hR) (gs (txT s) x.toNat) (gs (txT s) y.toNat) (by omega))
      have KW := hide (fun W' (hb : Below W.heap.size W W') => walk_any (h.low hb).tb.1 (tokT s) x y 9223372036854775807)
      have ew : walkB (txT s) (mgT s) x y 9223372036854775807 = (wk (mgT s) x y 9223372036854775807).1 := by unfold walkB; rw [hsx, hsy]; rfl
      rw [ew] at KW
      clear h hx hy h1 h2 tx1 ty1 hsx hsy ex ey hzx ew HV
      generalize gs (txT s) x.toNat = t1 at *
      generalize gs (txT s) y.toNat = t2 at *
      have KT2 : Hid (Calls Tryz.prog 95 #[.pointer (some ⟨z.pb, 0, none⟩), .string t1, .string t2] W fun e w' => e = .returned (.bool (Wf.Bq.btw (cuE s) t1.data.toList t2.data.toList)) ∧ Below W.heap.size W w') := hide KT.out
      clear KT
      obtain ⟨bt, hbt⟩ : ∃ b, Wf.Bq.btw (cuE s) t1.data.toList t2.data.toList = b := ⟨_, rfl⟩
      obtain ⟨wb, hwb⟩ : ∃ b, (wk (mgT s) x y 9223372036854775807).1 = b := ⟨_, rfl⟩
      rw [hbt] at KT2
      rw [hwb] at KW
      rw [hbt, hwb]
      clear hbt hwb
      cases bt
      all_goals
        go_enter Tryz.func60, Tryz.ntmps60
        go_wp2_with fail
        refine (unhide K1).mono ?_
        rintro e w' ⟨rfl, hw⟩
        subst hw
        go_wp2_with fail
        refine (unhide K2).mono ?_
        rintro e w' ⟨rfl, hw⟩
        subst hw
        go_wp2_with fail
        refine (unhide KX).mono ?_
        rintro e w' ⟨rfl, hw⟩
        subst hw
        go_wp2_with fail
        refine (unhide KY).mono ?_
        rintro e w' ⟨rfl, hw⟩
        subst hw
        go_wp2_with fail
        refine (unhide KB).mono ?_
        rintro e w' ⟨rfl, hw⟩
        subst hw
        go_wp2_with fail
        refine (unhide KT2).mono ?_
        rintro e W1 ⟨rfl, hb⟩
        have HB1 := hide hb
        have KW1 := hide (KW.out _ hb)
        clear hb K1 K2 KX KY KB KT2 KW
      · go_wp2_with fail
        refine (unhide KW1).mono ?_
        rintro e W2 ⟨rfl, hb⟩
        have HB2 := hide (below_step HB1.out hb)
        clear hb KW1
        cases wb
        all_goals
          go_wp2
          go_ret
          exact ⟨rfl, HB2.out⟩
      · go_wp2
        go_ret
        exact ⟨rfl, HB1.out⟩
end

set_option maxRecDepth 20000 in
set_option maxHeartbeats 4000000 in
theorem valid_gen {M : World → Prop} {q p : Nat} {x y : Int} {b1 b2 b3 : Bool} {W : World} (K1 : Hid (Calls Tryz.prog 59 #[.pointer (some ⟨q, 0, none⟩), .int .i64 x] W fun e w' => e = .returned (.bool b1) ∧ M w'))
    (K2 : Hid (∀ W, M W → Calls Tryz.prog 59 #[.pointer (some ⟨q, 0, none⟩), .int .i64 y] W fun e w' => e = .returned (.bool b2) ∧ M w'))
    (K3 : Hid (∀ W, M W → Calls Tryz.prog 61 #[.pointer (some ⟨q, 0, none⟩)] W fun e w' => e = .returned (.pointer (some ⟨p, 0, none⟩)) ∧ M w'))
    (K4 : Hid (b1 = true → b2 = true → ∀ W, M W → Calls Tryz.prog 60 #[.pointer (some ⟨q, 0, none⟩), .pointer (some ⟨p, 0, none⟩), .int .i64 x, .int .i64 y] W fun e w' => e = .returned (.bool b3) ∧ M w')) :
    Calls Tryz.prog 29 #[.pointer (some ⟨q, 0, none⟩), .int .i64 x, .int .i64 y] W fun e w' => e = .returned (.bool (b1 && (b2 && b3))) ∧ M w' := by
  cases b1
  · clear K2 K3 K4
    go_enter Tryz.func29, Tryz.ntmps29
    go_wp2_with fail
    refine (unhide K1).mono ?_
    rintro e W1 ⟨rfl, h1⟩
    have H1 := hide h1
    clear h1 K1
    go_wp2
    go_ret
    exact ⟨rfl, H1.out⟩
  cases b2
  · clear K3 K4
    go_enter Tryz.func29, Tryz.ntmps29
    go_wp2_with fail
    refine (unhide K1).mono ?_
    rintro e W1 ⟨rfl, h1⟩
    have K2' := hide (K2.out _ h1)
    clear h1 K1 K2
    go_wp2_with fail
    refine (unhide K2').mono ?_
    rintro e W2 ⟨rfl, h2⟩
    have H2 := hide h2
    clear h2 K2'
    go_wp2
    go_ret
    exact ⟨rfl, H2.out⟩
  · go_enter Tryz.func29, Tryz.ntmps29
    go_wp2_with fail
    refine (unhide K1).mono ?_
    rintro e W1 ⟨rfl, h1⟩
    have K2' := hide (K2.out _ h1)
    clear h1 K1 K2
    go_wp2_with fail
    refine (unhide K2').mono ?_
    rintro e W2 ⟨rfl, h2⟩
    have K3' := hide (K3.out _ h2)
    clear h2 K2' K3
    go_wp2_with fail
    refine (unhide K3').mono ?_
    rintro e W3 ⟨rfl, h3⟩
    have K4' := hide (K4.out (by trivial) (by trivial) _ h3)
    clear h3 K3' K4
    go_wp2_with fail
    refine (unhide K4').mono ?_
    rintro e W4 ⟨rfl, h4⟩
    have H4 := hide h4
    clear h4 K4'
    cases b3
    all_goals
      go_wp2
      go_ret
      exact ⟨rfl, H4.out⟩

section
variable {w W W' : World} {B q qd : Nat} {z : VV} {s : Wf.Sp} {vb vm : Value} {a4 a5 a3 : Option Addr} {n4 c4 n5 c5 n3 c3 : Nat}
theorem SvS.beside (h : SvS w B q qd z s vb vm a4 n4 c4 a5 n5 c5 a3 n3 c3 W) (hV : VOk s) (hR : okB s) {x y : Int} (hx : aloneV s x = true) (hy : aloneV s y = true) :
    Calls Tryz.prog 60 #[.pointer (some ⟨q, 0, none⟩), .pointer (some ⟨z.p, 0, none⟩), .int .i64 x, .int .i64 y] W fun e w' => e = .returned (.bool (besV s x y)) ∧ SvS w B q qd z s vb vm a4 n4 c4 a5 n5 c5 a3 n3 c3 w' := by
  obtain ⟨u, d, ax, an, hv⟩ := h.va
  exact (beside_any hv hV hR hx hy).mono (fun e w' ⟨h1, h2⟩ => ⟨h1, h.next h2⟩)
theorem SvS.table (h : SvS w B q qd z s vb vm a4 n4 c4 a5 n5 c5 a3 n3 c3 W) :
    Calls Tryz.prog 61 #[.pointer (some ⟨q, 0, none⟩)] W fun e w' => e = .returned (.pointer (some ⟨z.p, 0, none⟩)) ∧ SvS w B q qd z s vb vm a4 n4 c4 a5 n5 c5 a3 n3 c3 w' := by
  obtain ⟨u, d, ax, an, hv⟩ := h.va
  exact (vtable_any hv).mono (fun e w' ⟨h1, h2⟩ => ⟨h1, h.next h2⟩)

theorem SvS.valid (h : SvS w B q qd z s vb vm a4 n4 c4 a5 n5 c5 a3 n3 c3 W) (hV : VOk s) (hR : okB s) (hl : s.specials.length ≤ 1000) (x y : Int) (hx : Mk.wfI x) (hy : Mk.wfI y) :
    Calls Tryz.prog 29 #[.pointer (some ⟨q, 0, none⟩), .int .i64 x, .int .i64 y] W fun e w' => e = .returned (.bool (validV s x y)) ∧ SvS w B q qd z s vb vm a4 n4 c4 a5 n5 c5 a3 n3 c3 w' := by
  have K1 := hide (h.alone hR hl x hx)
  have K2 := hide (fun W' (h' : SvS w B q qd z s vb vm a4 n4 c4 a5 n5 c5 a3 n3 c3 W') => h'.alone hR hl y hy)
  have K3 := hide (fun W' (h' : SvS w B q qd z s vb vm a4 n4 c4 a5 n5 c5 a3 n3 c3 W') => h'.table)
  have K4 := hide (fun (e1 : aloneV s x = true) (e2 : aloneV s y = true) W' (h' : SvS w B q qd z s vb vm a4 n4 c4 a5 n5 c5 a3 n3 c3 W') => h'.beside hV hR e1 e2)
  exact valid_gen K1 K2 K3 K4

/-- Does the token at a place offend? -/
def badV (s : Wf.Sp) (I : List Int) (i : Nat) : Bool := !(aloneV s (Mk.gI I i)) || (decide (0 < i) && !(besV s (Mk.gI I (i - 1)) (Mk.gI I i)))
/-- The first one that offends. -/
def FsP (s : Wf.Sp) (I : List Int) (e : Ending) : Prop :=
  (∃ k : Nat, k < I.length ∧ badV s I k = true ∧ (∀ j, j < k → badV s I j = false) ∧ e = .returned (.tuple #[.int .i64 (k : Int), .bool true])) ∨
  ((∀ j, j < I.length → badV s I j = false) ∧ e = .returned (.tuple #[.int .i64 0, .bool false]))

set_option maxRecDepth 20000 in
set_option maxHeartbeats 8000000 in
theorem SvS.first (h : SvS w B q qd z s vb vm a4 n4 c4 a5 n5 c5 a3 n3 c3 W) (hV : VOk s) (hR : okB s) (hl : s.specials.length ≤ 1000) {ai : Option Addr} {ni ci : Nat} {I : List Int} (hI : Mk.RdI w ai ni I) (hci : ni ≤ ci) (hni : ni ≤ 1000000) (hw : ∀ j, j < ni → Mk.wfI (Mk.gI I j)) :
    Calls Tryz.prog 30 #[.pointer (some ⟨q, 0, none⟩), .slice ai ni ci] W fun e w' => FsP s I e ∧ SvS w B q qd z s vb vm a4 n4 c4 a5 n5 c5 a3 n3 c3 w' := by
  have KT := hide h.table
  have HV := hide hV
  have HR := hide hR
  have HL := hide hl
  have HI := hide hI
  have HIL := hide hI.1
  have HW := hide hw
  clear h hV hR hl hI hw
  go_enter Tryz.func30, Tryz.ntmps30
  go_wp2_with fail
  refine (unhide KT).mono ?_
  rintro e W1 ⟨rfl, h1⟩
  have HS1 := hide h1
  clear h1 KT
  go_wp2
  go_loopw [13] (fun ix wr => ∃ k : Nat, ix = .int .i64 (k : Int) ∧ k ≤ ni ∧ Hid (SvS w B q qd z s vb vm a4 n4 c4 a5 n5 c5 a3 n3 c3 wr) ∧ Hid (∀ j, j < k → badV s I j = false)) (fun ix _ => ni - (intOf ix).toNat)
  case atStart => exact ⟨0, rfl, Nat.zero_le _, HS1, hide (fun j hj => by omega)⟩
  case round =>
    obtain ⟨k, rfl, hk, HS, HN⟩ := hrel
    clear HS1
    by_cases hlt : k < ni
    · have hk0 : (0 : Int) ≤ (k : Int) := by omega
      have hk1 : (k : Int) < (ni : Int) := by omega
      rcases HI.out.2 with h0 | ⟨b, off, ha, hbl, hc⟩
      · omega
      subst ha
      have HC := hide (fun (W' : World) (hb : Below w.heap.size w W') (j : Nat) (hj : j < ni) => (hb.cell (p := ⟨b, off + j, none⟩) hbl).trans (hc j hj))
      have c0 := HC.out wr HS.out.bel k hlt
      have KA := hide (HS.out.alone HR.out HL.out (Mk.gI I k) (HW.out k hlt))
      have HX := hide (show ∃ x, Mk.gI I k = x from ⟨_, rfl⟩)
      clear hbl hc
      by_cases ha : aloneV s (Mk.gI I k) = true
      · rw [ha] at KA
        by_cases h0 : 0 < k
        · have hprev := HN.out (k - 1) (by omega)
          have hap : aloneV s (Mk.gI I (k - 1)) = true := by
            unfold badV at hprev
            rw [Bool.or_eq_false_iff] at hprev
            simpa using hprev.1
          have KB := hide (fun W' (h' : SvS w B q qd z s vb vm a4 n4 c4 a5 n5 c5 a3 n3 c3 W') => h'.beside HV.out HR.out hap ha)
          have HBD : Hid (badV s I k = !(besV s (Mk.gI I (k - 1)) (Mk.gI I k))) := hide (by unfold badV; rw [ha, decide_eq_true h0]; simp)
          have hg0 : decide ((0 : Int) < (k : Int)) = true := decide_eq_true (by omega)
          have hg1 : (0 : Int) < (k : Int) := by omega
          have hg2 : decide (0 < k) = true := decide_eq_true h0
          have hw1 : IntKind.i64.wrap ((k : Int) - 1) = ((k - 1 : Nat) : Int) := by rw [IntKind.wrap_i64]; omega
          have hj0 : (0 : Int) ≤ ((k - 1 : Nat) : Int) := by omega
          have hj1 : ((k - 1 : Nat) : Int) < (ni : Int) := by omega
          generalize besV s (Mk.gI I (k - 1)) (Mk.gI I k) = bs at *
          generalize hx : Mk.gI I k = x at *
          generalize hxp : Mk.gI I (k - 1) = xp at *
          have HXX := hide (And.intro hx hxp)
          clear hx hxp hprev hap ha HX
          go_wp2_with fail
          refine (unhide KA).mono ?_
          rintro e W2 ⟨rfl, h2⟩
          have HS2 := hide h2
          have c1 : W2.cell? ⟨b, off + (k - 1), none⟩ = some (.int .i64 xp) := by rw [← HXX.out.2]; exact HC.out W2 h2.bel (k - 1) (by omega)
          have KB2 := hide (KB.out _ h2)
          clear h2 KA KB c0
          go_wp2_with fail
          refine (unhide KB2).mono ?_
          rintro e W3 ⟨rfl, h3⟩
          have HS3 := hide h3
          clear h3 KB2 HS2 c1
          cases bs with
          | true =>
            have HN2 : Hid (∀ j, j < k + 1 → badV s I j = false) := hide (fun j hj => by
              by_cases e : j = k
              · subst e; rw [HBD.out]; rfl
              · exact HN.out j (by omega))
            clear HN HBD
            go_wp2
            first
              | exact ⟨⟨k + 1, by go_num, by omega, HS3, HN2⟩, by simp [intOf]; omega⟩
              | (go_roundw
                 case rel => exact ⟨k + 1, by go_num, by omega, HS3, HN2⟩
                 case measure => simp [intOf]; omega)
          | false =>
            go_wp2
            (try simp only [Exit.inBlock, Exit.then])
            refine bodyPost_ret (v := .tuple #[.int .i64 (k : Int), .bool true]) (by simp [results, Tryz.results30, go_sem]) rfl ?_
            exact ⟨Or.inl ⟨k, by rw [HIL.out]; exact hlt, by rw [HBD.out]; rfl, HN.out, rfl⟩, HS3.out⟩
        · have HBD : Hid (badV s I k = false) := hide (by unfold badV; rw [ha, decide_eq_false h0]; rfl)
          have hg0 : decide ((0 : Int) < (k : Int)) = false := decide_eq_false (by omega)
          have hg1 : ¬ (0 : Int) < (k : Int) := by omega
          have hg2 : decide (0 < k) = false := decide_eq_false h0
          generalize hx : Mk.gI I k = x at *
          have HXX := hide hx
          clear hx ha HX
          go_wp2_with fail
          refine (unhide KA).mono ?_
          rintro e W2 ⟨rfl, h2⟩
          have HS2 := hide h2
          clear h2 KA c0
          have HN2 : Hid (∀ j, j < k + 1 → badV s I j = false) := hide (fun j hj => by
            by_cases e : j = k
            · subst e; exact HBD.out
            · exact HN.out j (by omega))
          clear HN HBD
          go_wp2
          first
            | exact ⟨⟨k + 1, by go_num, by omega, HS2, HN2⟩, by simp [intOf]; omega⟩
            | (go_roundw
               case rel => exact ⟨k + 1, by go_num, by omega, HS2, HN2⟩
               case measure => simp [intOf]; omega)
      · have ha' : aloneV s (Mk.gI I k) = false := by simpa using ha
        rw [ha'] at KA
        have HBD : Hid (badV s I k = true) := hide (by unfold badV; rw [ha']; rfl)
        generalize hx : Mk.gI I k = x at *
        have HXX := hide hx
        clear hx ha HX ha'
        go_wp2_with fail
        refine (unhide KA).mono ?_
        rintro e W2 ⟨rfl, h2⟩
        have HS2 := hide h2
        clear h2 KA c0
        go_wp2
        (try simp only [Exit.inBlock, Exit.then])
        refine bodyPost_ret (v := .tuple #[.int .i64 (k : Int), .bool true]) (by simp [results, Tryz.results30, go_sem]) rfl ?_
        exact ⟨Or.inl ⟨k, by rw [HIL.out]; exact hlt, HBD.out, HN.out, rfl⟩, HS2.out⟩
    · obtain rfl : ni = k := by omega
      go_wp2
      (try simp only [Exit.inBlock, Exit.then])
      first
        | (go_ret
           exact ⟨Or.inr ⟨fun j hj => HN.out j (by rw [← HIL.out]; exact hj), rfl⟩, HS.out⟩)
        | (refine bodyPost_ret (v := .tuple #[.int .i64 0, .bool false]) (by simp [results, Tryz.results30, go_sem]) rfl ?_
           exact ⟨Or.inr ⟨fun j hj => HN.out j (by rw [← HIL.out]; exact hj), rfl⟩, HS.out⟩)
end
end Go.Proofs.YtdpmjaelbjjanaaGreat

namespace Go.Proofs.YtdpmjaelbjjanaaGreat
open Go.RowKit Go.Maps
set_option linter.unusedVariables false
set_option linter.unusedSimpArgs false

/-- A vocabulary that is used. -/
structure VaU (w : World) (B q : Nat) (z : VV) (s : Wf.Sp) (W : World) : Prop where
  va : ∃ u d ax an, Va B q z s u d ax an 0 W
  bel : Below w.heap.size w W
  hq : w.heap.size ≤ q
section
variable {w W W' : World} {B q : Nat} {z : VV} {s : Wf.Sp}
theorem VaU.next (h : VaU w B q z s W) (hb : Below W.heap.size W W') : VaU w B q z s W' := by
  obtain ⟨u, d, ax, an, hv⟩ := h.va
  exact ⟨⟨u, d, ax, an, hv.low hb⟩, below_step h.bel hb, h.hq⟩
theorem VaU.alone (h : VaU w B q z s W) (hR : okB s) (hl : s.specials.length ≤ 1000) (id : Int) (hw : Mk.wfI id) :
    Calls Tryz.prog 59 #[.pointer (some ⟨q, 0, none⟩), .int .i64 id] W fun e w' => e = .returned (.bool (aloneV s id)) ∧ VaU w B q z s w' := by
  obtain ⟨u, d, ax, an, hv⟩ := h.va
  have hw2 := h.hq
  exact (valone_any hv hR hl id hw).mono (fun e w' ⟨h1, h2, hF⟩ => ⟨h1, h2, h.bel.trans (hF.below h.bel.size (fun k hk => by simp at hk; omega)), h.hq⟩)
theorem VaU.beside (h : VaU w B q z s W) (hV : VOk s) (hR : okB s) {x y : Int} (hx : aloneV s x = true) (hy : aloneV s y = true) :
    Calls Tryz.prog 60 #[.pointer (some ⟨q, 0, none⟩), .pointer (some ⟨z.p, 0, none⟩), .int .i64 x, .int .i64 y] W fun e w' => e = .returned (.bool (besV s x y)) ∧ VaU w B q z s w' := by
  obtain ⟨u, d, ax, an, hv⟩ := h.va
  exact (beside_any hv hV hR hx hy).mono (fun e w' ⟨h1, h2⟩ => ⟨h1, h.next h2⟩)
theorem VaU.table (h : VaU w B q z s W) :
    Calls Tryz.prog 61 #[.pointer (some ⟨q, 0, none⟩)] W fun e w' => e = .returned (.pointer (some ⟨z.p, 0, none⟩)) ∧ VaU w B q z s w' := by
  obtain ⟨u, d, ax, an, hv⟩ := h.va
  exact (vtable_any hv).mono (fun e w' ⟨h1, h2⟩ => ⟨h1, h.next h2⟩)
theorem VaU.valid (h : VaU w B q z s W) (hV : VOk s) (hR : okB s) (hl : s.specials.length ≤ 1000) (x y : Int) (hx : Mk.wfI x) (hy : Mk.wfI y) :
    Calls Tryz.prog 29 #[.pointer (some ⟨q, 0, none⟩), .int .i64 x, .int .i64 y] W fun e w' => e = .returned (.bool (validV s x y)) ∧ VaU w B q z s w' :=
  valid_gen (hide (h.alone hR hl x hx)) (hide (fun W' h' => h'.alone hR hl y hy)) (hide (fun W' h' => h'.table)) (hide (fun e1 e2 W' h' => h'.beside hV hR e1 e2))
end

def e14 : Wf.Sp := ⟨false, [(97, 98), (98, 99)], [], [], [], []⟩
theorem e14_right : e14.Right := (Wf.rightB_iff e14).1 (by decide)
theorem e14_ok : VOk e14 := by
  refine ⟨fun j hj => ?_, ?_, fun j hj => ?_⟩
  · have h2 : nT e14 = 2 := rfl
    rcases (show j = 0 ∨ j = 1 by omega) with rfl | rfl <;> decide +kernel
  · refine ⟨fun i hi => ?_, Or.inl ⟨rfl, rfl⟩⟩
    have : e14.specials.length = 0 := rfl
    omega
  · have : e14.specials.length = 0 := rfl
    omega
theorem e14_b : okB e14 := ⟨fun c h => (by simp [e14] at h), fun j h => (by simp [e14] at h)⟩
theorem e14_1 : validV e14 97 257 = false := by decide +kernel
theorem e14_2 : validV e14 256 99 = true := by decide +kernel
theorem e14_3 : validV e14 256 257 = true := by decide +kernel
theorem e14_at (w : World) : Wf.SpAt (w.alloc (.cells #[.int .i64 97, .int .i64 98, .int .i64 98, .int .i64 99] 77)) ⟨false, some ⟨w.heap.size, 0, none⟩, 2, 2, none, 0, 0, none, 0, 0, none, 0, 0, none, 0, 0⟩ e14 := by
  have h1 : Wf.RdM (w.alloc (.cells #[.int .i64 97, .int .i64 98, .int .i64 98, .int .i64 99] 77)) (some ⟨w.heap.size, 0, none⟩) 2 [(97, 98), (98, 99)] := by
    refine ⟨rfl, Or.inr ⟨_, _, rfl, by simp, fun i hi => ?_⟩⟩
    rcases (show i = 0 ∨ i = 1 by omega) with rfl | rfl <;> constructor <;> simp [Wf.gM]
  exact ⟨rfl, h1, ⟨rfl, Or.inl rfl⟩, ⟨rfl, Or.inl rfl⟩, ⟨rfl, Or.inl rfl⟩, ⟨rfl, Or.inl rfl⟩⟩

set_option maxRecDepth 20000 in
set_option maxHeartbeats 4000000 in
theorem awake14_any (w : World) : Calls Tryz.prog 17 #[] w fun e w' => e = .returned (.bool true) ∧ Below w.heap.size w w' := by
  have HB0 := hide (Wf.low_alloc w (.cells #[.int .i64 97, .int .i64 98, .int .i64 98, .int .i64 99] 77))
  have HN := hide (vnew_any _ _ _ (e14_at w))
  go_enter Tryz.func17, Tryz.ntmps17
  go_wp2_with fail
  refine (unhide HN).mono ?_
  clear HN
  generalize w.alloc (.cells #[.int .i64 97, .int .i64 98, .int .i64 98, .int .i64 99] 77) = w1 at *
  rintro e w2 ⟨hP, hb⟩
  rcases hP with ⟨hr, _⟩ | ⟨_, ⟨q, z, _, rfl, hz⟩ | ⟨p, k, er, hbad, _⟩⟩
  · exact absurd ((Wf.rightB_iff e14).2 e14_right) (by rw [hr]; simp)
  rotate_left
  · exact (hbad.not e14_ok).elim
  have HU : Hid (VaU w w1.heap.size q z e14 w2) := hide ⟨⟨_, _, _, _, hz.va⟩, below_step HB0.out hb, Nat.le_trans HB0.out.size hz.hq⟩
  have K1 := hide (HU.out.valid e14_ok e14_b (by decide) 97 257 (by unfold Mk.wfI; omega) (by unfold Mk.wfI; omega))
  rw [e14_1] at K1
  clear hb hz HB0
  go_wp2_with fail
  refine (unhide K1).mono ?_
  rintro e w3 ⟨rfl, h3⟩
  have K2 := hide (h3.valid e14_ok e14_b (by decide) 256 99 (by unfold Mk.wfI; omega) (by unfold Mk.wfI; omega))
  rw [e14_2] at K2
  clear h3 K1 HU
  go_wp2_with fail
  refine (unhide K2).mono ?_
  rintro e w4 ⟨rfl, h4⟩
  have K3 := hide (h4.valid e14_ok e14_b (by decide) 256 257 (by unfold Mk.wfI; omega) (by unfold Mk.wfI; omega))
  rw [e14_3] at K3
  clear h4 K2
  go_wp2_with fail
  refine (unhide K3).mono ?_
  rintro e w5 ⟨rfl, h5⟩
  have HB5 := hide h5.bel
  clear h5 K3
  go_wp2
  go_ret
  exact ⟨rfl, HB5.out⟩
end Go.Proofs.YtdpmjaelbjjanaaGreat

namespace Go.Proofs.YtdpmjaelbjjanaaGreat
open Go.RowKit Go.Maps
set_option linter.unusedVariables false
set_option linter.unusedSimpArgs false

section
variable {w W W' : World} {q : Nat} {a1 a2 : Option Addr} {c1 c2 : Nat} {tx : List ByteArray} {mg : List (Int × Int)} {p : Nat} {F : List Nat} {v0 v1 : Value} {b2 b3 : Nat}
end

section
variable {vb vm : Value} {tx : List ByteArray} {mg : List (Int × Int)} {w : World}
end
end Go.Proofs.YtdpmjaelbjjanaaGreat

namespace Go.Proofs.YtdpmjaelbjjanaaGreat
open Go.RowKit Go.Maps
set_option linter.unusedVariables false
set_option linter.unusedSimpArgs false

end Go.Proofs.YtdpmjaelbjjanaaGreat

namespace Go.Proofs.YtdpmjaelbjjanaaGreat
open Go.RowKit Go.Maps
set_option linter.unusedVariables false
set_option linter.unusedSimpArgs false

end Go.Proofs.YtdpmjaelbjjanaaGreat
