/- Is there a token? The program's question and the document's are one. Contracts of package decode: Text. -/
import Derived.Test.YtfjcfkkcdbojlaaGreatQa34
import Derived.Test.YtfjcfkkcdbojlaaGreatQe0
import Derived.Test.YtfjcfkkcdbojlaaGreatQa31
namespace Go.Proofs.YtfjcfkkcdbojlaaGreat
set_option linter.unusedVariables false
set_option linter.unusedSimpArgs false

theorem mkF_mem {L : List (Int × ByteArray)} {id : Int} : mkF L id < 0 ↔ ∃ y ∈ L, y.1 = id := by
  constructor
  · intro h
    rcases mkF_cases L id with ⟨k, hk, _, h2, _⟩ | ⟨_, e⟩
    · exact ⟨L[k], List.getElem_mem hk, by rw [← h2]; simp [Mk.gS, hk]⟩
    · omega
  · rintro ⟨y, hy, rfl⟩
    rcases mkF_cases L y.1 with ⟨k, hk, _, _, e⟩ | ⟨h, _⟩
    · omega
    · obtain ⟨j, hj, rfl⟩ := List.mem_iff_getElem.1 hy
      exact absurd (by simp [Mk.gS, hj]) (h j hj)
theorem hasV_eq (s : Wf.Sp) (x : Int) : hasV s x = hasD s.specials (txT s).length x := by
  have h1 : spcV s x = decide (mkF s.specials x < 0) := by
    rw [Bool.eq_iff_iff, decide_eq_true_iff, mkF_mem]
    unfold spcV
    simp
  rw [hasV, h1, hasD, Bool.or_comm]
end Go.Proofs.YtfjcfkkcdbojlaaGreat

namespace Go.Proofs.YtfjcfkkcdbojlaaGreat
open Go.RowKit Go.Maps
set_option linter.unusedVariables false
set_option linter.unusedSimpArgs false

/-- The text of tokens. -/
def txD (L : List (Int × ByteArray)) (tx : List ByteArray) (I : List Int) : List UInt8 := (Mk.rnd (Mk.tL L) (catV L tx I)).getD []
theorem rndV_eq (o : Option (List UInt8)) : Mk.RndV o = .tuple #[.string ⟨(o.getD []).toArray⟩, .bool o.isSome] := by
  cases o <;> rfl
theorem catV_fewD {tx : List ByteArray} {mg : List (Int × Int)} (h : Tok tx mg) (L : List (Int × ByteArray)) : ∀ I : List Int, (catV L tx I).length ≤ 64 * I.length
  | [] => by simp [catV]
  | x :: I => by
    have ih := catV_fewD h L I
    have hx : ((itV L tx x).getD []).length ≤ 64 := by
      cases ho : itV L tx x with
      | none => simp
      | some l => exact (itV_len h L x l ho).2
    have e : catV L tx (x :: I) = (itV L tx x).getD [] ++ catV L tx I := by simp [catV]
    rw [e, List.length_append, List.length_cons]
    omega
theorem catV_wfD {L : List (Int × ByteArray)} (tx : List ByteArray) (hl : L.length ≤ 1000) {I : List Int} {x : Int} (hx : x ∈ catV L tx I) : Mk.wfI x := by
  unfold catV at hx
  rw [List.mem_flatMap] at hx
  obtain ⟨y, _, h⟩ := hx
  unfold itV at h
  unfold Mk.wfI
  split at h
  · simp only [Option.getD_some, List.mem_singleton] at h
    subst h
    rcases mkF_cases L y with ⟨k, hk, _, _, e⟩ | ⟨_, e⟩
    · omega
    · omega
  · split at h
    · simp only [Option.getD_some] at h
      unfold Mk.bys at h
      simp only [List.mem_map] at h
      obtain ⟨b, _, rfl⟩ := h
      have := UInt8.toNat_lt b
      omega
    · simp at h
/-- What comes of Text. -/
def DtP (L : List (Int × ByteArray)) (tx : List ByteArray) (I : List Int) (e : Ending) : Prop :=
  ((∀ j, j < I.length → hasD L tx.length (Mk.gI I j) = true) ∧ e = .returned (.tuple #[.string ⟨(txD L tx I).toArray⟩, .int .i64 I.length, .int .i64 0])) ∨
  ∃ k, k < I.length ∧ (∀ j, j < k → hasD L tx.length (Mk.gI I j) = true) ∧ hasD L tx.length (Mk.gI I k) = false ∧ e = .returned (.tuple #[.string ⟨#[]⟩, .int .i64 (k : Int), .int .i64 4])
theorem vmarksU {q pm : Nat} {W : World} (c8 : W.cell? ⟨q, 8, none⟩ = some (.pointer (some ⟨pm, 0, none⟩))) : Calls Tryz.prog 47 #[.pointer (some ⟨q, 0, none⟩)] W fun e w' => e = .returned (.pointer (some ⟨pm, 0, none⟩)) ∧ w' = W := by
  go_enter Tryz.func47, Tryz.ntmps47
  go_wp2
  go_ret
  exact ⟨rfl, rfl⟩
theorem vhasU {B q : Nat} {z : VV} {s : Wf.Sp} {u : Int} {w : World} (h : Vu B q z s u w) (hl : s.specials.length ≤ 1000) (x : Int) (hx : Mk.wfI x) : Calls Tryz.prog 55 #[.pointer (some ⟨q, 0, none⟩), .int .i64 x] w fun e w' => e = .returned (.bool (hasD s.specials (txT s).length x)) ∧ w' = w := by
  rw [← hasV_eq]
  exact vhas_c h.cells.2.1 h.cells.2.2.1 h.mr hl x hx

set_option maxRecDepth 20000 in
set_option maxHeartbeats 4000000 in
theorem dtext_any {B q : Nat} {z : VV} {s : Wf.Sp} {u : Int} {ai : Option Addr} {ni ci : Nat} {I : List Int} {w : World} (h : Vu B q z s u w) (hk : Mk.TxOk s.specials) (hu : 0 ≤ u ∧ u < 1000) (hl : s.specials.length ≤ 1000) (hI : Mk.RdI w ai ni I) (hoff : ∀ b off, ai = some ⟨b, off, none⟩ → 0 < ni → b ≠ q) (hni : ni ≤ 1000) (hw : ∀ i, i < ni → Mk.wfI (Mk.gI I i)) :
    Calls Tryz.prog 26 #[.pointer (some ⟨q, 0, none⟩), .slice ai ni ci] w fun e w' => DtP s.specials (txT s) I e ∧ ∃ u', u ≤ u' ∧ u' ≤ u + 1 ∧ Vu B q z s u' w' ∧ FrL [q] w w' := by
  have HV := hide h
  have HK := hide hk
  have HIT := hide (vitems_any (ci := ci) h hu hl hI hoff hni hw)
  have HSL := hide hl
  have HI := hide hI
  have HIL := hide hI.1
  have HW := hide hw
  have HU := hide hu
  clear h hk hu hl hI hoff hw
  go_enter Tryz.func26, Tryz.ntmps26
  go_wp2
  go_loopw [21] (fun i wr => ∃ k : Nat, i = .int .i64 (k : Int) ∧ k ≤ ni ∧ Hid (∀ j, j < k → hasD s.specials (txT s).length (Mk.gI I j) = true) ∧ Hid (wr = w)) (fun i _ => ni - (intOf i).toNat)
  case atStart => exact ⟨0, rfl, Nat.zero_le _, hide (fun j h => by omega), hide rfl⟩
  case round =>
    obtain ⟨k, rfl, hk, HJ, HWR⟩ := hrel
    by_cases hlt : k < ni
    · have hk0 : (0 : Int) ≤ (k : Int) := by omega
      have hk1 : (k : Int) < (ni : Int) := by omega
      obtain rfl := HWR.out
      rcases HI.out.2 with h0 | ⟨b, off, rfl, hbl, hc⟩
      · omega
      have c1 := hc k hlt
      have K1 := hide (vhasU HV.out HSL.out (Mk.gI I k) (HW.out k hlt))
      clear hc hbl
      generalize hgx : Mk.gI I k = x at *
      have HX := hide hgx
      clear hgx
      cases hm : hasD s.specials (txT s).length x with
      | true =>
        have HN : Hid (∀ j, j < k + 1 → hasD s.specials (txT s).length (Mk.gI I j) = true) := hide (fun j hj => by
          by_cases e : j = k
          · subst e; rw [HX.out]; exact hm
          · exact HJ.out j (by omega))
        rw [hm] at K1
        clear hm HJ HIT
        go_wp2_with fail
        refine (unhide K1).mono ?_
        rintro e w1 ⟨rfl, hw1⟩
        obtain rfl := hw1.symm
        clear hw1 K1
        go_wp2
        first
          | exact ⟨⟨k + 1, by go_num, by omega, HN, HWR⟩, by simp [intOf]; omega⟩
          | (go_roundw
             case rel => exact ⟨k + 1, by go_num, by omega, HN, HWR⟩
             case measure => simp [intOf]; omega)
      | false =>
        have HE := hide hm
        rw [hm] at K1
        clear hm HIT
        go_wp2_with fail
        refine (unhide K1).mono ?_
        rintro e w1 ⟨rfl, hw1⟩
        obtain rfl := hw1.symm
        clear hw1 K1
        go_wp2
        refine bodyPost_ret (v := .tuple #[.string ⟨#[]⟩, .int .i64 (k : Int), .int .i64 4]) (by simp [results, Tryz.results26, go_sem]) rfl ?_
        exact ⟨Or.inr ⟨k, by rw [HIL.out]; exact hlt, HJ.out, by rw [HX.out]; exact HE.out, rfl⟩, u, Int.le_refl _, by omega, HV.out, FrL.refl _ _⟩
    · obtain rfl : k = ni := by omega
      obtain rfl := HWR.out
      go_wp2_with fail
      refine (unhide HIT).mono ?_
      rintro e w1 ⟨hP, hv, hF⟩
      rcases hP with ⟨hall, ao, cap, rfl, hrow⟩ | ⟨k2, hk2, _, hno, _⟩
      · have HALL := hide hall
        have HU2 := hide hv
        have HF := hide hF
        have K2 := hide (vmarksU hv.cells.2.2.1)
        have K3 := hide (Mk.render_any (ci := cap) hv.mr HK.out (Mk.RdI.of_row hrow) (fun i hi => catV_wfD (txT s) HSL.out (by
          rw [show Mk.gI (catV s.specials (txT s) I) i = (catV s.specials (txT s) I)[i] by simp [Mk.gI, hi]]
          exact List.getElem_mem hi)) (by
          have h1 := catV_fewD (tokT s) s.specials I
          have h2 := HIL.out
          omega))
        have HTX : Hid (Mk.RndV (Mk.rnd (Mk.tL s.specials) (catV s.specials (txT s) I)) = .tuple #[.string ⟨(txD s.specials (txT s) I).toArray⟩, .bool (Mk.rnd (Mk.tL s.specials) (catV s.specials (txT s) I)).isSome]) := hide (rndV_eq _)
        rw [HTX.out] at K3
        generalize (Mk.rnd (Mk.tL s.specials) (catV s.specials (txT s) I)).isSome = ok at *
        generalize (catV s.specials (txT s) I).length = m at *
        rw [HIL.out]
        clear hv hF hall hrow HIT HTX
        go_wp2_with fail
        refine (unhide K2).mono ?_
        rintro e w2 ⟨rfl, hw2⟩
        obtain rfl := hw2.symm
        clear hw2 K2
        go_wp2_with fail
        refine (unhide K3).mono ?_
        rintro e w3 ⟨rfl, hb⟩
        have HB := hide hb
        clear hb K3
        go_wp2
        refine bodyPost_ret (v := .tuple #[.string ⟨(txD s.specials (txT s) I).toArray⟩, .int .i64 (k : Int), .int .i64 0]) (by simp [results, Tryz.results26, go_sem]) rfl ?_
        exact ⟨Or.inl ⟨HALL.out, by rw [HIL.out]⟩, u + 1, by omega, Int.le_refl _, HU2.out.low HB.out, HF.out.trans' (FrL.ofBelow HB.out)⟩
      · exfalso
        have h1 := HJ.out k2 (by rw [← HIL.out]; exact hk2)
        rw [hno] at h1
        cases h1
end Go.Proofs.YtfjcfkkcdbojlaaGreat
