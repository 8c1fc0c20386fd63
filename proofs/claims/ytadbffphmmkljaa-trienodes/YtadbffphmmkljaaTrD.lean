/- The trie of a table's tokens. -/
import Derived.Test.YtadbffphmmkljaaTrC
import Derived.Test.YtadbffphmmkljaaTkJ
namespace Go.Proofs.Ytadbffphmmkljaa
open Go.RowKit Go.Maps
set_option linter.unusedVariables false
set_option linter.unusedSimpArgs false

def lsT (tx : List ByteArray) : List (List UInt8) := tx.map (fun t => t.data.toList)
theorem lsT_len (tx : List ByteArray) : (lsT tx).length = tx.length := by simp [lsT]
theorem lsT_get (tx : List ByteArray) {i : Nat} (h : i < tx.length) : (lsT tx)[i]? = some (gs tx i).data.toList := by
  simp [lsT, gs, List.getD_eq_getElem?_getD, h]
theorem lsT_getD (tx : List ByteArray) {i : Nat} (h : i < tx.length) : (lsT tx).getD i [] = (gs tx i).data.toList := by
  rw [List.getD_eq_getElem?_getD, lsT_get tx h]; rfl
theorem lsT_take (tx : List ByteArray) {i : Nat} (h : i < tx.length) : (lsT tx).take (i + 1) = (lsT tx).take i ++ [(gs tx i).data.toList] := by
  have h1 : i < (lsT tx).length := by rw [lsT_len]; exact h
  rw [← List.take_append_getElem h1]
  have := lsT_get tx h
  rw [List.getElem?_eq_getElem h1] at this
  rw [Option.some.inj this]
theorem toList_inj {a b : ByteArray} (h : a.data.toList = b.data.toList) : a = b := ByteArray.ext (Array.ext' h)
theorem lsT_nodup {tx : List ByteArray} {mg : List (Int × Int)} (h : Tok tx mg) : (lsT tx).Nodup := by
  rw [List.Nodup, List.pairwise_iff_getElem]
  intro i j hi hj hij e
  rw [lsT_len] at hi hj
  have e1 := lsT_get tx hi
  have e2 := lsT_get tx hj
  rw [List.getElem?_eq_getElem (by rw [lsT_len]; exact hi)] at e1
  rw [List.getElem?_eq_getElem (by rw [lsT_len]; exact hj)] at e2
  rw [Option.some.inj e1, Option.some.inj e2] at e
  exact h.nd i j hij hj (toList_inj e)
theorem lsT_new {tx : List ByteArray} {mg : List (Int × Int)} (h : Tok tx mg) {i : Nat} (hi : i < tx.length) : (gs tx i).data.toList ∉ (lsT tx).take i := by
  intro hm
  obtain ⟨j, hj, e⟩ := List.mem_iff_getElem.1 hm
  rw [List.length_take, lsT_len] at hj
  rw [List.getElem_take] at e
  have e1 := lsT_get tx (i := j) (by omega)
  rw [List.getElem?_eq_getElem (by rw [lsT_len]; omega)] at e1
  rw [Option.some.inj e1] at e
  exact h.nd j i (by omega) hi (toList_inj e)
theorem EnP.here {w W : World} {B r : Nat} {S : List (List UInt8)} {N C : Nat} (h : EnP w B r S N C W) : EnP W B r S N C W := by
  obtain ⟨bk, mp, h1, h2, _⟩ := h
  exact ⟨bk, mp, h1, h2, Below.refl _ _⟩
theorem EnP.base {w w0 W : World} {B r : Nat} {S : List (List UInt8)} {N C : Nat} (h : EnP w B r S N C W) (hb : Below B w0 w) : EnP w0 B r S N C W := by
  obtain ⟨bk, mp, h1, h2, h3⟩ := h
  exact ⟨bk, mp, h1, h2, hb.trans h3⟩
theorem EnP.bel {w W : World} {B r : Nat} {S : List (List UInt8)} {N C : Nat} (h : EnP w B r S N C W) : Below B w W := by
  obtain ⟨bk, mp, h1, h2, h3⟩ := h
  exact h3
theorem EnP.new (w : World) : EnP w w.heap.size w.heap.size [] 0 1 (w.alloc (.cells #[.int .i64 0, .int .i64 0, .bool false, .map none, .int .i64 1] 59)) := by
  have hb := heap_alloc_new w (.cells #[.int .i64 0, .int .i64 0, .bool false, .map none, .int .i64 1] 59)
  refine ⟨fun t => if t = [] then some w.heap.size else none, fun _ => none, ⟨if_pos rfl, fun t b e => ?_, fun t mb e => (by cases e), fun t _ c => if_neg (by simp), fun t t' b e1 e2 => ?_, fun t t' b e1 _ => (by cases e1), fun t e => absurd rfl e, fun t b e => ?_, Lib.cell_of_heap hb 4⟩, fun t => ?_, Mk.low1 w _⟩
  · by_cases ht : t = []
    · subst ht
      rw [if_pos rfl] at e
      obtain rfl := Option.some.inj e
      exact ⟨Lib.cell_of_heap hb 0, Lib.cell_of_heap hb 1, Lib.cell_of_heap hb 2, Lib.cell_of_heap hb 3, fun j => Lib.frozen_of_heap hb j⟩
    · rw [if_neg ht] at e; cases e
  · by_cases h1 : t = []
    · by_cases h2 : t' = []
      · rw [h1, h2]
      · rw [if_neg h2] at e2; cases e2
    · rw [if_neg h1] at e1; cases e1
  · rcases e with e | e
    · by_cases ht : t = []
      · rw [if_pos ht] at e
        obtain rfl := Option.some.inj e
        exact Nat.le_refl _
      · rw [if_neg ht] at e; cases e
    · cases e
  · by_cases ht : t = []
    · subst ht
      simp [ndT]
    · simp only [if_neg ht]
      simp [ndT, ht]
/-- A trie of the tokens tx, at block r. -/
def Tri (B r : Nat) (tx : List ByteArray) (W : World) : Prop := ∃ N, EnP W B r (lsT tx) N (cnT (lsT tx) tx.length) W
theorem Tri.kept {B r : Nat} {tx : List ByteArray} {W W' : World} (h : Tri B r tx W) (hb : Below W.heap.size W W') : Tri B r tx W' := by
  obtain ⟨N, bk, mp, h1, h2, _⟩ := h
  exact ⟨N, bk, mp, h1.kept hb, h2, Below.refl _ _⟩

set_option maxRecDepth 20000 in
set_option maxHeartbeats 4000000 in
theorem trienew_any {F : List Nat} {p : Nat} {v0 v1 : Value} {b2 b3 : Nat} {tx : List ByteArray} {mg : List (Int × Int)} {lg : Int} {w : World} (hT : TAt F p v0 v1 b2 b3 tx mg lg w) (hk : Tok tx mg) :
    Calls Try.prog 9 #[.pointer (some ⟨p, 0, none⟩)] w fun e w' => ∃ r, e = .returned (.pointer (some ⟨r, 0, none⟩)) ∧ Tri w.heap.size r tx w' ∧ Below w.heap.size w w' := by
  have hcap := hk.cap
  have HK := hide hk
  have HL1 := hide (Mk.low1 w (.cells #[.int .i64 0, .int .i64 0, .bool false, .map none, .int .i64 1] 59))
  have HI := hide (EnP.new w)
  have HLN := hide (tlen_any (hT.keptB HL1.out))
  have HT := hide hT
  clear hT hk
  go_enter Try.func9, Try.ntmps9
  go_wp2_with fail
  refine (unhide HLN).mono ?_
  rintro e w1 ⟨rfl, rfl⟩
  clear HLN HL1
  generalize w.alloc (.cells #[.int .i64 0, .int .i64 0, .bool false, .map none, .int .i64 1] 59) = w0 at *
  go_wp2
  generalize hr : w.heap.size = r at *
  have HRR := hide hr
  clear hr
  go_loopw [13] (fun i wr => ∃ (k N : Nat), i = .int .i64 k ∧ k ≤ tx.length ∧ N ≤ 64 * k ∧ Hid (EnP w r r ((lsT tx).take k) N (cnT (lsT tx) k) wr)) (fun i _ => tx.length - (intOf i).toNat)
  case atStart => exact ⟨0, 0, rfl, Nat.zero_le _, Nat.le_refl _, HI⟩
  case round =>
    obtain ⟨k, N, rfl, hk, hN, HE⟩ := hrel
    clear HI
    by_cases hlt : k < tx.length
    · have hk0 : (0 : Int) ≤ (k : Int) := by omega
      have hk1 : (k : Int) < (tx.length : Int) := by omega
      have hbel := HE.out.bel
      have HTB := hide (tbytes_any (HT.out.keptB (by rw [HRR.out]; exact hbel)) k hlt)
      have hkl : ((lsT tx).take k).length = k := by rw [List.length_take, lsT_len]; omega
      have hC : cnT (lsT tx) k ≤ 1 + 64 * k := cnT_le (lsT tx) (fun s hs => by
        obtain ⟨j, hj, rfl⟩ := List.mem_iff_getElem.1 hs
        rw [lsT_len] at hj
        have e1 := lsT_get tx hj
        rw [List.getElem?_eq_getElem (by rw [lsT_len]; exact hj)] at e1
        rw [Option.some.inj e1]
        have := HK.out.sz j hj
        simpa using this) k (by rw [lsT_len]; omega)
      have HEN := hide (tenter_any HE.out.here (by have := hbel.size; have h2 := HRR.out; omega) (by omega) (by omega) (by omega) (gs tx k) (HK.out.sz k hlt) (lsT_new HK.out hlt))
      rw [hkl] at HEN
      have HNX : Hid (∀ wn, EnP wr r r ((lsT tx).take k ++ [(gs tx k).data.toList]) (N + (gs tx k).size) (cnT (lsT tx) k + frT ((lsT tx).take k) (gs tx k).data.toList (gs tx k).size) wn → EnP w r r ((lsT tx).take (k + 1)) (N + (gs tx k).size) (cnT (lsT tx) (k + 1)) wn) := hide (fun wn h => by
        have e : cnT (lsT tx) (k + 1) = cnT (lsT tx) k + frT ((lsT tx).take k) (gs tx k).data.toList (gs tx k).size := by
          show cnT (lsT tx) k + frT ((lsT tx).take k) ((lsT tx).getD k []) ((lsT tx).getD k []).length = _
          rw [lsT_getD tx hlt]
          simp
        rw [lsT_take tx hlt, e]
        exact h.base hbel)
      have hsz := HK.out.sz k hlt
      clear hbel hkl hC
      generalize gs tx k = s at *
      go_wp2_with fail
      refine (unhide HTB).mono ?_
      rintro e w2 ⟨rfl, rfl⟩
      go_wp2_with fail
      refine (unhide HEN).mono ?_
      rintro e w3 ⟨rfl, hE⟩
      have HN := hide (HNX.out _ hE)
      clear hE HNX HEN HTB HE
      go_wp2
      exact ⟨⟨k + 1, _, by go_num, by omega, by omega, HN⟩, by simp [intOf]; omega⟩
    · obtain rfl : tx.length = k := by omega
      have HF : Hid (Tri r r tx wr ∧ Below r w wr) := hide ⟨⟨N, by have h := HE.out.here; rwa [← lsT_len, List.take_length, lsT_len] at h⟩, HE.out.bel⟩
      clear HE
      go_wp2
      go_ret
      exact ⟨r, rfl, by rw [HRR.out]; exact HF.out.1, by rw [HRR.out]; exact HF.out.2⟩
end Go.Proofs.Ytadbffphmmkljaa
