/- Contract: the reader's read. -/
import Derived.Test.YteiinkhdgppgbaaGreatDoorSpTb
import Derived.Test.YteiinkhdgppgbaaGreatDoorSpTc
namespace Go.Proofs.YteiinkhdgppgbaaGreatDoor
open Go.RowKit
set_option linter.unusedVariables false
set_option linter.unusedSimpArgs false

theorem take_any (w0 : World) (p : Nat) (x : Sv) (s : Sp) (n k0 : Nat) (W : World) (h : RAt w0 p x s n k0 W) (hE : Env W) (ao : Option Addr) (m cap : Nat) (ws : List ByteArray) (hR : ReadsS W ao m ws) (hws : ∀ s ∈ ws, s.size ≤ 1000000) (hbp : ∀ b off, ao = some ⟨b, off, none⟩ → b ≠ p) (k : Nat) (hk : k ≤ 6) :
    Calls Tryz.prog 56 #[.pointer (some ⟨p, 0, none⟩), .int .i64 k, .slice ao m cap] W (TakeP w0 p n k0 (takeL s k (bl ws))) := by
  have hs : k = 0 ∨ k = 1 ∨ k = 2 ∨ k = 3 ∨ k = 4 ∨ k = 5 ∨ k = 6 := by omega
  rcases hs with rfl | rfl | rfl | rfl | rfl | rfl | rfl
  · exact take0_any w0 p x s n k0 W h ao m cap ws hR hbp
  · exact take1_any w0 p x s n k0 W h hE ao m cap ws hR hws
  · exact take2_any w0 p x s n k0 W h hE ao m cap ws hR hws
  · exact take3_any w0 p x s n k0 W h hE ao m cap ws hR hws
  · exact take4_any w0 p x s n k0 W h hE ao m cap ws hR hws
  · exact take5_any w0 p x s n k0 W h hE ao m cap ws hR hws
  · exact take6_any w0 p x s n k0 W h ao m cap ws
theorem kindL_le (f : List UInt8) : kindL f ≤ 6 := by
  unfold kindL
  repeat' split
  all_goals omega

/-- What a line's reading leaves. -/
def ReadP (w0 : World) (p n k0 : Nat) (res : Option Rd) (e : Ending) (w' : World) : Prop := match res with
  | some r' => e = .returned (.bool true) ∧ ∃ x', RAt w0 p x' r'.sp r'.n r'.k w'
  | none => e = .returned (.bool false) ∧ ∃ x' s', RAt w0 p x' s' n k0 w'
theorem cut_size (line : ByteArray) (c : UInt8) : ∀ x ∈ cutL c line.data.toList, x.length ≤ line.size := by
  have h2 : line.data.toList.length = line.size := by rw [Array.length_toList]; rfl
  rw [← h2]
  generalize line.data.toList = l
  induction l with
  | nil => intro x hx; simp [cutL] at hx; subst hx; simp
  | cons b l ih =>
    intro x hx
    simp only [cutL] at hx
    by_cases hb : b = c
    · rw [if_pos hb] at hx
      rcases List.mem_cons.1 hx with rfl | hx
      · simp
      · have := ih x hx; simp; omega
    · rw [if_neg hb] at hx
      cases hc : cutL c l with
      | nil => exact absurd hc (cut_ne c l)
      | cons y r =>
        rw [hc] at hx ih
        simp only at hx
        rcases List.mem_cons.1 hx with rfl | hx
        · have := ih y List.mem_cons_self; simp; omega
        · have := ih x (List.mem_cons_of_mem _ hx); simp; omega
theorem bl_bt (l : List (List UInt8)) : bl (l.map (fun x => (⟨x.toArray⟩ : ByteArray))) = l := by
  unfold bl
  rw [List.map_map]
  conv => rhs; rw [← List.map_id l]
  rfl

theorem tv_cell (W : World) (l : List (List UInt8)) (i : Nat) (hi : i < l.length) : (W.alloc (.cells (tv l).toArray 9)).cell? ⟨W.heap.size, i, none⟩ = some (.string ⟨(l.getD i []).toArray⟩) := by
  rw [Lib.cell_of_heap (heap_alloc_new W _)]
  simp [tv, hi, List.getD_eq_getElem?_getD]

set_option maxHeartbeats 8000000 in
set_option maxRecDepth 20000 in
theorem read_any (w0 : World) (p : Nat) (x : Sv) (s : Sp) (n k0 : Nat) (W : World) (h : RAt w0 p x s n k0 W) (hE : Env W) (line : ByteArray) (hs : line.size ≤ 100000) (hn : n ≤ 1000000) (hk0 : k0 ≤ 6) :
    Calls Tryz.prog 39 #[.pointer (some ⟨p, 0, none⟩), .string line] W (ReadP w0 p n k0 (readL ⟨s, n, k0⟩ line.data.toList)) := by
  obtain ⟨m, hm⟩ := hE.maxl
  have K := cut_any line m W (by omega) hm
  obtain ⟨f, rest, hcut⟩ : ∃ f rest, cutL 32 line.data.toList = f :: rest := by
    cases hc : cutL 32 line.data.toList with
    | nil => exact absurd hc (cut_ne _ _)
    | cons f rest => exact ⟨f, rest, rfl⟩
  have hsz := cut_size line 32
  rw [hcut] at K hsz
  have HRL : Hid (readL ⟨s, n, k0⟩ line.data.toList = if folL n k0 (kindL f) = true then (takeL s (kindL f) rest).map (fun s => ⟨s, n + 1, kindL f⟩) else none) := by
    refine hide ?_
    unfold readL
    rw [hcut]
    rfl
  have hlo := low_alloc W (.cells (tv (f :: rest)).toArray 9)
  have HR1 := hide (h.low hlo)
  have HE1 := hide (hE.kept hlo)
  have hpW : p < W.heap.size := h.lt
  have c0 : (W.alloc (.cells (tv (f :: rest)).toArray 9)).cell? ⟨W.heap.size, 0, none⟩ = some (.string ⟨f.toArray⟩) := by simp [tv]
  have HRS : Hid (∀ ao, (rest.length = 0 ∨ ao = some ⟨W.heap.size, 1, none⟩) → ReadsS (W.alloc (.cells (tv (f :: rest)).toArray 9)) ao rest.length (rest.map (fun x => (⟨x.toArray⟩ : ByteArray)))) := by
    refine hide fun ao hao => ⟨by rw [List.length_map], ?_⟩
    rcases hao with h0 | h0
    · exact Or.inl h0
    · refine Or.inr ⟨W.heap.size, 1, h0, fun i hi => ?_⟩
      have := tv_cell W (f :: rest) (i + 1) (by simp; omega)
      rw [Nat.add_comm 1 i, this]
      simp [hi, List.getD_eq_getElem?_getD]
  have HSZ : Hid (∀ t ∈ rest.map (fun x => (⟨x.toArray⟩ : ByteArray)), t.size ≤ 1000000) := by
    refine hide fun t ht => ?_
    obtain ⟨y, hy, rfl⟩ := List.mem_map.1 ht
    have h1 := hsz y (List.mem_cons_of_mem _ hy)
    show y.toArray.size ≤ _
    rw [List.size_toArray]
    omega
  have HK := hide (kindL_le f)
  have HLO := hide hlo
  have hNr : (f :: rest).length = rest.length + 1 := rfl
  rw [hNr] at K
  clear h hE hm hcut hsz hlo hNr
  have hr1 : (1 : Int) ≤ ((rest.length + 1 : Nat) : Int) := by omega
  have hr2 : (1 : Int) ≤ (rest.length : Int) + 1 := by omega
  have hr3 : 1 ≤ rest.length + 1 := by omega
  have hr0 : (0 : Int) < (rest.length : Int) + 1 := by omega
  have hr4 : (0 : Int) < ((rest.length + 1 : Nat) : Int) := by omega
  go_enter Tryz.func39, Tryz.ntmps39
  go_wp2_with fail
  refine K.mono ?_
  clear K
  rintro e w1 ⟨rfl, hw1⟩
  rw [← hw1] at HR1 HE1 c0 HRS HLO
  clear hw1
  have K2 := kindOf_any ⟨f.toArray⟩ w1 HE1.out
  rw [show (⟨f.toArray⟩ : ByteArray).data.toList = f from rfl] at K2
  obtain ⟨k, hk⟩ : ∃ k, kindL f = k := ⟨_, rfl⟩
  rw [hk] at K2 HRL HK
  have hk6 : k ≤ 6 := HK.out
  clear hk HK
  go_wp2_with fail
  refine K2.mono ?_
  clear K2
  rintro e w2 ⟨rfl, rfl⟩
  have K3 := follows_any w0 p x s n k0 w2 HR1.out hn k (by omega) (by omega)
  cases hf : folL n k0 k with
  | false =>
    rw [hf] at K3 HRL
    rw [if_neg (by decide)] at HRL
    clear hf
    go_wp2_with fail
    refine K3.mono ?_
    clear K3
    rintro e w3 ⟨rfl, rfl⟩
    go_wp2
    go_ret
    rw [HRL.out]
    exact ⟨rfl, x, s, HR1.out⟩
  | true =>
    rw [hf] at K3 HRL
    rw [if_pos rfl] at HRL
    clear hf
    go_wp2_with fail
    refine K3.mono ?_
    clear K3
    rintro e w3 ⟨rfl, rfl⟩
    have HK4 : Hid (∀ ao cap, (rest.length = 0 ∨ ao = some ⟨W.heap.size, 1, none⟩) → (∀ b off, ao = some ⟨b, off, none⟩ → b ≠ p) → Calls Tryz.prog 56 #[.pointer (some ⟨p, 0, none⟩), .int .i64 k, .slice ao rest.length cap] w3 (TakeP w0 p n k0 (takeL s k rest))) := by
      refine hide fun ao cap h1 h2 => ?_
      have := take_any w0 p x s n k0 w3 HR1.out HE1.out ao rest.length cap _ (HRS.out ao h1) HSZ.out h2 k hk6
      rwa [bl_bt] at this
    by_cases h0 : rest.length = 0
    · have HK5 := hide (HK4.out (some ⟨W.heap.size, 0, none⟩) 0 (Or.inl h0) (fun b off e => by cases e; omega))
      rw [h0] at HK5 hr1 hr2 hr3 hr0 hr4 ⊢
      clear HK4 HRS
      go_wp2_with fail
      refine HK5.out.mono ?_
      clear HK5
      intro e w4 ht
      cases hres : takeL s k rest with
      | none =>
        rw [hres] at ht HRL
        obtain ⟨rfl, x', s', hx⟩ := ht
        have HX := hide hx
        clear hx hres
        go_wp2
        go_ret
        rw [HRL.out]
        exact ⟨rfl, x', s', HX.out⟩
      | some s' =>
        rw [hres] at ht HRL
        obtain ⟨rfl, x', hx⟩ := ht
        have q7 : w4.cell? ⟨p, 7, none⟩ = some (.int .i64 k0) := hx.cell 7
        have f7 := hx.free 7
        have hx7 := hx.setK k
        have q6 : (w4.setCell ⟨p, 7, none⟩ (.int .i64 k)).cell? ⟨p, 6, none⟩ = some (.int .i64 n) := hx7.cell 6
        have f6 : (w4.setCell ⟨p, 7, none⟩ (.int .i64 k)).frozen? ⟨p, 6, none⟩ = false := hx7.free 6
        have HX := hide (hx7.setN (n + 1))
        clear hx hx7 hres
        go_wp2
        go_ret
        rw [HRL.out]
        exact ⟨rfl, x', HX.out⟩
    · have HK5 := hide (HK4.out (some ⟨W.heap.size, 1, none⟩) rest.length (Or.inr rfl) (fun b off e => by cases e; omega))
      clear HK4 HRS
      have h0i : ¬ ((rest.length : Int) + 1 = 1) := by omega
      go_wp2_with fail
      refine HK5.out.mono ?_
      clear HK5
      intro e w4 ht
      cases hres : takeL s k rest with
      | none =>
        rw [hres] at ht HRL
        obtain ⟨rfl, x', s', hx⟩ := ht
        have HX := hide hx
        clear hx hres
        go_wp2
        go_ret
        rw [HRL.out]
        exact ⟨rfl, x', s', HX.out⟩
      | some s' =>
        rw [hres] at ht HRL
        obtain ⟨rfl, x', hx⟩ := ht
        have q7 : w4.cell? ⟨p, 7, none⟩ = some (.int .i64 k0) := hx.cell 7
        have f7 := hx.free 7
        have hx7 := hx.setK k
        have q6 : (w4.setCell ⟨p, 7, none⟩ (.int .i64 k)).cell? ⟨p, 6, none⟩ = some (.int .i64 n) := hx7.cell 6
        have f6 : (w4.setCell ⟨p, 7, none⟩ (.int .i64 k)).frozen? ⟨p, 6, none⟩ = false := hx7.free 6
        have HX := hide (hx7.setN (n + 1))
        clear hx hx7 hres
        go_wp2
        go_ret
        rw [HRL.out]
        exact ⟨rfl, x', HX.out⟩
end Go.Proofs.YteiinkhdgppgbaaGreatDoor
