/- Contracts: Number, Line, Numbers, awake. -/
import Derived.Test.YteiinkhdgppgbaaGreatDoorWordD
import Derived.Lib.LaidTab
import Derived.Deep.RegionWith
namespace Go.Proofs.YteiinkhdgppgbaaGreatDoor
open Go.RowKit
set_option linter.unusedVariables false
set_option linter.unusedSimpArgs false

/-- The table of tens lies in the world. -/
def Tens (w : World) : Prop := Lib.TabIs Tryz.prog w "internal/strconv.uint64pow10" .u64 Lib.pow10Tab
theorem below_grow (w : World) (k : Nat) (os : Array Obj) : Below w.heap.size w (Go.Sort.grow (w.drewN k) os) := by
  refine ⟨rfl, rfl, rfl, ?_, ?_⟩
  · show w.heap.size ≤ (w.heap ++ os).size
    rw [Array.size_append]; omega
  · intro i hi
    show (w.heap ++ os)[i]? = w.heap[i]?
    exact Array.getElem?_append_left hi

def numS (n : Int) : ByteArray := ⟨(Lib.itoa n).toArray⟩
theorem number_any (n : Int) (h0 : -9223372036854775808 ≤ n) (h1 : n ≤ 9223372036854775807) (w : World) (ht : Tens w) :
    Calls Tryz.prog 47 #[.int .i64 n] w fun e w' => e = .returned (.string (numS n)) ∧ Below w.heap.size w w' := by
  have HT := hide ht
  clear ht
  go_enter Tryz.func47, Tryz.ntmps47
  go_wp2_with fail
  refine (Tryz.strconv_Itoa n h0 h1 w HT.out).mono ?_
  rintro e w1 ⟨rfl, k, os, hw1⟩
  have hb : Below w.heap.size w w1 := by rw [hw1]; exact below_grow w k os
  clear hw1
  go_wp2
  go_ret
  exact ⟨rfl, hb⟩

/-- A slice of texts, read. -/
def ReadsS (w : World) (ao : Option Addr) (n : Nat) (ss : List ByteArray) : Prop :=
  ss.length = n ∧ (n = 0 ∨ ∃ b off, ao = some ⟨b, off, none⟩ ∧ ∀ i, i < n → w.cell? ⟨b, off + i, none⟩ = some (.string (ss.getD i ⟨#[]⟩)))
theorem ReadsS.at {w : World} {ao : Option Addr} {n : Nat} {ss : List ByteArray} (h : ReadsS w ao n ss) {i : Nat} (hi : i < n) :
    ∃ b off, ao = some ⟨b, off, none⟩ ∧ ∀ i, i < n → w.cell? ⟨b, off + i, none⟩ = some (.string (ss.getD i ⟨#[]⟩)) := by
  rcases h.2 with h0 | h1
  · omega
  · exact h1
def lineL (first : ByteArray) (ss : List ByteArray) : List UInt8 := first.data.toList ++ ss.flatMap (fun s => 32 :: s.data.toList)
def lineS (first : ByteArray) (ss : List ByteArray) : ByteArray := ⟨(lineL first ss).toArray⟩
theorem lineL_take (f : ByteArray) (ss : List ByteArray) (k : Nat) (h : k < ss.length) : lineL f (ss.take (k + 1)) = lineL f (ss.take k) ++ (32 :: (ss.getD k ⟨#[]⟩).data.toList) := by
  rw [lineL, List.take_succ_eq_append_getElem h, List.flatMap_append, ← List.append_assoc]
  simp [lineL, List.getD_eq_getElem?_getD, List.getElem?_eq_getElem h]
theorem lineL_len (f : ByteArray) (ss : List ByteArray) (M : Nat) (h : ∀ s ∈ ss, s.size ≤ M) : (lineL f ss).length ≤ f.size + ss.length * (M + 1) := by
  rw [lineL, List.length_append, Array.length_toList]
  have : (ss.flatMap (fun s => 32 :: s.data.toList)).length ≤ ss.length * (M + 1) := by
    induction ss with
    | nil => simp
    | cons a r ih =>
      rw [List.flatMap_cons, List.length_append, List.length_cons, List.length_cons, Array.length_toList, Nat.succ_mul]
      have h1 := h a (by simp)
      have h2 := ih (fun s hs => h s (by simp [hs]))
      have h3 : a.data.size = a.size := rfl
      omega
  have h3 : f.data.size = f.size := rfl
  omega
theorem strCells_byte (s : ByteArray) : Lib.strCells s = Lib.byteCells s.data.toList := rfl

set_option maxHeartbeats 1600000 in
set_option maxRecDepth 20000 in
theorem line_any (f : ByteArray) (ao : Option Addr) (n cap : Nat) (ss : List ByteArray) (w : World) (hR : ReadsS w ao n ss) (hf : f.size ≤ 1000000) (hn : n ≤ 1000) (hss : ∀ s ∈ ss, s.size ≤ 1000000) :
    Calls Tryz.prog 60 #[.string f, .slice ao n cap] w fun e w' => e = .returned (.string (lineS f ss)) ∧ Below w.heap.size w w' := by
  have HR := hide hR
  have HSS := hide hss
  clear hR hss
  go_enter Tryz.func60, Tryz.ntmps60
  go_wp2_with fail
  refine (Tryz.Builder_WriteString w.heap.size w.heap.size [] f _ (Lib.fresh_isBuilder _ _ w) (by simp only [List.length_nil]; omega) (by simp)).mono ?_
  rintro e w1 ⟨rfl, hB1, hb1⟩
  have hbel1 := ((Below.refl w.heap.size w).alloc (Nat.le_refl _) (.cells #[.pointer none, .slice none 0 0] 47)).trans hb1
  have HB1 := hide hB1
  clear hB1 hb1
  go_wp2
  go_loopw [12] (fun i wr => ∃ k : Nat, k ≤ n ∧ i = .int .i64 k ∧ Hid (Lib.IsBuilder 47 5 w.heap.size w.heap.size (Lib.byteCells (lineL f (ss.take k))) wr) ∧ Below w.heap.size w wr) (fun i _ => n - (intOf i).toNat)
  case atStart =>
    refine ⟨0, Nat.zero_le _, rfl, hide (Or.inr ?_), hbel1⟩
    have := HB1.out
    rw [List.nil_append, strCells_byte] at this
    simpa [lineL] using this
  case round =>
    obtain ⟨k, hk, rfl, hB, hbel⟩ := hrel
    have HL : Hid ((Lib.byteCells (lineL f (ss.take k))).length ≤ 1001001001000) := by
      refine hide ?_
      rw [byteCells_length]
      have h1 := lineL_len f (ss.take k) 1000000 (fun s hs => HSS.out s (List.mem_of_mem_take hs))
      have h2 : (ss.take k).length ≤ 1000 := by rw [List.length_take]; omega
      have h3 : (ss.take k).length * (1000000 + 1) ≤ 1000 * (1000000 + 1) := Nat.mul_le_mul_right _ h2
      omega
    by_cases hlt : k < n
    · obtain ⟨b, off, rfl, hcell⟩ := HR.out.at hlt
      obtain ⟨s, hs⟩ : ∃ s, s = ss.getD k ⟨#[]⟩ := ⟨_, rfl⟩
      have hck := (bcell hbel (World.block_lt_of_cell? w _ (hcell k hlt))).trans (hcell k hlt)
      rw [← hs] at hck
      have HS := hide hs
      have hsz : s.size ≤ 1000000 := by
        rw [hs, List.getD_eq_getElem?_getD, List.getElem?_eq_getElem (by rw [HR.out.1]; exact hlt)]
        exact HSS.out _ (List.getElem_mem _)
      clear hs hcell
      go_wp2_with fail
      refine (Tryz.Builder_WriteString w.heap.size w.heap.size _ _ wr hB.out (by have := HL.out; show _ + 1 ≤ _; omega) hbel.size).mono ?_
      rintro e w2 ⟨rfl, hB2, hb2⟩
      have HB2 := hide hB2
      clear hB2
      go_wp2_with fail
      refine (Tryz.Builder_WriteString w.heap.size w.heap.size _ s w2 (Or.inr HB2.out) (by have := HL.out; rw [List.length_append]; show _ + 1 + _ ≤ _; omega) (hbel.trans hb2).size).mono ?_
      rintro e w3 ⟨rfl, hB3, hb3⟩
      have HB3 := hide hB3
      clear hB3
      go_wp2
      go_roundw
      case rel =>
        refine ⟨k + 1, by omega, by go_num, hide (Or.inr ?_), (hbel.trans hb2).trans hb3⟩
        have h3 := HB3.out
        rw [lineL_take f ss k (by rw [HR.out.1]; exact hlt), ← HS.out, byteCells_append]
        rw [List.append_assoc] at h3
        exact h3
      case measure => simp [intOf]; omega
    · have hkn : k = n := by omega
      have HE := hide (show lineS f ss = ⟨(lineL f (ss.take k)).toArray⟩ by rw [List.take_of_length_le (by rw [HR.out.1]; omega)]; rfl)
      clear hkn
      go_wp2_with fail
      refine (Tryz.Builder_String_any w.heap.size w.heap.size _ wr hB.out hbel.size).mono ?_
      rintro e w2 ⟨rfl, hb2⟩
      go_wp2
      go_ret
      refine ⟨?_, hbel.trans hb2⟩
      rw [HE.out]
      rfl

theorem tens_below {w w' : World} (h : Tens w) (hb : Below w.heap.size w w') : Tens w' := by
  unfold Tens Lib.TabIs World.var? at h ⊢
  cases hg : Tryz.prog.globalNamed "internal/strconv.uint64pow10" with
  | none => rw [hg] at h; cases h
  | some g =>
    rw [hg] at h
    simp only [Option.bind_some] at h ⊢
    have hlt : g < w.heap.size := by
      rcases Nat.lt_or_ge g w.heap.size with h' | h'
      · exact h'
      · rw [Array.getElem?_eq_none h'] at h; cases h
    rw [hb.block g hlt]
    exact h

/-- Texts that lie in a block. -/
def OwnS (w : World) (g n : Nat) (ss : List ByteArray) : Prop := ss.length = n ∧ w.heap[g]? = some (.cells (ss.map Value.string).toArray 9 (0, 0))
theorem OwnS.cell {w : World} {g n : Nat} {ss : List ByteArray} (h : OwnS w g n ss) (i : Nat) (hi : i < n) : w.cell? ⟨g, i, none⟩ = some (.string (ss.getD i ⟨#[]⟩)) := by
  rw [Lib.cell_of_heap h.2]
  have : i < ss.length := by rw [h.1]; exact hi
  simp [List.getD_eq_getElem?_getD, List.getElem?_eq_getElem this]
theorem OwnS.frozen {w : World} {g n : Nat} {ss : List ByteArray} (h : OwnS w g n ss) (i : Nat) : w.frozen? ⟨g, i, none⟩ = false := Lib.frozen_of_heap h.2 i
theorem OwnS.lt {w : World} {g n : Nat} {ss : List ByteArray} (h : OwnS w g n ss) : g < w.heap.size := (Array.getElem?_eq_some_iff.1 h.2).1
theorem OwnS.below {w w' : World} {g n : Nat} {ss : List ByteArray} (h : OwnS w g n ss) (hb : Below w.heap.size w w') : OwnS w' g n ss := ⟨h.1, (hb.block g h.lt).trans h.2⟩
theorem OwnS.stored {w : World} {g n : Nat} {ss : List ByteArray} (h : OwnS w g n ss) (j : Nat) (s : ByteArray) : OwnS (w.setCell ⟨g, j, none⟩ (.string s)) g n (ss.set j s) := by
  refine ⟨by rw [List.length_set]; exact h.1, ?_⟩
  simp [World.setCell, Array.getElem?_modify, h.2, List.map_set]
theorem info9 : (Tryz.prog.info? 9).map (fun i => (i.zero, i.size, i.bytes)) = some (some (.string ⟨#[]⟩), 1, 16) := by kernel_rfl
theorem decDigits_len (k : Nat) : ∀ u, u < 10 ^ (k + 1) → (Lib.decDigits u).length ≤ k + 1 := by
  induction k with
  | zero =>
    intro u hu
    rw [Lib.decDigits, dif_pos (by simpa using hu)]
    simp
  | succ k ih =>
    intro u hu
    rw [Lib.decDigits]
    split
    · simp
    · rw [List.length_append]
      have := ih (u / 10) (by rw [Nat.pow_succ] at hu; omega)
      simp only [List.length_cons, List.length_nil]
      omega
theorem numS_size (z : Int) (h0 : -9223372036854775808 ≤ z) (h1 : z ≤ 9223372036854775807) : (numS z).size ≤ 1000000 := by
  show (Lib.itoa z).toArray.size ≤ _
  rw [List.size_toArray, Lib.itoa]
  have e : (10 : Nat) ^ (19 + 1) = 100000000000000000000 := by decide
  split
  · have := decDigits_len 19 z.natAbs (by rw [e]; omega)
    rw [List.length_cons]
    omega
  · have := decDigits_len 19 z.toNat (by rw [e]; omega)
    omega
theorem set_step (zs : List Int) (k n : Nat) (h : k < n) (hl : zs.length = n) : ((zs.take k).map numS ++ List.replicate (n - k) (⟨#[]⟩ : ByteArray)).set k (numS (zs.getD k 0)) = (zs.take (k + 1)).map numS ++ List.replicate (n - (k + 1)) ⟨#[]⟩ := by
  rw [List.take_succ_eq_append_getElem (by omega), List.map_append, show n - k = (n - (k + 1)) + 1 by omega, List.replicate_succ, List.append_assoc]
  have hlen : ((zs.take k).map numS).length = k := by rw [List.length_map, List.length_take]; omega
  rw [List.set_append_right _ _ (by omega), hlen, Nat.sub_self, List.set_cons_zero]
  simp [List.getD_eq_getElem?_getD, List.getElem?_eq_getElem (show k < zs.length by omega)]
def numsS (zs : List Int) : ByteArray := match zs with
  | [] => ⟨#[45]⟩
  | z :: r => lineS (numS z) (r.map numS)

set_option maxHeartbeats 1600000 in
set_option maxRecDepth 20000 in
theorem numbers_any (ao : Option Addr) (n cap : Nat) (zs : List Int) (w : World) (hR : Reads .i64 w ao n zs) (hz : ∀ z ∈ zs, -9223372036854775808 ≤ z ∧ z ≤ 9223372036854775807) (hn : n ≤ 1000) (ht : Tens w) :
    Calls Tryz.prog 45 #[.slice ao n cap] w fun e w' => e = .returned (.string (numsS zs)) ∧ Below w.heap.size w w' := by
  have HT := hide ht
  have HZ := hide hz
  have HR := hide hR
  clear ht hz hR
  by_cases h0 : n = 0
  · subst h0
    have HE := hide (show numsS zs = ⟨#[45]⟩ by rw [List.eq_nil_of_length_eq_zero HR.out.1]; rfl)
    go_enter Tryz.func45, Tryz.ntmps45
    go_wp2
    go_ret
    rw [HE.out]
    exact ⟨rfl, Below.refl _ _⟩
  obtain ⟨w1, cur, hrun, hblk, hcur, hb1⟩ := run_make_block (P := Tryz.prog) w 23 9 Tryz.underlying23 (.string ⟨#[]⟩) 16 info9 n (by omega) (by have : maxLen = 9223372036854775807 := rfl; omega)
  have hOS : OwnS w1 w.heap.size n (List.replicate n ⟨#[]⟩) := by
    refine ⟨List.length_replicate, ?_⟩
    rw [hblk]
    congr 2
    rw [← Array.toList_inj, hcur]
    simp only [madeCells]
    show (Array.map (fun x => (#[Value.string ⟨#[]⟩] : Array Value)[x % 1]!) (Array.range n)).toList = _
    simp [Nat.mod_one, List.map_const']
  have HOS := hide hOS
  clear hblk hcur hOS
  have hnz : ((n : Int) == 0) = false := by simp; omega
  obtain ⟨z0, r, HZS⟩ : ∃ z0 r, Hid (zs = z0 :: r) := by
    cases zs with
    | nil => exact absurd HR.out.1.symm h0
    | cons z0 r => exact ⟨z0, r, hide rfl⟩
  go_enter Tryz.func45, Tryz.ntmps45
  go_wp2
  have H0 := hide h0
  clear h0 hrun
  have hbw1 := hb1.size
  go_loopw [14] (fun i wr => ∃ k : Nat, k ≤ n ∧ i = .int .i64 k ∧ Hid (OwnS wr w.heap.size n ((zs.take k).map numS ++ List.replicate (n - k) ⟨#[]⟩)) ∧ Below w.heap.size w wr) (fun i _ => n - (intOf i).toNat)
  case atStart =>
    refine ⟨0, Nat.zero_le _, rfl, hide ?_, hb1⟩
    simpa using HOS.out
  case round =>
    obtain ⟨k, hk, rfl, hO, hbel⟩ := hrel
    by_cases hlt : k < n
    · obtain ⟨b, off, rfl, hcell⟩ := HR.out.at hlt
      obtain ⟨z, hz⟩ : ∃ z, z = zs.getD k 0 := ⟨_, rfl⟩
      have hck := (bcell hbel (World.block_lt_of_cell? w _ (hcell k hlt))).trans (hcell k hlt)
      rw [← hz] at hck
      have HZ1 := hide hz
      have hzr : -9223372036854775808 ≤ z ∧ z ≤ 9223372036854775807 := by
        rw [hz, List.getD_eq_getElem?_getD, List.getElem?_eq_getElem (by rw [HR.out.1]; exact hlt)]
        exact HZ.out _ (List.getElem_mem _)
      clear hz hcell
      go_wp2_with fail
      refine (number_any z hzr.1 hzr.2 wr (tens_below HT.out hbel)).mono ?_
      rintro e w2 ⟨rfl, hb2⟩
      have hO2 := hO.out.below hb2
      have hcO := hO2.cell k hlt
      have hfO := hO2.frozen k
      have HO3 := hide (hO2.stored k (numS z))
      have HB3 := hide ((hbel.trans (hb2.mono hbel.size)).setCell (p := ⟨w.heap.size, k, none⟩) (Nat.le_refl _) (.string (numS z)))
      clear hO2
      go_wp2
      go_roundw
      case rel =>
        refine ⟨k + 1, by omega, by go_num, hide ?_, HB3.out⟩
        rw [← set_step zs k n hlt HR.out.1, ← HZ1.out]
        exact HO3.out
      case measure => simp [intOf]; omega
    · have hkn : k = n := by omega
      have hO2 := hO.out
      rw [hkn, Nat.sub_self, List.replicate_zero, List.append_nil, List.take_of_length_le (by rw [HR.out.1]; exact Nat.le_refl _), HZS.out] at hO2
      have hkr : n = r.length + 1 := by rw [← HR.out.1, HZS.out]; rfl
      have hc0 : wr.cell? ⟨w.heap.size, 0, none⟩ = some (.string (numS z0)) := hO2.cell 0 (by omega)
      have HRS : Hid (ReadsS wr (if n = 1 then some ⟨w.heap.size, 0, none⟩ else some ⟨w.heap.size, 1, none⟩) (n - 1) (r.map numS)) := by
        refine hide ⟨by rw [List.length_map]; omega, ?_⟩
        by_cases hr : n - 1 = 0
        · exact Or.inl hr
        · rw [if_neg (by omega)]
          refine Or.inr ⟨_, 1, rfl, fun i hi => ?_⟩
          have := hO2.cell (i + 1) (by omega)
          rw [Nat.add_comm 1 i, this]
          simp
      have HZ0 := hide (HZ.out z0 (by rw [HZS.out]; simp))
      have HZr := hide (fun z (h : z ∈ r) => HZ.out z (by rw [HZS.out]; simp [h]))
      have HF := hide (show numsS zs = lineS (numS z0) (r.map numS) by rw [HZS.out]; rfl)
      have h1n : 1 ≤ n := by omega
      have h1i : (1 : Int) ≤ n := by omega
      have h0n : 0 < n := by omega
      have h0i : (0 : Int) < n := by omega
      clear hO2 hO HOS hkr hkn
      have HLN := hide (line_any (numS z0) (if n = 1 then some ⟨w.heap.size, 0, none⟩ else some ⟨w.heap.size, 1, none⟩) (n - 1) (n - 1) (r.map numS) wr.drew (HRS.out) (numS_size z0 HZ0.out.1 HZ0.out.2) (by omega) (by
        intro s hs
        obtain ⟨z, hz, rfl⟩ := List.mem_map.1 hs
        exact numS_size z (HZr.out z hz).1 (HZr.out z hz).2))
      have HC0 : Hid (∀ w2, Below wr.drew.heap.size wr.drew w2 → w2.cell? ⟨w.heap.size, 0, none⟩ = some (.string (numS z0))) := by
        refine hide fun w2 hb2 => ?_
        have hd : wr.drew.cell? ⟨w.heap.size, 0, none⟩ = some (.string (numS z0)) := hc0
        exact (bcell hb2 (World.block_lt_of_cell? wr.drew _ hd)).trans hd
      by_cases hn1 : n = 1
      · have HL1 : Hid (Calls Tryz.prog 60 #[.string (numS z0), .slice (some ⟨w.heap.size, 0, none⟩) 0 0] wr.drew fun e w' => e = .returned (.string (lineS (numS z0) (r.map numS))) ∧ Below wr.drew.heap.size wr.drew w') := by
          have := HLN.out
          rw [if_pos hn1, show n - 1 = 0 by omega] at this
          exact hide this
        clear HLN HRS
        go_wp2_with fail
        go_region_held3 (fun W => W.cell? ⟨w.heap.size, 0, none⟩ = some (.string (numS z0))) (go_keep) (first | (go_at_call 60; refine (HL1.out).mono ?_; rintro e w2 ⟨rfl, hb2⟩; have hc2 := HC0.out w2 hb2))
        go_wp2
        go_ret
        rw [HF.out]
        exact ⟨rfl, hbel.drew.trans (hb2.mono hbel.size)⟩
      · have HL1 : Hid (Calls Tryz.prog 60 #[.string (numS z0), .slice (some ⟨w.heap.size, 1, none⟩) (n - 1) (n - 1)] wr.drew fun e w' => e = .returned (.string (lineS (numS z0) (r.map numS))) ∧ Below wr.drew.heap.size wr.drew w') := by
          have := HLN.out
          rw [if_neg hn1] at this
          exact hide this
        clear HLN HRS
        go_wp2_with fail
        go_region_held3 (fun W => W.cell? ⟨w.heap.size, 0, none⟩ = some (.string (numS z0))) (go_keep) (first | (go_at_call 60; refine (HL1.out).mono ?_; rintro e w2 ⟨rfl, hb2⟩; have hc2 := HC0.out w2 hb2))
        go_wp2
        go_ret
        rw [HF.out]
        exact ⟨rfl, hbel.drew.trans (hb2.mono hbel.size)⟩
end Go.Proofs.YteiinkhdgppgbaaGreatDoor
