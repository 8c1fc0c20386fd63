/- What a trie tells: at, Count, Nodes, Begin, Longest. -/
import Derived.Test.YtadbffphmmkljaaTrD
import Derived.BigQuiet
namespace Go.Proofs.Ytadbffphmmkljaa
open Go.RowKit Go.Maps
set_option linter.unusedVariables false
set_option linter.unusedSimpArgs false

/-- A region that draws its order, in whatever class of worlds. -/
theorem region_t {P : Program} {α : Type} (f : α → World) {id : Nat} {Q : Exit → Act → World → Prop} {a : Act} {w : World} {l : List Oper} (hm : P.follows .mixedOrders = true) (hB : Region.lexB .any l.toArray = true) (p0 : α) (h0 : w.drew = f p0)
    (h : wpQuiet P l.toArray (fun w' => ∃ p : α, w' = f p) (fun a' => ∀ w', (∃ p : α, w' = f p) → Q .normal a' w') l a) : (Code.region id l.toArray true).wp P Q a w :=
  wp_region_quiet (C := fun w' => ∃ p : α, w' = f p) hm hB ⟨p0, h0⟩ (by simpa using h)
/-- A world, and what holds of it. -/
structure Wt (M : World → Prop) where
  W : World
  h : M W
abbrev Wn (wr : World) := Wt (fun W => Below wr.heap.size wr W)
theorem below_dr {w : World} : Below w.heap.size w w.drew := ⟨rfl, rfl, rfl, Nat.le_refl _, fun _ _ => rfl⟩
theorem below_st {w wr W : World} (h : Below w.heap.size w wr) (hb : Below wr.heap.size wr W) : Below w.heap.size w W := h.trans (hb.mono h.size)
/-- The trie of the tokens' texts S, as it is read. -/
structure TrR (B r : Nat) (S : List (List UInt8)) (C : Nat) (bk mp : List UInt8 → Option Nat) (W : World) : Prop where
  ts : ∃ N, TS B r bk mp (undT S none) (idT S) N C W
  nd : ∀ t, bk t ≠ none ↔ ndT S none t
section
variable {B r C : Nat} {S : List (List UInt8)} {bk mp : List UInt8 → Option Nat} {W W' : World}
theorem Tri.read {tx : List ByteArray} (h : Tri B r tx W) : ∃ bk mp, TrR B r (lsT tx) (cnT (lsT tx) tx.length) bk mp W := by
  obtain ⟨N, bk, mp, h1, h2, _⟩ := h
  exact ⟨bk, mp, ⟨N, h1⟩, h2⟩
theorem TrR.kept (h : TrR B r S C bk mp W) (hb : Below W.heap.size W W') : TrR B r S C bk mp W' := by
  obtain ⟨⟨N, h1⟩, h2⟩ := h
  exact ⟨⟨N, h1.kept hb⟩, h2⟩
theorem TrR.look (h : TrR B r S C bk mp W) (t : List UInt8) (c : UInt8) : (Instr.lookup 55 (.map (mp t)) (.int .u8 (c.toNat : Int)) false).run Try.prog W = .ok (pN (bk (t ++ [c]))) W := by
  obtain ⟨⟨N, h1⟩, _⟩ := h
  exact h1.look t c
theorem TrR.node (h : TrR B r S C bk mp W) {t : List UInt8} {b : Nat} (hb : bk t = some b) : NdA b (undT S none t : Int) (idT S t) (mp t) W := by
  obtain ⟨⟨N, h1⟩, _⟩ := h
  exact h1.node t b hb
theorem TrR.root (h : TrR B r S C bk mp W) : bk [] = some r := by
  obtain ⟨⟨N, h1⟩, _⟩ := h
  exact h1.root
theorem TrR.none (h : TrR B r S C bk mp W) {s t : List UInt8} (hp : t <+: s) (ht : bk t = none) : bk s = none := by
  cases e : bk s with
  | none => rfl
  | some b => exact absurd ht ((h.nd t).2 (ndT_pre ((h.nd s).1 (by rw [e]; simp)) hp))
end
theorem take_c {x : ByteArray} {k : Nat} (h : k < x.size) : x.data.toList.take k ++ [x[k]'h] = x.data.toList.take (k + 1) := by
  have hk : k < x.data.toList.length := by simpa using h
  have : x[k]'h = x.data.toList[k] := by simp [ByteArray.getElem_eq_getElem_data]
  rw [this]
  exact List.take_append_getElem hk

set_option maxRecDepth 20000 in
set_option maxHeartbeats 4000000 in
theorem tat_any {B r C : Nat} {S : List (List UInt8)} {bk mp : List UInt8 → Option Nat} {w : World} (h : TrR B r S C bk mp w) (x : ByteArray) (hx : x.size ≤ 9223372036854775806) :
    Calls Try.prog 26 #[.pointer (some ⟨r, 0, none⟩), .string x] w fun e w' => e = .returned (pN (bk x.data.toList)) ∧ Below w.heap.size w w' := by
  have HT := hide h
  have HRt : Hid (pN (bk (x.data.toList.take 0)) = .pointer (some ⟨r, 0, none⟩)) := hide (by rw [List.take_zero, h.root]; rfl)
  clear h
  go_enter Try.func26, Try.ntmps26
  go_wp2
  go_loopw [5, 6] (fun p i wr => ∃ (k : Nat), p = pN (bk (x.data.toList.take k)) ∧ i = .int .i64 k ∧ k ≤ x.size ∧ Hid (Below w.heap.size w wr)) (fun _ i _ => x.size - (intOf i).toNat)
  case atStart => exact ⟨0, HRt.out.symm, rfl, Nat.zero_le _, hide (Below.refl _ _)⟩
  case round =>
    obtain ⟨k, rfl, rfl, hk, HB⟩ := hrel
    have HN := hide (HT.out.kept HB.out)
    by_cases hlt : k < x.size
    · have hk0 : (0 : Int) ≤ (k : Int) := by omega
      have hk1 : (k : Int) < (x.size : Int) := by omega
      cases hb : bk (x.data.toList.take k) with
      | none =>
        have HR : Hid (bk x.data.toList = none) := hide (HN.out.none (List.take_prefix k _) hb)
        simp only [pN, Option.map_none]
        go_wp2
        go_ret
        exact ⟨by rw [HR.out]; rfl, HB.out⟩
      | some b =>
        have hn := HN.out.node hb
        have y0 : ∀ d : Wn wr, d.W.cell? ⟨b, 3, none⟩ = some (.map (mp (x.data.toList.take k))) := fun d => ((HN.out.kept d.h).node hb).c3
        have y1 : ∀ d : Wn wr, (Instr.lookup 55 (.map (mp (x.data.toList.take k))) (.int .u8 ((x[k]'hlt).toNat : Int)) false).run Try.prog d.W = .ok (pN (bk (x.data.toList.take (k + 1)))) d.W := fun d => by
          have := (HN.out.kept d.h).look (x.data.toList.take k) (x[k]'hlt)
          rwa [take_c hlt] at this
        have ne : Nonempty (Wn wr) := ⟨⟨_, Below.refl _ _⟩⟩
        simp only [pN, Option.map_some]
        clear hn
        generalize hv : pN (bk (x.data.toList.take (k + 1))) = v at *
        have HV := hide hv
        clear hv
        generalize mp (x.data.toList.take k) = m at *
        go_wp2
        refine region_t (α := Wn wr) Wt.W (by kernel_rfl) (by kernel_rfl) ⟨_, below_dr⟩ rfl ?_
        repeat (go_big_quiet_step (fail))
        refine wpQuiet_nil ?_
        intro W1 hw'
        have hW : Below wr.heap.size wr W1 := by obtain ⟨p, rfl⟩ := hw'; exact p.h
        have HB1 := hide (below_st HB.out hW)
        clear hW hw' y0 y1 ne HN HB
        go_wp2
        exact ⟨⟨k + 1, HV.out.symm, by go_num, by omega, HB1⟩, by simp [intOf]; omega⟩
    · obtain rfl : x.size = k := by omega
      have hX : x.data.toList.take x.size = x.data.toList := List.take_of_length_le (by simp)
      rw [hX]
      generalize hv : pN (bk x.data.toList) = v at *
      have HV := hide hv
      clear hv
      go_wp2
      go_ret
      exact ⟨by rw [HV.out]; rfl, HB.out⟩

set_option maxRecDepth 20000 in
set_option maxHeartbeats 4000000 in
theorem tcount_any {B r C : Nat} {S : List (List UInt8)} {bk mp : List UInt8 → Option Nat} {w : World} (h : TrR B r S C bk mp w) (x : ByteArray) (hx : x.size ≤ 9223372036854775806) :
    Calls Try.prog 13 #[.pointer (some ⟨r, 0, none⟩), .string x] w fun e w' => e = .returned (.int .i64 ((wiT S x.data.toList).length : Int)) ∧ Below w.heap.size w w' := by
  have HK := hide (tat_any h x hx)
  have HT := hide h
  clear h
  go_enter Try.func13, Try.ntmps13
  go_wp2_with fail
  refine (unhide HK).mono ?_
  rintro e w1 ⟨rfl, hb⟩
  have HB := hide hb
  have HN := hide (HT.out.kept hb)
  clear hb HK
  cases hbk : bk x.data.toList with
  | none =>
    have HR : Hid ((wiT S x.data.toList).length = 0) := hide (by rw [(ndT_wi (fun hn => (HN.out.nd _).2 hn hbk)).1]; rfl)
    simp only [pN, Option.map_none]
    go_wp2
    go_ret
    exact ⟨by rw [HR.out]; rfl, HB.out⟩
  | some b =>
    have c0 := (HN.out.node hbk).c0
    rw [← wiT_len] at c0
    generalize hv : (wiT S x.data.toList).length = v at *
    have HV := hide hv
    clear hv
    simp only [pN, Option.map_some]
    go_wp2
    go_ret
    exact ⟨by rw [HV.out]; rfl, HB.out⟩
theorem tnodes_any {B r C : Nat} {S : List (List UInt8)} {bk mp : List UInt8 → Option Nat} {w : World} (h : TrR B r S C bk mp w) :
    Calls Try.prog 19 #[.pointer (some ⟨r, 0, none⟩)] w fun e w' => e = .returned (.int .i64 (C : Int)) ∧ w' = w := by
  have c4 : w.cell? ⟨r, 4, none⟩ = some (.int .i64 (C : Int)) := by
    obtain ⟨⟨N, h1⟩, _⟩ := h
    exact h1.cnt
  clear h
  go_enter Try.func19, Try.ntmps19
  go_wp2
  go_ret
  exact ⟨rfl, rfl⟩

/-- Numbers as cells. -/
def nv (l : List Nat) : List Value := Mk.iv (l.map (fun (k : Nat) => (k : Int)))
theorem nv_len (l : List Nat) : (nv l).length = l.length := by simp [nv, Mk.iv]
/-- Where Begin stands. -/
structure BgI (w : World) (S : List (List UInt8)) (X : List UInt8) (k : Nat) (ao : Option Addr) (n cap : Nat) (W : World) : Prop where
  bel : Below w.heap.size w W
  row : W.ownsRow w.heap.size 3 1 (.slice ao n cap) n (nv (beT S X k))
  len : n = (beT S X k).length

set_option maxRecDepth 20000 in
set_option maxHeartbeats 4000000 in
theorem tbegin_any {B r C : Nat} {S : List (List UInt8)} {bk mp : List UInt8 → Option Nat} {w : World} (h : TrR B r S C bk mp w) (x : ByteArray) (hx : x.size ≤ 900000) :
    Calls Try.prog 15 #[.pointer (some ⟨r, 0, none⟩), .string x] w fun e w' => (∃ ao n cap, e = .returned (.slice ao n cap) ∧ n = (beT S x.data.toList x.size).length ∧ w'.ownsRow w.heap.size 3 1 (.slice ao n cap) n (nv (beT S x.data.toList x.size))) ∧ Below w.heap.size w w' := by
  have HT := hide h
  have HRt : Hid (bk (x.data.toList.take 0) = some r) := hide (by rw [List.take_zero, h.root])
  clear h
  go_enter Try.func15, Try.ntmps15
  go_wp2
  go_loopw [5, 6, 7] (fun a p i wr => ∃ (k b : Nat) (ao : Option Addr) (n cap : Nat), a = .slice ao n cap ∧ p = .pointer (some ⟨b, 0, none⟩) ∧ i = .int .i64 k ∧ k ≤ x.size ∧ bk (x.data.toList.take k) = some b ∧ Hid (BgI w S x.data.toList k ao n cap wr)) (fun _ _ i _ => x.size - (intOf i).toNat)
  case atStart => exact ⟨0, r, none, 0, 0, rfl, rfl, rfl, Nat.zero_le _, HRt.out, hide ⟨Below.refl _ _, World.ownsRow_nil _ _ _ _, rfl⟩⟩
  case round =>
    obtain ⟨k, b, ao, n, cap, rfl, rfl, rfl, hk, hb, HI⟩ := hrel
    have HN := hide (HT.out.kept HI.out.bel)
    by_cases hlt : k < x.size
    · have hk0 : (0 : Int) ≤ (k : Int) := by omega
      have hk1 : (k : Int) < (x.size : Int) := by omega
      have y0 : ∀ d : Wn wr, d.W.cell? ⟨b, 3, none⟩ = some (.map (mp (x.data.toList.take k))) := fun d => ((HN.out.kept d.h).node hb).c3
      have y1 : ∀ d : Wn wr, (Instr.lookup 55 (.map (mp (x.data.toList.take k))) (.int .u8 ((x[k]'hlt).toNat : Int)) false).run Try.prog d.W = .ok (pN (bk (x.data.toList.take (k + 1)))) d.W := fun d => by
        have := (HN.out.kept d.h).look (x.data.toList.take k) (x[k]'hlt)
        rwa [take_c hlt] at this
      have ne : Nonempty (Wn wr) := ⟨⟨_, Below.refl _ _⟩⟩
      cases hb2 : bk (x.data.toList.take (k + 1)) with
      | none =>
        have HR : Hid (beT S x.data.toList x.size = beT S x.data.toList k) := hide (by
          have := beT_stop (S := S) (t := x.data.toList) (i := k) (fun hn => (HN.out.nd _).2 hn hb2) (x.size - k)
          rwa [show k + (x.size - k) = x.size by omega] at this)
        rw [hb2] at y1
        simp only [pN, Option.map_none] at y1
        generalize mp (x.data.toList.take k) = m at *
        go_wp2
        refine region_t (α := Wn wr) Wt.W (by kernel_rfl) (by kernel_rfl) ⟨_, below_dr⟩ rfl ?_
        repeat (go_big_quiet_step (fail))
        refine wpQuiet_nil ?_
        intro W1 hw'
        have hW : Below wr.heap.size wr W1 := by obtain ⟨p, rfl⟩ := hw'; exact p.h
        have HB1 := hide (below_st HI.out.bel hW)
        have HRW := hide (Mk.row_keptB HI.out.row hW)
        have HLN := hide HI.out.len
        clear hW hw' y0 y1 ne HN HI hb hb2
        go_wp2
        go_ret
        exact ⟨⟨ao, n, cap, rfl, by rw [HR.out]; exact HLN.out, by rw [HR.out]; exact HRW.out⟩, HB1.out⟩
      | some b2 =>
        rw [hb2] at y1
        simp only [pN, Option.map_some] at y1
        generalize mp (x.data.toList.take k) = m at *
        go_wp2
        refine region_t (α := Wn wr) Wt.W (by kernel_rfl) (by kernel_rfl) ⟨_, below_dr⟩ rfl ?_
        repeat (go_big_quiet_step (fail))
        refine wpQuiet_nil ?_
        intro W1 hw'
        have hW : Below wr.heap.size wr W1 := by obtain ⟨p, rfl⟩ := hw'; exact p.h
        have z0 : ∀ d : Wn W1, d.W.cell? ⟨b, 3, none⟩ = some (.map m) := fun d => y0 ⟨d.W, hW.trans (d.h.mono hW.size)⟩
        have z1 : ∀ d : Wn W1, (Instr.lookup 55 (.map m) (.int .u8 ((x[k]'hlt).toNat : Int)) false).run Try.prog d.W = .ok (.pointer (some ⟨b2, 0, none⟩)) d.W := fun d => y1 ⟨d.W, hW.trans (d.h.mono hW.size)⟩
        have ne1 : Nonempty (Wn W1) := ⟨⟨_, Below.refl _ _⟩⟩
        have HB1 := hide hW
        clear hW hw' y0 y1 ne
        go_wp2
        refine region_t (α := Wn W1) Wt.W (by kernel_rfl) (by kernel_rfl) ⟨_, below_dr⟩ rfl ?_
        repeat (go_big_quiet_step (fail))
        refine wpQuiet_nil ?_
        intro W2 hw'
        have hW2 : Below W1.heap.size W1 W2 := by obtain ⟨p, rfl⟩ := hw'; exact p.h
        have hW := HB1.out.trans (hW2.mono HB1.out.size)
        have HI2 : Hid (BgI w S x.data.toList k ao n cap W2) := hide ⟨HI.out.bel.trans (hW.mono HI.out.bel.size), Mk.row_keptB HI.out.row hW, HI.out.len⟩
        have hnd := (HN.out.kept hW).node hb2
        have c1 := hnd.c1
        have c2 := hnd.c2
        have HBE : Hid (beT S x.data.toList (k + 1) = beT S x.data.toList k ++ (idT S (x.data.toList.take (k + 1))).toList) := hide rfl
        have hle := beT_len S x.data.toList k
        clear hW hW2 hw' z0 z1 ne1 HB1 HI HN hnd
        cases hid : idT S (x.data.toList.take (k + 1)) with
        | none =>
          rw [hid] at c1 c2 HBE
          have HN2 : Hid (BgI w S x.data.toList (k + 1) ao n cap W2) := hide ⟨HI2.out.bel, by rw [HBE.out]; simpa using HI2.out.row, by rw [HBE.out]; simpa using HI2.out.len⟩
          simp only [Option.isSome_none] at c2
          clear HI2 HBE
          go_wp2
          exact ⟨⟨k + 1, b2, ao, n, cap, rfl, rfl, by go_num, by omega, hb2, HN2⟩, by simp [intOf]; omega⟩
        | some id =>
          rw [hid] at c1 c2 HBE
          simp only [Option.isSome_some] at c2
          simp only [Option.getD_some] at c1
          have hn := HI2.out.len
          obtain ⟨g, cap1, w3, hrun, hown, hb3⟩ := Mk.app_int W2 w.heap.size ao n cap _ (id : Int) HI2.out.row (by omega) HI2.out.bel.size
          have HRUN := hide hrun
          have HN2 : Hid (BgI w S x.data.toList (k + 1) (some ⟨g, 0, none⟩) (n + 1) cap1 w3) := hide ⟨HI2.out.bel.trans hb3, by rw [HBE.out]; simpa [nv] using hown, by rw [HBE.out, List.length_append, hn]; rfl⟩
          clear hrun hown hb3 HI2 HBE hn hle
          go_wp2_with (at_builtin; refine Lib.wpList_append_run _ rfl _ _ _ _ rfl _ _ rfl rfl _ _ HRUN.out ?_)
          first
            | exact ⟨⟨k + 1, b2, _, _, _, rfl, rfl, by go_num, by omega, hb2, HN2⟩, by simp [intOf]; omega⟩
            | (go_roundw
               case rel => exact ⟨k + 1, b2, _, _, _, rfl, rfl, by go_num, by omega, hb2, HN2⟩
               case measure => simp [intOf]; omega)
    · obtain rfl : x.size = k := by omega
      have ne : Nonempty (Wn wr) := ⟨⟨_, Below.refl _ _⟩⟩
      go_wp2
      refine region_t (α := Wn wr) Wt.W (by kernel_rfl) (by kernel_rfl) ⟨_, below_dr⟩ rfl ?_
      repeat (go_big_quiet_step (fail))
      refine wpQuiet_nil ?_
      intro W1 hw'
      have hW : Below wr.heap.size wr W1 := by obtain ⟨p, rfl⟩ := hw'; exact p.h
      have HB1 := hide (below_st HI.out.bel hW)
      have HRW := hide (Mk.row_keptB HI.out.row hW)
      have HLN := hide HI.out.len
      clear hW hw' ne HN HI hb
      go_wp2
      go_ret
      exact ⟨⟨ao, n, cap, rfl, HLN.out, HRW.out⟩, HB1.out⟩

set_option maxRecDepth 20000 in
set_option maxHeartbeats 4000000 in
theorem tlongest_any {B r C : Nat} {S : List (List UInt8)} {bk mp : List UInt8 → Option Nat} {w : World} (h : TrR B r S C bk mp w) (x : ByteArray) (hx : x.size ≤ 900000) :
    Calls Try.prog 12 #[.pointer (some ⟨r, 0, none⟩), .string x] w fun e w' => e = .returned (.tuple #[.int .i64 (((beT S x.data.toList x.size).getLastD 0 : Nat) : Int), .bool (decide (0 < (beT S x.data.toList x.size).length))]) ∧ Below w.heap.size w w' := by
  have HK := hide (tbegin_any h x hx)
  have hle := beT_len S x.data.toList x.size
  clear h
  generalize beT S x.data.toList x.size = l at *
  go_enter Try.func12, Try.ntmps12
  go_wp2_with fail
  refine (unhide HK).mono ?_
  rintro e w1 ⟨⟨ao, n, cap, rfl, hn, hrow⟩, hb⟩
  have HB := hide hb
  have HR := hide (Mk.RdI.of_row hrow)
  clear hb HK hrow
  by_cases h0 : l.length = 0
  · obtain rfl : l = [] := List.length_eq_zero_iff.1 h0
    subst hn
    clear HR
    go_wp2
    (try simp only [Exit.inBlock, Exit.then])
    exact bodyPost_ret (v := .tuple #[.int .i64 0, .bool false]) (by simp [results, Try.results12, go_sem]) rfl ⟨by simp, HB.out⟩
  · subst hn
    rcases HR.out.2 with h1 | ⟨b, off, rfl, _, hc⟩
    · exact absurd h1 h0
    obtain ⟨m, hm⟩ : ∃ m, l.length = m + 1 := ⟨l.length - 1, by omega⟩
    have c0 := hc m (by omega)
    have hg : Mk.gI (l.map (fun (k : Nat) => (k : Int))) m = ((l.getLastD 0 : Nat) : Int) := by
      have h2 : m < l.length := by omega
      have h3 : l.getLastD 0 = l[m] := by
        rw [List.getLastD_eq_getLast?, List.getLast?_eq_getElem?, show l.length - 1 = m by omega, List.getElem?_eq_getElem h2]
        rfl
      rw [h3]
      simp [Mk.gI, h2]
    rw [hg] at c0
    have hd : decide (0 < l.length) = true := decide_eq_true (by omega)
    have HE : Hid (((l.getLastD 0 : Nat) : Int) = ((l.getLastD 0 : Nat) : Int) ∧ decide (0 < l.length) = true) := hide ⟨rfl, hd⟩
    have hw : IntKind.i64.wrap ((l.length : Int) - 1) = (m : Int) := by rw [IntKind.wrap_i64]; omega
    have hne : decide ((l.length : Int) = 0) = false := decide_eq_false (by omega)
    have hm0 : (0 : Int) ≤ (m : Int) := by omega
    have hm1 : (m : Int) < (l.length : Int) := by omega
    clear hc hg hd HR
    generalize hv : l.getLastD 0 = v at *
    have HV := hide hv
    clear hv
    go_wp2
    (try simp only [Exit.inBlock, Exit.then])
    exact bodyPost_ret (v := .tuple #[.int .i64 (v : Int), .bool true]) (by simp [results, Try.results12, go_sem]) rfl ⟨by rw [HV.out, HE.out.2], HB.out⟩
end Go.Proofs.Ytadbffphmmkljaa
