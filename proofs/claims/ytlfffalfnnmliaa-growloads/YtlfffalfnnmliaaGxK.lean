/- A spec in memory, over the texts of tokens. The document's Great, and what it bounds, over the texts of tokens. Contracts: grow.Load, and the document's. GrowLoads: the walk. -/
import Derived.Test.YtlfffalfnnmliaaGxA
import Derived.Test.YtlfffalfnnmliaaTkJ
import Derived.Test.YtlfffalfnnmliaaGxG
import Derived.BigQuiet
import Derived.Deep.RegionWith
namespace Go.Proofs.Ytlfffalfnnmliaa
open Go.RowKit Go.Maps
set_option linter.unusedVariables false
set_option linter.unusedSimpArgs false

/-- A spec, as plain data: what is read of it here. -/
structure Sp where
  ranked : Bool
  merges : List (Int × Int)
  tokens : List ByteArray
  specials : List (Int × ByteArray)
def gS (l : List (Int × ByteArray)) (i : Nat) : Int × ByteArray := l.getD i (0, ⟨#[]⟩)
def RdS (w : World) (ao : Option Addr) (n : Nat) (l : List (Int × ByteArray)) : Prop := l.length = n ∧ (n = 0 ∨ ∃ b off, ao = some ⟨b, off, none⟩ ∧ b < w.heap.size ∧ ∀ i, i < n → w.cell? ⟨b, off + i * 2, none⟩ = some (.int .i64 (gS l i).1) ∧ w.cell? ⟨b, off + i * 2 + 1, none⟩ = some (.string (gS l i).2))
theorem RdS.kept {w w' : World} {ao : Option Addr} {n : Nat} {l : List (Int × ByteArray)} (h : RdS w ao n l) (hb : Below w.heap.size w w') : RdS w' ao n l := by
  refine ⟨h.1, ?_⟩
  rcases h.2 with h0 | ⟨b, off, rfl, hlt, hc⟩
  · exact Or.inl h0
  · exact Or.inr ⟨b, off, rfl, Nat.lt_of_lt_of_le hlt hb.size, fun i hi => ⟨(hb.cell hlt).trans (hc i hi).1, (hb.cell hlt).trans (hc i hi).2⟩⟩
/-- A spec's values. -/
structure Sv where
  r : Bool
  a1 : Option Addr
  n1 : Nat
  c1 : Nat
  a2 : Option Addr
  n2 : Nat
  c2 : Nat
  a3 : Option Addr
  n3 : Nat
  c3 : Nat
  a4 : Option Addr
  n4 : Nat
  c4 : Nat
  a5 : Option Addr
  n5 : Nat
  c5 : Nat
abbrev Sv.cs (x : Sv) : Array Value := #[.bool x.r, .slice x.a1 x.n1 x.c1, .slice x.a2 x.n2 x.c2, .slice x.a3 x.n3 x.c3, .slice x.a4 x.n4 x.c4, .slice x.a5 x.n5 x.c5]
/-- A spec lies in memory. -/
structure SpAt (w : World) (x : Sv) (s : Sp) : Prop where
  r : x.r = s.ranked
  ms : ReadsM w x.a1 x.n1 s.merges
  ts : RdT w x.a2 x.n2 s.tokens
  ss : RdS w x.a3 x.n3 s.specials
  z1 : x.n1 ≤ 9223372036854775807
  z2 : x.n2 ≤ 9223372036854775807
theorem SpAt.kept {w w' : World} {x : Sv} {s : Sp} (h : SpAt w x s) (hb : Below w.heap.size w w') : SpAt w' x s :=
  ⟨h.r, h.ms.kept hb, h.ts.kept hb, h.ss.kept hb, h.z1, h.z2⟩
theorem low_alloc (w : World) (o : Obj) : Below w.heap.size w (w.alloc o) := (Below.refl _ _).alloc (Nat.le_refl _) _
/-- A spec in a box. -/
def BxS (q : Nat) (x : Sv) (W : World) : Prop := W.cell? ⟨q, 0, none⟩ = some (.bool x.r) ∧ W.cell? ⟨q, 1, none⟩ = some (.slice x.a1 x.n1 x.c1) ∧ W.cell? ⟨q, 2, none⟩ = some (.slice x.a2 x.n2 x.c2) ∧ W.cell? ⟨q, 3, none⟩ = some (.slice x.a3 x.n3 x.c3) ∧ W.cell? ⟨q, 4, none⟩ = some (.slice x.a4 x.n4 x.c4) ∧ W.cell? ⟨q, 5, none⟩ = some (.slice x.a5 x.n5 x.c5)
theorem BxS.kept {q : Nat} {x : Sv} {W W' : World} (h : BxS q x W) (hq : q < W.heap.size) (hb : Below W.heap.size W W') : BxS q x W' :=
  ⟨(hb.cell (p := ⟨q, _, none⟩) hq).trans h.1, (hb.cell (p := ⟨q, _, none⟩) hq).trans h.2.1, (hb.cell (p := ⟨q, _, none⟩) hq).trans h.2.2.1, (hb.cell (p := ⟨q, _, none⟩) hq).trans h.2.2.2.1, (hb.cell (p := ⟨q, _, none⟩) hq).trans h.2.2.2.2.1, (hb.cell (p := ⟨q, _, none⟩) hq).trans h.2.2.2.2.2⟩
theorem BxS.new (w : World) (x : Sv) (T : TypeId) : BxS w.heap.size x (w.alloc (.cells x.cs T)) := by
  refine ⟨?_, ?_, ?_, ?_, ?_, ?_⟩ <;> simp
structure SpI (w : World) (q : Nat) (x : Sv) (s : Sp) (W : World) : Prop where
  sp : SpAt W x s
  box : BxS q x W
  lt : q < W.heap.size
  bel : Below w.heap.size w W
theorem SpI.next {w : World} {q : Nat} {x : Sv} {s : Sp} {W W' : World} (h : SpI w q x s W) (hb : Below W.heap.size W W') : SpI w q x s W' :=
  ⟨h.sp.kept hb, h.box.kept h.lt hb, Nat.lt_of_lt_of_le h.lt hb.size, h.bel.trans (hb.mono h.bel.size)⟩
theorem SpI.new {w : World} {x : Sv} {s : Sp} (h : SpAt w x s) (T : TypeId) : SpI w w.heap.size x s (w.alloc (.cells x.cs T)) :=
  ⟨h.kept (low_alloc _ _), BxS.new w x T, by simp, low_alloc _ _⟩

end Go.Proofs.Ytlfffalfnnmliaa

namespace Go.Proofs.Ytlfffalfnnmliaa
open Go.RowKit
set_option linter.unusedVariables false
set_option linter.unusedSimpArgs false

/-- It answers; where it says no, there are few. -/
def IsG (x : Sv) (e : Ending) : Prop := e = .returned (.bool true) ∨ (e = .returned (.bool false) ∧ (x.n1 ≤ 60 ∨ x.n1 = 745) ∧ x.n2 ≤ 60)
theorem isG {x : Sv} {e : Ending} (h : e = .returned (.bool true)) : IsG x e := Or.inl h
theorem isN {x : Sv} {e : Ending} (h : e = .returned (.bool false)) (h1 : x.n1 ≤ 60 ∨ x.n1 = 745) (h2 : x.n2 ≤ 60) : IsG x e := Or.inr ⟨h, h1, h2⟩

set_option maxHeartbeats 8000000 in
set_option maxRecDepth 20000 in
theorem great2_any (x : Sv) (s : Sp) (w : World) (h : SpAt w x s) :
    Calls Try.prog 17 #[.agg x.cs] w fun e w' => IsG x e ∧ Below w.heap.size w w' := by
  have HI := hide (SpI.new h 42)
  obtain ⟨y0, y1, y2, y3, y4, y5⟩ := HI.out.box
  clear h
  have hm : (60 < x.n1 ∧ x.n1 ≠ 745) ∨ x.n1 ≤ 60 ∨ x.n1 = 745 := by omega
  have HN1 : Hid (x.n1 ≤ 60 ∨ x.n1 = 745 ∨ 60 < x.n1) := hide (by omega)
  by_cases a1 : 60 < x.n1 ∧ x.n1 ≠ 745
  · have b1 : (60 : Int) < (x.n1 : Int) := by omega
    have b2 : ((x.n1 : Int) != 745) = true := by simp; omega
    clear hm a1
    go_enter Try.func17, Try.ntmps17
    go_wp2
    go_ret
    exact ⟨isG rfl, HI.out.bel⟩
  have hm2 : x.n1 ≤ 60 ∨ x.n1 = 745 := by omega
  clear hm a1 HN1
  have HM2 := hide hm2
  by_cases a2 : 60 < x.n2
  · have b2 : (60 : Int) < (x.n2 : Int) := by omega
    rcases hm2 with a1 | a1
    · have b1 : ¬ (60 : Int) < (x.n1 : Int) := by omega
      go_enter Try.func17, Try.ntmps17
      go_wp2
      go_ret
      exact ⟨isG rfl, HI.out.bel⟩
    · rw [a1] at y1
      clear a1
      go_enter Try.func17, Try.ntmps17
      go_wp2
      go_ret
      exact ⟨isG rfl, HI.out.bel⟩
  have b2 : ¬ (60 : Int) < (x.n2 : Int) := by omega
  by_cases a3 : 40 < x.n3
  · have b3 : (40 : Int) < (x.n3 : Int) := by omega
    rcases hm2 with a1 | a1
    · have b1 : ¬ (60 : Int) < (x.n1 : Int) := by omega
      go_enter Try.func17, Try.ntmps17
      go_wp2
      go_ret
      exact ⟨isG rfl, HI.out.bel⟩
    · rw [a1] at y1
      clear a1
      go_enter Try.func17, Try.ntmps17
      go_wp2
      go_ret
      exact ⟨isG rfl, HI.out.bel⟩
  have b3 : ¬ (40 : Int) < (x.n3 : Int) := by omega
  by_cases a4 : 70 < x.n4
  · have b4 : (70 : Int) < (x.n4 : Int) := by omega
    rcases hm2 with a1 | a1
    · have b1 : ¬ (60 : Int) < (x.n1 : Int) := by omega
      go_enter Try.func17, Try.ntmps17
      go_wp2
      go_ret
      exact ⟨isG rfl, HI.out.bel⟩
    · rw [a1] at y1
      clear a1
      go_enter Try.func17, Try.ntmps17
      go_wp2
      go_ret
      exact ⟨isG rfl, HI.out.bel⟩
  have b4 : ¬ (70 : Int) < (x.n4 : Int) := by omega
  by_cases a5 : 70 < x.n5
  · have b5 : (70 : Int) < (x.n5 : Int) := by omega
    rcases hm2 with a1 | a1
    · have b1 : ¬ (60 : Int) < (x.n1 : Int) := by omega
      go_enter Try.func17, Try.ntmps17
      go_wp2
      go_ret
      exact ⟨isG rfl, HI.out.bel⟩
    · rw [a1] at y1
      clear a1
      go_enter Try.func17, Try.ntmps17
      go_wp2
      go_ret
      exact ⟨isG rfl, HI.out.bel⟩
  have b5 : ¬ (70 : Int) < (x.n5 : Int) := by omega
  have HNN : Hid ((x.n1 ≤ 60 ∨ x.n1 = 745) ∧ x.n2 ≤ 60) := hide ⟨hm2, by omega⟩
  obtain ⟨n1, hn1⟩ : ∃ n1, x.n1 = n1 := ⟨_, rfl⟩
  rw [hn1] at y1 hm2
  have HN := hide hn1
  clear hn1 HM2 a4 a5
  rcases hm2 with a1 | rfl
  all_goals (try have b1 : ¬ (60 : Int) < (n1 : Int) := by omega)
  all_goals
    go_enter Try.func17, Try.ntmps17
    go_wp2
    generalize w.alloc (.cells x.cs 42) = W at *
    go_loopw [3] (fun i wr => ∃ (k : Nat), i = .int .i64 k ∧ k ≤ x.n2 ∧ wr = W) (fun i _ => x.n2 - (intOf i).toNat)
    case atStart => exact ⟨0, rfl, Nat.zero_le _, rfl⟩
    case round =>
      obtain ⟨k, rfl, hk, rfl⟩ := hrel
      by_cases hlt : k < x.n2
      · have hk0 : (0 : Int) ≤ (k : Int) := by omega
        have hk1 : (k : Int) < (x.n2 : Int) := by omega
        rcases HI.out.sp.ts.2 with h0 | ⟨b, off, hao, hbl, hc⟩
        · omega
        have hck := hc k hlt
        clear hc
        rw [hao] at y2
        generalize gT s.tokens k = t at hck
        by_cases ht : 100 < t.size
        · have ht1 : (100 : Int) < (t.size : Int) := by omega
          go_wp2
          go_ret
          exact ⟨isG rfl, HI.out.bel⟩
        · have ht1 : ¬ (100 : Int) < (t.size : Int) := by omega
          go_wp2
          first
            | exact ⟨⟨k + 1, by go_num, by omega, (by first | trivial | rfl)⟩, by simp [intOf]; omega⟩
            | (go_roundw
               case rel => exact ⟨k + 1, by go_num, by omega, (by first | trivial | rfl)⟩
               case measure => simp [intOf]; omega)
      · have hkn : k = x.n2 := by omega
        subst hkn
        clear hlt hk
        go_wp2
        go_loopw [4] (fun i wr2 => ∃ (k : Nat), i = .int .i64 k ∧ k ≤ x.n3 ∧ wr2 = wr) (fun i _ => x.n3 - (intOf i).toNat)
        case atStart => exact ⟨0, rfl, Nat.zero_le _, rfl⟩
        case round =>
          obtain ⟨k, rfl, hk, rfl⟩ := hrel
          by_cases hlt : k < x.n3
          · have hk0 : (0 : Int) ≤ (k : Int) := by omega
            have hk1 : (k : Int) < (x.n3 : Int) := by omega
            rcases HI.out.sp.ss.2 with h0 | ⟨b, off, hao, hbl, hc⟩
            · omega
            have hck := (hc k hlt).2
            clear hc
            rw [hao] at y3
            generalize (gS s.specials k).2 = t at hck
            by_cases ht : 100 < t.size
            · have ht1 : (100 : Int) < (t.size : Int) := by omega
              go_wp2
              go_ret
              exact ⟨isG rfl, HI.out.bel⟩
            · have ht1 : ¬ (100 : Int) < (t.size : Int) := by omega
              go_wp2
              first
                | exact ⟨⟨k + 1, by go_num, by omega, (by first | trivial | rfl)⟩, by simp [intOf]; omega⟩
                | (go_roundw
                   case rel => exact ⟨k + 1, by go_num, by omega, (by first | trivial | rfl)⟩
                   case measure => simp [intOf]; omega)
          · have hkn : k = x.n3 := by omega
            subst hkn
            clear hlt hk
            go_wp2
            go_ret
            exact ⟨isN rfl HNN.out.1 HNN.out.2, HI.out.bel⟩
end Go.Proofs.Ytlfffalfnnmliaa

namespace Go.Proofs.Ytlfffalfnnmliaa
open Go.RowKit Go.Maps
set_option linter.unusedVariables false
set_option linter.unusedSimpArgs false
attribute [local go_sem ↓] Go.wp_at_zero Go.wp_at_succ

/-- The error's number of a spec's k-th; the table behind the first k; how many there are. -/
def ldC (s : Sp) (k : Nat) : Int := if s.ranked then imC s.tokens k else addC (stT s.merges k).1 (gm s.merges k)
def ldS (s : Sp) (k : Nat) : List ByteArray × List (Int × Int) := if s.ranked then imS s.tokens k else stT s.merges k
theorem ldS_tok (s : Sp) (k : Nat) : Tok (ldS s k).1 (ldS s k).2 := by
  unfold ldS
  split
  · exact (imS_rch _ _).tok
  · exact stT_tok _ _
def LdP (s : Sp) (n : Nat) (w : World) (e : Ending) (w' : World) : Prop :=
  (∃ k : Nat, k < n ∧ (∀ j, j < k → ldC s j = 0) ∧ ldC s k ≠ 0 ∧ e = .returned (.tuple #[.pointer none, .int .i64 k, .int .i64 (ldC s k)])) ∨
  ((∀ j, j < n → ldC s j = 0) ∧ ∃ p F v0 v1 b2 b3, e = .returned (.tuple #[.pointer (some ⟨p, 0, none⟩), .int .i64 n, .int .i64 0]) ∧ TAt F p v0 v1 b2 b3 (ldS s n).1 (ldS s n).2 (lgs (ldS s n).1) w')
def ldN (s : Sp) : Nat := if s.ranked then s.tokens.length else s.merges.length

set_option maxRecDepth 20000 in
set_option maxHeartbeats 4000000 in
theorem load_any (x : Sv) (s : Sp) (w : World) (h : SpAt w x s) (h1 : x.n1 ≤ 1000000) (h2 : x.n2 ≤ 1000000) (hs : ∀ t ∈ s.tokens, t.size ≤ 100000) :
    Calls Try.prog 18 #[.agg x.cs] w fun e w' => LdP s (ldN s) w e w' ∧ Below w.heap.size w w' := by
  have HI := hide (SpI.new h 42)
  have hr := h.r
  have HM1 := hide h.ms.1
  have HT1 := hide h.ts.1
  clear h
  obtain ⟨r, a1, n1, c1, a2, n2, c2, a3, n3, c3, a4, n4, c4, a5, n5, c5⟩ := x
  simp only at h1 h2 hr HM1 HT1
  cases r with
  | true =>
    have HLC : Hid (∀ k, ldC s k = imC s.tokens k) := hide (fun k => by unfold ldC; rw [← hr]; rfl)
    have HLS : Hid (∀ k, ldS s k = imS s.tokens k) := hide (fun k => by unfold ldS; rw [← hr]; rfl)
    have HLN : Hid (ldN s = n2) := hide (by unfold ldN; rw [← hr]; exact HT1.out)
    have HC := hide (import_any a2 n2 c2 s.tokens _ HI.out.sp.ts h2 hs)
    clear hr
    go_enter Try.func18, Try.ntmps18
    go_wp2_with fail
    refine (unhide HC).mono ?_
    rintro e w2 ⟨hP, hb2⟩
    have HB := hide (HI.out.bel.trans (hb2.mono HI.out.bel.size))
    clear hb2 HC HI
    rcases hP with ⟨k, hk, hok, hne, rfl⟩ | ⟨hok, p, F, v0, v1, b2, b3, rfl, hT, _⟩
    · have HF := hide (And.intro hok hne)
      clear hok hne
      go_wp2
      (try simp only [Exit.inBlock, Exit.then])
      refine bodyPost_ret (v := .tuple #[.pointer none, .int .i64 k, .int .i64 (imC s.tokens k)]) (by simp [results, Try.results18, go_sem]) rfl ?_
      refine ⟨Or.inl ⟨k, by rw [HLN.out]; exact hk, fun j hj => by rw [HLC.out]; exact HF.out.1 j hj, by rw [HLC.out]; exact HF.out.2, by rw [HLC.out]⟩, HB.out⟩
    · have HF := hide (And.intro hok hT)
      clear hok hT
      go_wp2
      (try simp only [Exit.inBlock, Exit.then])
      refine bodyPost_ret (v := .tuple #[.pointer (some ⟨p, 0, none⟩), .int .i64 n2, .int .i64 0]) (by simp [results, Try.results18, go_sem]) rfl ?_
      refine ⟨Or.inr ⟨fun j hj => by rw [HLC.out]; exact HF.out.1 j (by rw [← HLN.out]; exact hj), p, F, v0, v1, b2, b3, by rw [HLN.out], by rw [HLN.out, HLS.out]; exact HF.out.2⟩, HB.out⟩
  | false =>
    have HLC : Hid (∀ k, ldC s k = addC (stT s.merges k).1 (gm s.merges k)) := hide (fun k => by unfold ldC; rw [← hr]; rfl)
    have HLS : Hid (∀ k, ldS s k = stT s.merges k) := hide (fun k => by unfold ldS; rw [← hr]; rfl)
    have HLN : Hid (ldN s = n1) := hide (by unfold ldN; rw [← hr]; exact HM1.out)
    have HC := hide (new_any a1 n1 c1 s.merges _ HI.out.sp.ms h1)
    clear hr
    go_enter Try.func18, Try.ntmps18
    go_wp2_with fail
    refine (unhide HC).mono ?_
    rintro e w2 ⟨hP, hb2⟩
    have HB := hide (HI.out.bel.trans (hb2.mono HI.out.bel.size))
    clear hb2 HC HI
    rcases hP with ⟨k, hk, hok, hne, rfl⟩ | ⟨hok, p, F, v0, v1, b2, b3, rfl, hT, _⟩
    · have HF := hide (And.intro hok hne)
      clear hok hne
      go_wp2
      (try simp only [Exit.inBlock, Exit.then])
      refine bodyPost_ret (v := .tuple #[.pointer none, .int .i64 k, .int .i64 (addC (stT s.merges k).1 (gm s.merges k))]) (by simp [results, Try.results18, go_sem]) rfl ?_
      refine ⟨Or.inl ⟨k, by rw [HLN.out]; exact hk, fun j hj => by rw [HLC.out]; exact HF.out.1 j hj, by rw [HLC.out]; exact HF.out.2, by rw [HLC.out]⟩, HB.out⟩
    · have HF := hide (And.intro hok hT)
      clear hok hT
      go_wp2
      (try simp only [Exit.inBlock, Exit.then])
      refine bodyPost_ret (v := .tuple #[.pointer (some ⟨p, 0, none⟩), .int .i64 n1, .int .i64 0]) (by simp [results, Try.results18, go_sem]) rfl ?_
      refine ⟨Or.inr ⟨fun j hj => by rw [HLC.out]; exact HF.out.1 j (by rw [← HLN.out]; exact hj), p, F, v0, v1, b2, b3, by rw [HLN.out], by rw [HLN.out, HLS.out]; exact HF.out.2⟩, HB.out⟩

/-- What comes of the document's Load. -/
def RlP (s : Sp) (n : Nat) (w : World) (e : Ending) (w' : World) : Prop :=
  ∃ (k : Nat) (c : Int) (vb vm : Value), e = .returned (.tuple #[.agg #[vb, vm], .int .i64 k, .int .i64 c]) ∧ (∀ j, j < k → ldC s j = 0) ∧ ((k < n ∧ c = ldC s k ∧ c ≠ 0) ∨ (k = n ∧ c = 0)) ∧ RT vb vm (ldS s k).1 (ldS s k).2 w'
/-- A table that goes into the answer's box. -/
theorem rload_out {w0 w W : World} {q : Nat} {vb vm : Value} {tx : List ByteArray} {mg : List (Int × Int)} (hR : RT vb vm tx mg W) (hX : Box2 q (.slice none 0 0) (.slice none 0 0) W) (hq : w.heap.size ≤ q) (hB : Below w.heap.size w W) :
    RT vb vm tx mg ((W.setCell ⟨q, 0, none⟩ vb).setCell ⟨q, 1, none⟩ vm) ∧ Below w.heap.size w ((W.setCell ⟨q, 0, none⟩ vb).setCell ⟨q, 1, none⟩ vm) := by
  have hQ : FrL [q] W ((W.setCell ⟨q, 0, none⟩ vb).setCell ⟨q, 1, none⟩ vm) := ((FrL.refl _ _).set (by simp) _).set (by simp) _
  have hn := hR.ne_box hX
  exact ⟨hR.keptF hQ hn.1 hn.2, hB.trans (hQ.below hB.size (fun k hk => by simp at hk; omega))⟩

set_option maxRecDepth 20000 in
set_option maxHeartbeats 4000000 in
theorem rload_any (x : Sv) (s : Sp) (w : World) (h : SpAt w x s) (h1 : x.n1 ≤ 1000000) (h2 : x.n2 ≤ 1000000) (hs : ∀ t ∈ s.tokens, t.size ≤ 100000) :
    Calls Try.prog 19 #[.agg x.cs] w fun e w' => RlP s (ldN s) w e w' ∧ Below w.heap.size w w' := by
  have hI := SpI.new h 42
  have hr := h.r
  have HM1 := hide h.ms.1
  have HT1 := hide h.ts.1
  clear h
  have hla := low1 (w.alloc (.cells x.cs 42)) (.cells #[.slice none 0 0, .slice none 0 0] 31)
  have hX : Box2 (w.heap.size + 1) (.slice none 0 0) (.slice none 0 0) ((w.alloc (.cells x.cs 42)).alloc (.cells #[.slice none 0 0, .slice none 0 0] 31)) := by have := heap_alloc_new (w.alloc (.cells x.cs 42)) (.cells #[.slice none 0 0, .slice none 0 0] 31); simpa [Box2] using this
  have HI := hide (hI.next hla)
  have HX := hide hX
  clear hI hla hX
  obtain ⟨r, a1, n1, c1, a2, n2, c2, a3, n3, c3, a4, n4, c4, a5, n5, c5⟩ := x
  simp only at h1 h2 hr HM1 HT1
  cases r with
  | true =>
    have HLC : Hid (∀ k, ldC s k = imC s.tokens k) := hide (fun k => by unfold ldC; rw [← hr]; rfl)
    have HLS : Hid (∀ k, ldS s k = imS s.tokens k) := hide (fun k => by unfold ldS; rw [← hr]; rfl)
    have HLN : Hid (ldN s = n2) := hide (by unfold ldN; rw [← hr]; exact HT1.out)
    have HC := hide (rimport_any a2 n2 c2 s.tokens _ HI.out.sp.ts h2 hs)
    clear hr
    go_enter Try.func19, Try.ntmps19
    go_wp2_with fail
    refine (unhide HC).mono ?_
    rintro e w2 ⟨k, c, vb, vm, rfl, hok, hcase, hRT, hb2⟩
    have hB := HI.out.bel.trans (hb2.mono HI.out.bel.size)
    have hX2 := HX.out.kept hb2
    obtain ⟨e1, d1, hv1⟩ := row_form hRT.rb
    obtain ⟨e2, d2, hv2⟩ := row_form hRT.rm
    subst hv1 hv2
    have HO := hide (rload_out (w0 := w) hRT hX2 (show w.heap.size ≤ w.heap.size + 1 by omega) hB)
    obtain ⟨x0, x1, xf⟩ := hX2.cells
    have HF := hide (And.intro hok hcase)
    clear hok hcase hRT hb2 hB HC HI HX
    go_wp2
    (try simp only [Exit.inBlock, Exit.then])
    refine bodyPost_ret (v := .tuple #[.agg #[.slice e1 (imS s.tokens k).1.length d1, .slice e2 (imS s.tokens k).2.length d2], .int .i64 k, .int .i64 c]) (by simp [results, Try.results19, go_sem, x0, x1, xf]) rfl ?_
    exact ⟨⟨k, c, _, _, rfl, fun j hj => by rw [HLC.out]; exact HF.out.1 j hj, by rw [HLC.out, HLN.out]; exact HF.out.2, by rw [HLS.out]; exact HO.out.1⟩, HO.out.2⟩
  | false =>
    have HLC : Hid (∀ k, ldC s k = addC (stT s.merges k).1 (gm s.merges k)) := hide (fun k => by unfold ldC; rw [← hr]; rfl)
    have HLS : Hid (∀ k, ldS s k = stT s.merges k) := hide (fun k => by unfold ldS; rw [← hr]; rfl)
    have HLN : Hid (ldN s = n1) := hide (by unfold ldN; rw [← hr]; exact HM1.out)
    have HC := hide (rnew_any a1 n1 c1 s.merges _ HI.out.sp.ms h1)
    clear hr
    go_enter Try.func19, Try.ntmps19
    go_wp2_with fail
    refine (unhide HC).mono ?_
    rintro e w2 ⟨k, c, vb, vm, rfl, hok, hcase, hRT, hb2⟩
    have hB := HI.out.bel.trans (hb2.mono HI.out.bel.size)
    have hX2 := HX.out.kept hb2
    obtain ⟨e1, d1, hv1⟩ := row_form hRT.rb
    obtain ⟨e2, d2, hv2⟩ := row_form hRT.rm
    subst hv1 hv2
    have HO := hide (rload_out (w0 := w) hRT hX2 (show w.heap.size ≤ w.heap.size + 1 by omega) hB)
    obtain ⟨x0, x1, xf⟩ := hX2.cells
    have HF := hide (And.intro hok hcase)
    clear hok hcase hRT hb2 hB HC HI HX
    go_wp2
    (try simp only [Exit.inBlock, Exit.then])
    refine bodyPost_ret (v := .tuple #[.agg #[.slice e1 (stT s.merges k).1.length d1, .slice e2 (stT s.merges k).2.length d2], .int .i64 k, .int .i64 c]) (by simp [results, Try.results19, go_sem, x0, x1, xf]) rfl ?_
    exact ⟨⟨k, c, _, _, rfl, fun j hj => by rw [HLC.out]; exact HF.out.1 j hj, by rw [HLC.out, HLN.out]; exact HF.out.2, by rw [HLS.out]; exact HO.out.1⟩, HO.out.2⟩

end Go.Proofs.Ytlfffalfnnmliaa

namespace Go.Proofs.Ytlfffalfnnmliaa
open Go.RowKit Go.Maps
set_option linter.unusedVariables false
set_option linter.unusedSimpArgs false
attribute [local go_sem ↓] Go.wp_at_zero Go.wp_at_succ

/-- A region that draws its order, in whatever class of worlds. -/
theorem region_classG {P : Program} {α : Type} (f : α → World) {id : Nat} {Q : Exit → Act → World → Prop} {a : Act} {w : World} {l : List Oper} (hm : P.follows .mixedOrders = true) (hB : Region.lexB .any l.toArray = true) (p0 : α) (h0 : w.drew = f p0)
    (h : wpQuiet P l.toArray (fun w' => ∃ p : α, w' = f p) (fun a' => ∀ w', (∃ p : α, w' = f p) → Q .normal a' w') l a) : (Code.region id l.toArray true).wp P Q a w :=
  wp_region_quiet (C := fun w' => ∃ p : α, w' = f p) hm hB ⟨p0, h0⟩ (by simpa using h)
structure Wg (w : World) where
  W : World
  h : Below w.heap.size w W
theorem ld_same {s : Sp} {k1 k2 : Nat} (h1 : ∀ j, j < k1 → ldC s j = 0) (h2 : ∀ j, j < k2 → ldC s j = 0) (g1 : ldC s k1 ≠ 0) (g2 : ldC s k2 ≠ 0) : k1 = k2 := by
  rcases Nat.lt_trichotomy k1 k2 with h | h | h
  · exact absurd (h2 k1 h) g1
  · exact h
  · exact absurd (h1 k2 h) g2

set_option maxRecDepth 20000 in
set_option maxHeartbeats 8000000 in
theorem gloads_walk (x : Sv) (s : Sp) (w : World) (hS : SpAt w x s) :
    Calls Try.prog 4 #[.agg x.cs] w fun e w' => e = .returned (.bool true) ∧ Below w.heap.size w w' := by
  have HI := hide (SpI.new hS 42)
  have HZ := hide (And.intro hS.z1 hS.z2)
  clear hS
  have HG := hide (great2_any x s _ HI.out.sp)
  obtain ⟨r, a1, n1, c1, a2, n2, c2, a3, n3, c3, a4, n4, c4, a5, n5, c5⟩ := x
  go_enter Try.func4, Try.ntmps4
  go_wp2_with fail
  refine (unhide HG).mono ?_
  rintro e w1 ⟨hE, hb1⟩
  replace HI := hide (HI.out.next hb1)
  clear hb1 HG
  obtain ⟨y0, y1, y2, y3, y4, y5⟩ := HI.out.box
  simp only at y0 y1 y2 y3 y4 y5
  rcases hE with rfl | ⟨rfl, hg1, hg2⟩
  · go_wp2_with fail
    refine (awake7_any _).mono ?_
    rintro e w2 ⟨rfl, hb2⟩
    go_wp2
    go_ret
    exact ⟨rfl, (HI.out.next hb2).bel⟩
  simp only at hg1 hg2
  have HFW := hide (few_any w1 a2 n2 c2 s.tokens HI.out.sp.ts HZ.out.2)
  go_wp2_with fail
  refine (unhide HFW).mono ?_
  rintro e w2 ⟨hE, hw⟩
  obtain rfl := hw.symm
  clear hw HFW
  rcases hE with ⟨rfl, hfew⟩ | ⟨rfl, -⟩
  rotate_left
  · go_wp2_with fail
    refine (awake7_any _).mono ?_
    rintro e w2 ⟨rfl, hb2⟩
    go_wp2
    go_ret
    exact ⟨rfl, (HI.out.next hb2).bel⟩
  by_cases h60 : 60 < n1
  · have h6i : (60 : Int) < (n1 : Int) := by omega
    go_wp2_with fail
    refine (awake7_any _).mono ?_
    rintro e w2 ⟨rfl, hb2⟩
    go_wp2
    go_ret
    exact ⟨rfl, (HI.out.next hb2).bel⟩
  have h6i : ¬ (60 : Int) < (n1 : Int) := by omega
  have HSZ : Hid (∀ t ∈ s.tokens, t.size ≤ 100000) := hide (fun t ht => by have := hfew.2 t ht; omega)
  have hn1 : n1 ≤ 1000000 := by omega
  have hn2 : n2 ≤ 1000000 := by omega
  clear hfew hg1
  have HLD := hide (load_any _ s w1 HI.out.sp hn1 hn2 HSZ.out)
  have HRL := hide (fun (W : World) (h : SpI w w.heap.size ⟨r, a1, n1, c1, a2, n2, c2, a3, n3, c3, a4, n4, c4, a5, n5, c5⟩ s W) => rload_any _ s W h.sp hn1 hn2 HSZ.out)
  go_wp2_with fail
  refine (unhide HLD).mono ?_
  rintro e w2 ⟨hP, hb2⟩
  replace HI := hide (HI.out.next hb2)
  clear y0 y1 y2 y3 y4 y5 hb2 HLD
  obtain ⟨y0, y1, y2, y3, y4, y5⟩ := HI.out.box
  simp only at y0 y1 y2 y3 y4 y5
  generalize ldN s = n at *
  rcases hP with ⟨k, hkn, hok, hne, rfl⟩ | ⟨hok, p, F, v0, v1, b2, b3, rfl, hT⟩
  · have HOK := hide hok
    have HNE := hide hne
    clear hok hne
    go_wp2_with fail
    refine (HRL.out _ HI.out).mono ?_
    rintro e w3 ⟨⟨k2, cx, vb, vm, rfl, hok2, hcase, hRT⟩, hb3⟩
    have hk2 : k2 = k ∧ cx = ldC s k := by
      rcases hcase with ⟨hlt, hc, hc0⟩ | ⟨hk2, _⟩
      · have := ld_same HOK.out hok2 HNE.out (by rw [← hc]; exact hc0)
        subst this
        exact ⟨rfl, hc⟩
      · exact absurd (hok2 k (by omega)) HNE.out
    obtain ⟨rfl, rfl⟩ := hk2
    obtain ⟨e1, d1, hv1⟩ := row_form hRT.rb
    obtain ⟨e2, d2, hv2⟩ := row_form hRT.rm
    subst hv1 hv2
    generalize (ldS s k2).1.length = N1 at *
    generalize (ldS s k2).2.length = N2 at *
    have hla := low1 w3 (.cells #[.slice e1 N1 d1, .slice e2 N2 d2] 31)
    have HB := hide ((HI.out.next hb3).next hla).bel
    clear hok2 hcase hRT hb3 hla HRL y0 y1 y2 y3 y4 y5 HI
    have hne := HNE.out
    generalize ldC s k2 = cc at *
    have hcb : (cc != 0) = true := by simpa using hne
    have hcd : (cc == 0) = false := by simpa using hne
    clear hne HNE
    go_wp2
    generalize w3.alloc (.cells #[.slice e1 N1 d1, .slice e2 N2 d2] 31) = w4 at *
    have HK := hide (fun (P : Wg w) => ((awake7_any P.W).mono fun e w' ⟨he, hb⟩ => ⟨he, ⟨⟨w', P.h.trans (hb.mono P.h.size)⟩, rfl⟩⟩ : Calls Try.prog 10 #[] P.W fun e w' => e = .returned (.bool true) ∧ ∃ P' : Wg w, w' = P'.W))
    have ne : Nonempty (Wg w) := ⟨⟨_, HB.out⟩⟩
    refine region_classG (α := Wg w) Wg.W (by kernel_rfl) (by kernel_rfl) ⟨_, HB.out.drew⟩ rfl ?_
    repeat (go_big_quiet_step ((go_at_call 10; exact HK.out _)))
    refine wpQuiet_nil ?_
    intro wq hw'
    obtain ⟨⟨W, hW⟩, rfl⟩ := hw'
    clear HK ne
    go_wp2
    go_ret
    exact ⟨rfl, hW⟩
  · have HOK := hide hok
    have HT := hide hT
    clear hok hT
    go_wp2_with fail
    refine (HRL.out _ HI.out).mono ?_
    rintro e w3 ⟨⟨k2, cx, vb, vm, rfl, hok2, hcase, hRT⟩, hb3⟩
    have hk2 : k2 = n ∧ cx = 0 := by
      rcases hcase with ⟨hlt, hc, hc0⟩ | h
      · exact absurd (HOK.out k2 hlt) (by rw [← hc]; exact hc0)
      · exact h
    obtain ⟨rfl, rfl⟩ := hk2
    have htok := ldS_tok s k2
    have hml : (ldS s k2).2.length ≤ 1000 := by have h1 := htok.len; have h2 := htok.cap; omega
    obtain ⟨e1, d1, hv1⟩ := row_form hRT.rb
    obtain ⟨e2, d2, hv2⟩ := row_form hRT.rm
    subst hv1 hv2
    have hla := low1 w3 (.cells #[.slice e1 (ldS s k2).1.length d1, .slice e2 (ldS s k2).2.length d2] 31)
    have HS : Hid (GiS w w3.heap.size (.slice e1 (ldS s k2).1.length d1) (.slice e2 (ldS s k2).2.length d2) (ldS s k2).1 (ldS s k2).2 p F v0 v1 b2 b3 none 0 [] (w3.alloc (.cells #[.slice e1 (ldS s k2).1.length d1, .slice e2 (ldS s k2).2.length d2] 31))) := hide ⟨(HT.out.keptB hb3).keptB hla, hRT.kept hla, heap_alloc_new w3 _, ⟨rfl, Or.inl rfl⟩, ((HI.out.next hb3).next hla).bel⟩
    clear hok2 hcase hRT hb3 hla HRL y0 y1 y2 y3 y4 y5 HI HT htok HOK
    generalize (ldS s k2).1 = tx at *
    generalize (ldS s k2).2 = mg at *
    go_wp2
    generalize w3.alloc (.cells #[.slice e1 tx.length d1, .slice e2 mg.length d2] 31) = w4 at *
    generalize w3.heap.size = q at *
    obtain ⟨y0, y1, yf⟩ := HS.out.X.cells
    have CM := hide (fun (W : World) (h : GiS w q (.slice e1 tx.length d1) (.slice e2 mg.length d2) tx mg p F v0 v1 b2 b3 none 0 [] W) => tmerges_any (h.next (below_drew' W)).T hml)
    first
    | (go_region_with (first
      | (go_at_call 14; refine (CM.out _ HS.out).mono ?_; rintro e W1 ⟨⟨rv, rfl, hr⟩, hb⟩; obtain ⟨am, cm, hvv⟩ := row_form hr; subst hvv; have hb2 := below_via' hb (below_drew' _); replace HS := hide (HS.out.next hb2); have z1 := HS.out.X.cells.2.1; have HRM := hide hr)
      | (go_at_call 13; refine (lmerges_same _ _ _ _ _ _ mg (ReadsM.row HRM.out rfl) (HS.out.R.reads rfl) (by omega)).mono ?_; rintro e W2 ⟨rfl, hb2⟩; replace HS := hide (HS.out.next hb2); have z1 := HS.out.X.cells.2.1)
      | (go_at_call 10; refine (awake7_any _).mono ?_; rintro e W5 ⟨rfl, hb2⟩; replace HS := hide (HS.out.next hb2); have z1 := HS.out.X.cells.2.1)))
    | fail
    all_goals
      go_wp2
      go_ret
      exact ⟨rfl, HS.out.B⟩

end Go.Proofs.Ytlfffalfnnmliaa
