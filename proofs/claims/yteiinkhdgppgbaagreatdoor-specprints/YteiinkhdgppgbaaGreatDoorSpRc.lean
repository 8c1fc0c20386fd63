/- Contracts: the token and the special token that words tell; the reader's head. -/
import Derived.Test.YteiinkhdgppgbaaGreatDoorSpRb
namespace Go.Proofs.YteiinkhdgppgbaaGreatDoor
open Go.RowKit
set_option linter.unusedVariables false
set_option linter.unusedSimpArgs false

theorem one_word {ws : List ByteArray} (h : ws.length = 1) : ∃ s, ws = [s] := by
  match ws, h with
  | [s], _ => exact ⟨s, rfl⟩
theorem two_words {ws : List ByteArray} (h : ws.length = 2) : ∃ s t, ws = [s, t] := by
  match ws, h with
  | [s, t], _ => exact ⟨s, t, rfl⟩
theorem unhx_eq (s : ByteArray) : unhx s.data.toList = unhexS s := by unfold unhx; rfl

set_option maxHeartbeats 4000000 in
set_option maxRecDepth 20000 in
theorem tokenW_any (ao : Option Addr) (n cap : Nat) (ws : List ByteArray) (w : World) (hR : ReadsS w ao n ws) (hws : ∀ s ∈ ws, s.size ≤ 1000000) :
    Calls Tryz.prog 70 #[.slice ao n cap] w fun e w' => Below w.heap.size w w' ∧
      ((∃ s, ws = [s] ∧ e = .returned (.tuple #[.string (unhexS s).1, .bool (unhexS s).2])) ∨ (n ≠ 1 ∧ e = .returned (.tuple #[.string ⟨#[]⟩, .bool false]))) := by
  by_cases hn : n = 1
  · subst hn
    obtain ⟨s, rfl⟩ := one_word hR.1
    obtain ⟨b, off, rfl, hc⟩ := hR.at (show 0 < 1 by omega)
    have c0 : w.cell? ⟨b, off, none⟩ = some (.string s) := hc 0 (by omega)
    have K := unhex_any s w (hws s List.mem_cons_self)
    clear hR hc hws
    obtain ⟨q, hq⟩ : ∃ q, unhexS s = q := ⟨_, rfl⟩
    rw [hq] at K
    have HQ := hide hq
    clear hq
    go_enter Tryz.func70, Tryz.ntmps70
    go_wp2_with fail
    refine K.mono ?_
    rintro e w1 ⟨rfl, hb1⟩
    go_wp2
    go_ret2
    exact ⟨hb1, Or.inl ⟨s, rfl, by rw [HQ.out]; rfl⟩⟩
  · have h1 : ((n : Int) != 1) = true := by simp; omega
    have HN := hide hn
    clear hn hR hws
    go_enter Tryz.func70, Tryz.ntmps70
    go_wp2
    go_ret2
    exact ⟨Below.refl _ _, Or.inr ⟨HN.out, rfl⟩⟩

set_option maxHeartbeats 4000000 in
set_option maxRecDepth 20000 in
theorem specialW_any (ao : Option Addr) (n cap : Nat) (ws : List ByteArray) (w : World) (hE : Env w) (hR : ReadsS w ao n ws) (hws : ∀ s ∈ ws, s.size ≤ 1000000) :
    Calls Tryz.prog 72 #[.slice ao n cap] w fun e w' => Below w.heap.size w w' ∧
      ((∃ s t, ws = [s, t] ∧ e = .returned (.tuple #[.agg #[.int .i64 (parseS s.data.toList maxId).1, .string (unhexS t).1], .bool ((parseS s.data.toList maxId).2 && (unhexS t).2)])) ∨ (n ≠ 2 ∧ e = .returned (.tuple #[.agg #[.int .i64 0, .string ⟨#[]⟩], .bool false]))) := by
  have hlo := low_alloc w (.cells #[.int .i64 0, .string ⟨#[]⟩] 43)
  have hblk : (w.alloc (.cells #[.int .i64 0, .string ⟨#[]⟩] 43)).heap[w.heap.size]? = some (.cells #[.int .i64 0, .string ⟨#[]⟩] 43 (0, 0)) := heap_alloc_new w _
  by_cases hn : n = 2
  · subst hn
    obtain ⟨s, t, rfl⟩ := two_words hR.1
    have hR0 := hR.kept hlo
    obtain ⟨b, off, rfl, hc⟩ := hR0.at (show 0 < 2 by omega)
    have hc0 : (w.alloc (.cells #[.int .i64 0, .string ⟨#[]⟩] 43)).cell? ⟨b, off, none⟩ = some (.string s) := hc 0 (by omega)
    have hc1 : (w.alloc (.cells #[.int .i64 0, .string ⟨#[]⟩] 43)).cell? ⟨b, off + 1, none⟩ = some (.string t) := hc 1 (by omega)
    have hE0 := hE.kept hlo
    have K := parse_any s maxId _ (hws s List.mem_cons_self) hE0.tens hE0.errs
    have HU := hide (fun W => unhex_any t W (hws t (List.mem_cons_of_mem _ List.mem_cons_self)))
    have hlt0 : w.heap.size < (w.alloc (.cells #[.int .i64 0, .string ⟨#[]⟩] 43)).heap.size := by simp
    obtain ⟨q, hq⟩ : ∃ q, parseS s.data.toList maxId = q := ⟨_, rfl⟩
    have HQ := hide hq
    rw [hq] at K
    unfold maxId at K
    obtain ⟨u, hu⟩ : ∃ u, unhexS t = u := ⟨_, rfl⟩
    have HUE := hide hu
    rw [hu] at HU
    have HBLK := hide hblk
    have HC1 := hide hc1
    clear hq hu hR hws hE hc hR0 hblk hE0 hc1
    obtain ⟨z, ok⟩ := q
    obtain ⟨us, uo⟩ := u
    go_enter Tryz.func72, Tryz.ntmps72
    go_wp2_with fail
    refine K.mono ?_
    rintro e w1 ⟨rfl, hb1⟩
    have d1 := (bcell hb1 (World.block_lt_of_cell? _ _ HC1.out)).trans HC1.out
    have hblk1 : w1.heap[w.heap.size]? = some (.cells #[.int .i64 0, .string ⟨#[]⟩] 43 (0, 0)) := by rw [hb1.block _ hlt0]; exact HBLK.out
    have hB1 := hlo.trans (hb1.mono hlo.size)
    have hlt1 := Nat.lt_of_lt_of_le hlt0 hb1.size
    clear K hb1 hc0 HC1 HBLK hlt0 hlo
    go_wp2_with fail
    refine (HU.out w1).mono ?_
    rintro e w2 ⟨rfl, hb2⟩
    have hblk2 : w2.heap[w.heap.size]? = some (.cells #[.int .i64 0, .string ⟨#[]⟩] 43 (0, 0)) := by rw [hb2.block _ hlt1]; exact hblk1
    have hB2 := hB1.trans (hb2.mono hB1.size)
    have e0 : w2.cell? ⟨w.heap.size, 0, none⟩ = some (.int .i64 0) := by rw [Lib.cell_of_heap hblk2]; rfl
    have e1 : w2.cell? ⟨w.heap.size, 1, none⟩ = some (.string ⟨#[]⟩) := by rw [Lib.cell_of_heap hblk2]; rfl
    have f0 : w2.frozen? ⟨w.heap.size, 0, none⟩ = false := Lib.frozen_of_heap hblk2 0
    have f1 : w2.frozen? ⟨w.heap.size, 1, none⟩ = false := Lib.frozen_of_heap hblk2 1
    have HB := hide (show Below w.heap.size w ((w2.setCell ⟨w.heap.size, 0, none⟩ (.int .i64 z)).setCell ⟨w.heap.size, 1, none⟩ (.string us)) from (hB2.setCell (p := ⟨w.heap.size, 0, none⟩) (Nat.le_refl _) _).setCell (p := ⟨w.heap.size, 1, none⟩) (Nat.le_refl _) _)
    have hblk4 := set_block (set_block hblk2 0 (.int .i64 z)) 1 (.string us)
    have g0 : ((w2.setCell ⟨w.heap.size, 0, none⟩ (.int .i64 z)).setCell ⟨w.heap.size, 1, none⟩ (.string us)).cell? ⟨w.heap.size, 0, none⟩ = some (.int .i64 z) := by rw [Lib.cell_of_heap hblk4]; rfl
    have g1 : ((w2.setCell ⟨w.heap.size, 0, none⟩ (.int .i64 z)).setCell ⟨w.heap.size, 1, none⟩ (.string us)).cell? ⟨w.heap.size, 1, none⟩ = some (.string us) := by rw [Lib.cell_of_heap hblk4]; rfl
    have HG := hide (And.intro g0 g1)
    clear d1 hblk1 hblk2 hblk4 hB1 hB2 hb2 hlt1 HU g0 g1
    cases ok with
    | false =>
      go_wp2
      obtain ⟨g0, g1⟩ := HG.out
      generalize (w2.setCell ⟨w.heap.size, 0, none⟩ (.int .i64 z)).setCell ⟨w.heap.size, 1, none⟩ (.string us) = w3 at *
      refine bodyPost_ret (v := .tuple #[.agg #[.int .i64 z, .string us], .bool false]) (by simp [results, Tryz.results72, go_sem, g0, g1]) rfl ?_
      exact ⟨HB.out, Or.inl ⟨s, t, rfl, by rw [HQ.out, HUE.out]; rfl⟩⟩
    | true =>
      go_wp2
      obtain ⟨g0, g1⟩ := HG.out
      generalize (w2.setCell ⟨w.heap.size, 0, none⟩ (.int .i64 z)).setCell ⟨w.heap.size, 1, none⟩ (.string us) = w3 at *
      refine bodyPost_ret (v := .tuple #[.agg #[.int .i64 z, .string us], .bool uo]) (by simp [results, Tryz.results72, go_sem, g0, g1]) rfl ?_
      exact ⟨HB.out, Or.inl ⟨s, t, rfl, by rw [HQ.out, HUE.out]; rfl⟩⟩
  · have h1 : ((n : Int) != 2) = true := by simp; omega
    have HN := hide hn
    clear hn hR hws
    go_enter Tryz.func72, Tryz.ntmps72
    go_wp2
    refine bodyPost_ret (v := .tuple #[.agg #[.int .i64 0, .string ⟨#[]⟩], .bool false]) (by simp [results, Tryz.results72, go_sem]) rfl ?_
    exact ⟨hlo, Or.inr ⟨HN.out, rfl⟩⟩
end Go.Proofs.YteiinkhdgppgbaaGreatDoor
