/- The law's own 'same': a table's tokens are the document's. -/
import Derived.Test.YtblbbenfaafcoaaTkW
import Derived.Test.YtblbbenfaafcoaaTkX
import Derived.Test.YtblbbenfaafcoaaTkY
import Derived.Test.YtblbbenfaafcoaaTkK
import Derived.BigQuiet
namespace Go.Proofs.Ytblbbenfaafcoaa
open Go.RowKit Go.Maps
set_option linter.unusedVariables false
set_option linter.unusedSimpArgs false
attribute [local go_sem ↓] Go.wp_at_zero Go.wp_at_succ

theorem lgs_take (tx : List ByteArray) {k : Nat} (h : k < tx.length) : lgs (tx.take (k + 1)) = if lgs (tx.take k) ≤ ((gs tx k).size : Int) then ((gs tx k).size : Int) else lgs (tx.take k) := by
  rw [List.take_succ_eq_append_getElem h, lgs_snoc, gs_lt tx h]

section
variable {F : List Nat} {p b2 b3 : Nat} {v0 v1 vb vm : Value} {tx : List ByteArray} {mg : List (Int × Int)} {w : World}

set_option maxRecDepth 20000 in
set_option maxHeartbeats 8000000 in
theorem same_any (h : TAt F p v0 v1 b2 b3 tx mg (lgs tx) w) (hR : RT vb vm tx mg w) (hk : Tok tx mg) :
    Calls Try.prog 12 #[.pointer (some ⟨p, 0, none⟩), .agg #[vb, vm]] w fun e w' => e = .returned (.bool true) ∧ Below w.heap.size w w' := by
  obtain ⟨ao, cap, hv1⟩ := row_form hR.rb
  obtain ⟨am, capm, hv2⟩ := row_form hR.rm
  have hba : Below w.heap.size w (w.alloc (.cells #[vb, vm] 30)) := low1 _ _
  have hx : Box2 w.heap.size vb vm (w.alloc (.cells #[vb, vm] 30)) := heap_alloc_new w _
  have hT1 := h.keptB hba
  have hR1 := hR.kept hba
  generalize hW : w.alloc (.cells #[vb, vm] 30) = W at hba hx hT1 hR1
  subst hv1 hv2
  have hcap := hk.cap
  go_enter Try.func12, Try.ntmps12
  go_wp2
  clear hW h hR
  obtain ⟨x0, x1, xf⟩ := hx.cells
  go_loop [5, 6] (fun l i => ∃ k : Nat, i = .int .i64 k ∧ k ≤ tx.length ∧ l = .int .i64 (lgs (tx.take k))) (fun l i => tx.length - (intOf i).toNat)
  case atStart => exact ⟨0, rfl, by omega, rfl⟩
  case round =>
    obtain ⟨k, rfl, hkl, rfl⟩ := hrel
    by_cases hlt : k < tx.length
    · obtain ⟨g, cap', hv, hgl, hc⟩ := hR1.text hlt
      simp only [Value.slice.injEq] at hv
      obtain ⟨rfl, _, rfl⟩ := hv
      have hk0 : (0 : Int) ≤ (k : Int) := by omega
      have hk1 : (k : Int) < (tx.length : Int) := by omega
      have hsz := hk.sz k hlt
      have HB := hide (tbytes_any hT1 k hlt)
      have HF := hide (tfind_any hT1 k hlt (gs tx k) (by unfold maxLen; omega) rfl)
      have HLG := hide (lgs_take tx hlt)
      generalize gs tx k = s at *
      generalize lgs (tx.take k) = l0 at *
      go_wp2_with fail
      refine (unhide HB).mono ?_
      rintro e w' ⟨rfl, rfl⟩
      go_wp2_with fail
      refine (unhide HF).mono ?_
      rintro e w' ⟨rfl, hw⟩
      subst hw
      go_wp2
      refine ⟨⟨k + 1, by go_num, by omega, ?_⟩, by simp [intOf]; omega⟩
      rw [HLG.out]
      congr 1
      split <;> split <;> omega
    · obtain rfl : k = tx.length := by omega
      rw [List.take_length]
      have hlg := hk.lg0
      have HLEN := hide hk.len
      have hmz : mg.length ≤ 1000 := by have := hk.len; omega
      generalize hl0 : lgs tx = l0 at *
      clear hl0
      go_wp2_with fail
      refine (tmerges_any hT1 hmz).mono ?_
      rintro e w3 ⟨⟨rv, rfl, hr⟩, hb⟩
      obtain ⟨ar, cr, hv⟩ := row_form hr
      subst hv
      have hT3 := hT1.keptB hb
      have hR3 := hR1.kept hb
      have hx3 := hx.kept hb
      have hlow3 := hba.trans (hb.mono hba.size)
      clear x0 x1 xf
      obtain ⟨x0, x1, xf⟩ := hx3.cells
      have HTn := hide (fun n => hT3.keptB (w' := w3.drewN n) ⟨rfl, rfl, rfl, Nat.le_refl _, fun _ _ => rfl⟩)
      go_wp2
      go_quiet ((first | (go_at_call 24; exact Calls.quiet_of_same (tlen_any (HTn.out _))) | (go_at_call 25; exact Calls.quiet_of_same (tlongest_any (HTn.out _)))))
      go_wp2
      clear x0 x1 xf
      go_loopw [12] (fun i wr => ∃ k : Nat, i = .int .i64 k ∧ k ≤ mg.length ∧ Below w3.heap.size w3 wr) (fun i _ => mg.length - (intOf i).toNat)
      case atStart => exact ⟨0, rfl, by omega, ⟨rfl, rfl, rfl, Nat.le_refl _, fun _ _ => rfl⟩⟩
      case round =>
        obtain ⟨k, rfl, hk2, hB4⟩ := hrel
        by_cases hlt2 : k < mg.length
        · have hT4 := hT3.keptB hB4
          have HP := hide (parents_any hT4 k hlt2 HLEN.out hmz)
          have hk0 : (0 : Int) ≤ (k : Int) := by omega
          have hk1 : (k : Int) < (mg.length : Int) := by omega
          go_wp2_with fail
          refine (unhide HP).mono ?_
          rintro e w5 ⟨rfl, hb5⟩
          unfold merR
          have hB6 : Below w3.heap.size w3 (w5.alloc (.cells #[.int .i64 (gm mg k).1, .int .i64 (gm mg k).2] 39)) := (hB4.trans (hb5.mono hB4.size)).trans ((low1 w5 _).mono (hB4.trans (hb5.mono hB4.size)).size)
          have hx6 := hx3.kept hB6
          have hR6 := hR3.kept hB6
          have hr6 := row_keptB hr hB6
          have z := heap_alloc_new w5 (.cells #[.int .i64 (gm mg k).1, .int .i64 (gm mg k).2] 39)
          generalize hq : w5.heap.size = q at *
          go_wp2
          obtain ⟨g2, cp2, hv2, hg2, d0, d1⟩ := hR6.mer hlt2
          simp only [Value.slice.injEq] at hv2
          obtain ⟨rfl, _, rfl⟩ := hv2
          obtain ⟨g3, cp3, hv3, _, hg3⟩ := hr6.form (by omega)
          simp only [Value.slice.injEq] at hv3
          obtain ⟨rfl, _, rfl⟩ := hv3
          have hfg := fl2_get mg k hlt2
          have e0 := (hr6.cellAt (k * 2) (by omega)).trans hfg.1
          have e1 := (hr6.cellAt (k * 2 + 1) (by omega)).trans hfg.2
          obtain ⟨x0, x1, xf⟩ := hx6.cells
          have z0 : (w5.alloc (.cells #[.int .i64 (gm mg k).1, .int .i64 (gm mg k).2] 39)).cell? ⟨q, 0, none⟩ = some (.int .i64 (gm mg k).1) := by simp [World.cell?, z]
          have z1 : (w5.alloc (.cells #[.int .i64 (gm mg k).1, .int .i64 (gm mg k).2] 39)).cell? ⟨q, 1, none⟩ = some (.int .i64 (gm mg k).2) := by simp [World.cell?, z]
          have HB6 := hide hB6
          clear z hB6 hx6 hR6 hr6 hfg hT4 hb5 hB4
          generalize (gm mg k).1 = m1 at *
          generalize (gm mg k).2 = m2 at *
          generalize w5.alloc (.cells #[.int .i64 m1, .int .i64 m2] 39) = w6 at *
          go_quiet (fail)
          go_wp2
          exact ⟨⟨k + 1, by go_num, by omega, ⟨HB6.out.os, HB6.out.tape, HB6.out.output, HB6.out.size, HB6.out.block⟩⟩, by simp [intOf]; omega⟩
        · obtain rfl : k = mg.length := by omega
          go_wp2
          go_ret
          exact ⟨rfl, hlow3.trans (hB4.mono hlow3.size)⟩
end

end Go.Proofs.Ytblbbenfaafcoaa
