/- TokenMakes: each token's bytes are its parents', and each two have a token where they are parents. -/
import Derived.Test.YtblbbenfaafcoaaTkGr
import Derived.Test.YtblbbenfaafcoaaTkK
namespace Go.Proofs.Ytblbbenfaafcoaa
open Go.RowKit Go.Maps
set_option linter.unusedVariables false
set_option linter.unusedSimpArgs false
attribute [local go_sem ↓] Go.wp_at_zero Go.wp_at_succ

theorem RT.reads {vb vm : Value} {tx : List ByteArray} {mg : List (Int × Int)} {w : World} (h : RT vb vm tx mg w) {ao : Option Addr} {n cap : Nat} (hv : vm = .slice ao n cap) : ReadsM w ao mg.length mg := by
  refine ⟨rfl, ?_⟩
  by_cases h0 : mg.length = 0
  · exact Or.inl h0
  · right
    obtain ⟨g, c, hv2, hg, _⟩ := h.mer (i := 0) (by omega)
    rw [hv] at hv2
    simp only [Value.slice.injEq] at hv2
    obtain ⟨rfl, rfl, rfl⟩ := hv2
    refine ⟨g, 0, rfl, fun i hi => ?_⟩
    obtain ⟨g2, c2, hv3, hg2, e0, e1⟩ := h.mer hi
    rw [hv] at hv3
    simp only [Value.slice.injEq, Option.some.injEq, Addr.mk.injEq] at hv3
    obtain ⟨⟨rfl, _, _⟩, _, _⟩ := hv3
    rw [Nat.zero_add]
    exact ⟨e0, e1⟩

/-- New of merges that can be added one by one: a table. -/
theorem new_rch (ao : Option Addr) (cap : Nat) {tx : List ByteArray} {mg : List (Int × Int)} (w : World) (hM : ReadsM w ao mg.length mg) (hR : Rch tx mg) :
    Calls Try.prog 10 #[.slice ao mg.length cap] w fun e w' => (∃ p F v0 v1 b2 b3, e = .returned (.tuple #[.pointer (some ⟨p, 0, none⟩), .int .i64 mg.length, .int .i64 0]) ∧ TAt F p v0 v1 b2 b3 tx mg (lgs tx) w' ∧ (∀ k ∈ F, w.heap.size ≤ k)) ∧ Below w.heap.size w w' := by
  have hk := hR.tok
  refine (new_any ao mg.length cap mg w hM (by have := hk.len; have := hk.cap; omega)).mono ?_
  rintro e w' ⟨h, hb⟩
  refine ⟨?_, hb⟩
  rcases h with ⟨k, hk, _, hne, _⟩ | ⟨_, p, F, v0, v1, b2, b3, rfl, hT, hF⟩
  · exact absurd (hR.ok k hk) hne
  · rw [hR.st] at hT
    exact ⟨p, F, v0, v1, b2, b3, rfl, hT, hF⟩

theorem fld_one (a1 a2 : Option Addr) (n1 c1 n2 c2 : Nat) (w : World) : Sem.run Try.prog (Instr.field 30 (.agg #[.slice a1 n1 c1, .slice a2 n2 c2]) 1) w = .ok (.slice a2 n2 c2) w := by
  simp [Instr.field, run_underlying Try.underlying30, go_sem, part, asAgg]

set_option maxRecDepth 20000 in
set_option maxHeartbeats 8000000 in
theorem makes_walk (ao : Option Addr) (n cap : Nat) (U : List Int) (w : World) (hM : ReadsH w ao n U) (hn : n ≤ 9223372036854775807) :
    Calls Try.prog 5 #[.slice ao n cap] w fun e w' => e = .returned (.bool true) ∧ Below w.heap.size w w' := by
  go_enter Try.func5, Try.ntmps5
  by_cases hbig : 60 < n
  · have hb : (60 : Int) < (n : Int) := by omega
    go_wp2_with fail
    refine (awake_any _).mono ?_
    rintro e w1 ⟨rfl, hb1⟩
    go_wp2
    go_ret
    exact ⟨rfl, hb1⟩
  · have hb : ¬ (60 : Int) < (n : Int) := by omega
    go_wp2_with fail
    refine (awake_any _).mono ?_
    rintro e w1 ⟨rfl, hb1⟩
    have HG := hide (rgrow_any ao n cap U w1 (hM.kept hb1) (by omega))
    go_wp2_with fail
    refine (unhide HG).mono ?_
    rintro e w2 ⟨⟨tx, mg, vb, vm, rfl, hR, hT⟩, hb2⟩
    obtain ⟨a1, c1, hv1⟩ := row_form hT.rb
    obtain ⟨a2, c2, hv2⟩ := row_form hT.rm
    have HN := hide (new_rch a2 c2 w2 (hT.reads hv2) hR)
    have HB2 := hide (hb1.trans (hb2.mono hb1.size))
    have htok := hR.tok
    have HLEN := hide htok.len
    have hcap := htok.cap
    have hml : mg.length ≤ 744 := by have := htok.len; omega
    have hfd := fld_one a1 a2 tx.length c1 mg.length c2
    clear hT hR
    subst hv1 hv2
    go_wp2_with fail
    refine (unhide HN).mono ?_
    rintro e w3 ⟨⟨p, F, v0, v1, b2, b3, rfl, hT, hF⟩, hb3⟩
    have HB3 := hide (HB2.out.trans (hb3.mono HB2.out.size))
    have HL := hide (tlen_any hT)
    go_wp2_with fail
    refine (unhide HL).mono ?_
    rintro e w4 ⟨rfl, hw⟩
    have hw2 := hw.symm
    clear hw
    subst hw2
    have hsub : (tx.length : Int) - 256 = (mg.length : Int) := by have := HLEN.out; omega
    go_wp2
    go_loopw [6] (fun i wr => ∃ k : Nat, i = .int .i64 (256 + k) ∧ k ≤ mg.length ∧ Below w3.heap.size w3 wr) (fun i _ => 100000 - (intOf i).toNat)
    case atStart => exact ⟨0, rfl, by omega, ⟨rfl, rfl, rfl, Nat.le_refl _, fun _ _ => rfl⟩⟩
    case round =>
      obtain ⟨k, rfl, hk, hBr⟩ := hrel
      have hTr := hT.keptB hBr
      have HL2 := hide (tlen_any hTr)
      go_wp2_with fail
      refine (unhide HL2).mono ?_
      rintro e w5 ⟨rfl, hw⟩
      have hw5 := hw.symm
      clear hw
      subst hw5
      by_cases hlt : k < mg.length
      · have hp := htok.par k hlt
        obtain ⟨A, hA⟩ := Int.eq_ofNat_of_zero_le hp.1
        obtain ⟨B, hB⟩ := Int.eq_ofNat_of_zero_le hp.2.2.1
        have hpa := hp.2.1
        have hpb := hp.2.2.2
        have HP := hide (parents_any hTr k hlt HLEN.out (by omega))
        have HPR := hide (fun (W : World) (hW : TAt F p v0 v1 b2 b3 tx mg (lgs tx) W) => tpair_any hW k hlt htok.wf)
        have hmade := htok.made k hlt
        have hm : gm mg k = ((A : Int), (B : Int)) := Prod.ext hA hB
        rw [hm] at HP HPR hmade hpa hpb
        simp only [Int.toNat_natCast] at hmade hpa hpb
        clear hA hB hp hm
        have hlen := HLEN.out
        have hk1 : (256 : Int) + (k : Int) < (tx.length : Int) := by omega
        have hk0 : (0 : Int) ≤ (k : Int) := by omega
        have hAl : A < tx.length := by omega
        have hBl : B < tx.length := by omega
        have hsz := htok.sz (256 + k) (by omega)
        have h2l : 256 + k < tx.length := by omega
        clear hlen
        go_wp2_with fail
        refine (unhide HP).mono ?_
        rintro e w6 ⟨rfl, hb6⟩
        unfold merR
        have hlow : Below wr.heap.size wr (w6.alloc (.cells #[.int .i64 A, .int .i64 B] 39)) := hb6.trans ((low1 w6 _).mono hb6.size)
        have z := heap_alloc_new w6 (.cells #[.int .i64 A, .int .i64 B] 39)
        have hT6 := hTr.keptB hlow
        have HB6 := hide (hBr.trans (hlow.mono hBr.size))
        generalize hq : w6.heap.size = q at *
        have z0 : (w6.alloc (.cells #[.int .i64 A, .int .i64 B] 39)).cell? ⟨q, 0, none⟩ = some (.int .i64 A) := by simp [World.cell?, z]
        have z1 : (w6.alloc (.cells #[.int .i64 A, .int .i64 B] 39)).cell? ⟨q, 1, none⟩ = some (.int .i64 B) := by simp [World.cell?, z]
        have HBA := hide (tbytes_any hT6 A hAl)
        have HBB := hide (tbytes_any hT6 B hBl)
        have HBC := hide (tbytes_any hT6 (256 + k) h2l)
        have HPP := hide ((unhide HPR) _ hT6)
        have eC : ((256 + k : Nat) : Int) = 256 + (k : Int) := by omega
        rw [eC] at HBC
        generalize gs tx (256 + k) = s at *
        generalize gs tx A = sa at *
        generalize gs tx B = sb at *
        have HM := hide hmade
        clear hmade z hT6 hTr hb6 hlow eC HPR
        go_wp2_with fail
        clear hq
        generalize w6.alloc (.cells #[.int .i64 A, .int .i64 B] 39) = w7 at *
        refine (unhide HBA).mono ?_
        rintro e w' ⟨rfl, hw⟩
        have hw7 := hw.symm
        clear hw
        subst hw7
        go_wp2_with fail
        refine (unhide HBB).mono ?_
        rintro e w' ⟨rfl, hw⟩
        subst hw
        go_wp2_with fail
        refine (unhide HBC).mono ?_
        rintro e w' ⟨rfl, hw⟩
        subst hw
        go_wp2_with fail
        refine (unhide HPP).mono ?_
        rintro e w' ⟨rfl, hw⟩
        subst hw
        have hM := HM.out
        subst hM
        have hss : sa.size + sb.size ≤ 64 := by simpa using hsz
        go_wp2
        all_goals
          first
          | (exfalso; omega)
          | exact ⟨⟨k + 1, by go_num, by omega, HB6.out⟩, by simp [intOf]; omega⟩
      · obtain rfl : k = mg.length := by omega
        have hge : ¬ (256 : Int) + (mg.length : Int) < (tx.length : Int) := by have := HLEN.out; omega
        go_wp2
        go_ret
        exact ⟨rfl, HB3.out.trans (hBr.mono HB3.out.size)⟩

end Go.Proofs.Ytblbbenfaafcoaa
