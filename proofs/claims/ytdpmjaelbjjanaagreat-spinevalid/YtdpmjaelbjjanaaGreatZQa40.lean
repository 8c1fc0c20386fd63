/- Contracts of the document's layer 8: Pieces. -/
import Derived.Test.YtdpmjaelbjjanaaGreatZQa34
import Derived.Laws.Concat
import Derived.BigRegion
import Derived.Deep.Onto
namespace Go.Proofs.YtdpmjaelbjjanaaGreat.Wf.Bq
open Go.RowKit
set_option linter.unusedVariables false
set_option linter.unusedSimpArgs false

section
variable {w : World} {q : Nat} {ao : Option Addr} {n c1 : Nat} {C : List (Int × Int × Int)} {bo : Option Addr} {m c2 : Nat} {J : List (Int × Int)} {W W' : World}
/-- The document's table in a box, and the pieces so far. -/
structure PrI (w : World) (q : Nat) (ao : Option Addr) (n c1 : Nat) (C : List (Int × Int × Int)) (bo : Option Addr) (m c2 : Nat) (J : List (Int × Int)) (v : Value) (N : Nat) (l : List (List UInt8)) (W : World) : Prop where
  b : RbI w q ao n c1 C bo m c2 J W
  row : W.ownsRow (q + 1) 9 1 v N (tv l)
  len : N = l.length
theorem PrI.next {v : Value} {N : Nat} {l : List (List UInt8)} (h : PrI w q ao n c1 C bo m c2 J v N l W) (hb : Below W.heap.size W W') : PrI w q ao n c1 C bo m c2 J v N l W' :=
  ⟨h.b.next hb, rowB h.row hb, h.len⟩
theorem PrI.drew {v : Value} {N : Nat} {l : List (List UInt8)} (h : PrI w q ao n c1 C bo m c2 J v N l W) : PrI w q ao n c1 C bo m c2 J v N l W.drew := h.next ⟨rfl, rfl, rfl, Nat.le_refl _, fun _ _ => rfl⟩
/-- What lies below the row's base is left. -/
theorem RbI.low (h : RbI w q ao n c1 C bo m c2 J W) (hq : w.heap.size ≤ q) (hC : RdC w ao n C) (hJ : RdJ w bo m J) (hb : Below (q + 1) W W') : RbI w q ao n c1 C bo m c2 J W' :=
  have hB : Below w.heap.size w W' := h.B.trans (hb.mono (by omega))
  ⟨hC.kept hB, hJ.kept hB, (hb.cell (by show q < q + 1; omega)).trans h.b0, (hb.cell (by show q < q + 1; omega)).trans h.b1, Nat.lt_of_lt_of_le h.lt hb.size, hB⟩
theorem pc_next {f : Int → Int → Bool} {s : List UInt8} {k : Nat} : ∃ u y, (if k = 0 ∨ qa f s k = true then pc f s k ++ [[]] else pc f s k) = u ++ [y] ∧ pc f s (k + 1) = u ++ [y ++ [s.getD k 0]] := by
  by_cases h : k = 0 ∨ qa f s k = true
  · rw [if_pos h, pc, if_pos h]
    exact ⟨_, [], rfl, by simp⟩
  · rw [if_neg h, pc, if_neg h]
    have h0 := pc_ne (q := f) s k (by rcases Nat.eq_zero_or_pos k with e | e; · { exact absurd (Or.inl e) h }; · { exact e })
    obtain ⟨u, y, e⟩ : ∃ u y, pc f s k = u ++ [y] := ⟨_, _, (List.dropLast_concat_getLast h0).symm⟩
    exact ⟨u, y, e, by rw [e]; simp⟩
theorem ba_app (y : List UInt8) (E : ByteArray) : ((⟨y.toArray⟩ ++ E : ByteArray)).data.toList = y ++ E.data.toList := by simp
/-- The last one gets a byte more. -/
theorem PrI.put {g ng cg : Nat} {u : List (List UInt8)} {y : List UInt8} {s : ByteArray} {k : Nat} (h : PrI w q ao n c1 C bo m c2 J (.slice (some ⟨g, 0, none⟩) (ng + 1) cg) (ng + 1) (u ++ [y]) W) (hq : w.heap.size ≤ q) (hC : RdC w ao n C) (hJ : RdJ w bo m J) (hk : k < s.size) :
    W.cell? ⟨g, ng, none⟩ = some (.string ⟨y.toArray⟩) ∧ W.frozen? ⟨g, ng, none⟩ = false ∧ PrI w q ao n c1 C bo m c2 J (.slice (some ⟨g, 0, none⟩) (ng + 1) cg) (ng + 1) (u ++ [y ++ [s.data.toList.getD k 0]]) (W.setCell ⟨g, ng, none⟩ (.string (⟨y.toArray⟩ ++ s.extract k (k + 1)))) := by
  have hux : u.length = ng := by have := h.len; rw [List.length_append] at this; simp at this; omega
  have hcz : (tv (u ++ [y]))[ng]? = some (.string ⟨y.toArray⟩) := by simp [tv, ← hux]
  have hgb := (h.row.lt g rfl).1
  obtain ⟨hst, hgr⟩ := h.row.stored ng (.string (⟨y.toArray⟩ ++ s.extract k (k + 1)))
  have hset : (tv (u ++ [y])).set ng (.string (⟨y.toArray⟩ ++ s.extract k (k + 1))) = tv (u ++ [y ++ [s.data.toList.getD k 0]]) := by
    have e1 : (⟨y.toArray⟩ ++ s.extract k (k + 1) : ByteArray) = ⟨(y ++ [s.data.toList.getD k 0]).toArray⟩ := by
      apply ByteArray.ext
      apply Array.ext'
      have h1 := Go.Lib.extract_data s k (k + 1)
      have h2 : ((s.data.toList.drop k).take (k + 1 - k)) = [s.data.toList.getD k 0] := by
        have hkl : k < s.data.toList.length := by simpa using hk
        rw [show k + 1 - k = 1 by omega, List.drop_eq_getElem_cons hkl, List.getD_eq_getElem?_getD, List.getElem?_eq_getElem hkl]
        rfl
      rw [h2] at h1
      rw [ba_app, h1]
    rw [e1]
    simp [tv, ← hux]
  rw [hset] at hst
  have hb : Below (q + 1) W (W.setCell ⟨g, ng, none⟩ (.string (⟨y.toArray⟩ ++ s.extract k (k + 1)))) := (Below.refl _ _).setCell hgb _
  exact ⟨(h.row.cellAt ng (by omega)).trans hcz, h.row.frozenAt ng, h.b.low hq hC hJ hb, hst, by have := h.len; simp at this ⊢; omega⟩

set_option maxRecDepth 20000 in
set_option maxHeartbeats 8000000 in
theorem rpieces_any (hC : RdC w ao n C) (hJ : RdJ w bo m J) (hn : n ≤ 1000000) (hm : m ≤ 1000000) (s : ByteArray) (hs : s.size ≤ 100000) :
    Calls Tryz.prog 87 #[.agg #[.slice ao n c1, .slice bo m c2], .string s] w fun e w' => (∃ o N k, e = .returned (.slice o N k) ∧ N = (pcs (cutP C J) s.data.toList).length ∧ w'.ownsRow w.heap.size 9 1 (.slice o N k) N (tv (pcs (cutP C J) s.data.toList))) ∧ Below w.heap.size w w' := by
  have HI := hide (RbI.new hC hJ c1 c2)
  have HC := hide hC
  have HJ := hide hJ
  have hsl : s.data.toList.length = s.size := by simp
  have HSL := hide hsl
  clear hC hJ hsl
  go_enter Tryz.func87, Tryz.ntmps87
  go_wp2
  generalize w.alloc (.cells #[.slice ao n c1, .slice bo m c2] 36) = w0 at *
  go_loopw [5, 6] (fun v i wr => ∃ (k N : Nat) (o : Option Addr) (cap : Nat), v = .slice o N cap ∧ i = .int .i64 k ∧ k ≤ s.size ∧ Hid (PrI w w.heap.size ao n c1 C bo m c2 J (.slice o N cap) N (pc (cutP C J) s.data.toList k) wr)) (fun _ i _ => s.size - (intOf i).toNat)
  case atStart => exact ⟨0, 0, none, 0, rfl, rfl, Nat.zero_le _, hide ⟨HI.out, World.ownsRow_nil _ _ _ _, rfl⟩⟩
  case round =>
    obtain ⟨k, N, o, cap, rfl, rfl, hk, HP⟩ := hrel
    by_cases hlt : k < s.size
    · have hk0 : (0 : Int) ≤ (k : Int) := by omega
      have hk1 : (k : Int) < (s.size : Int) := by omega
      obtain ⟨u, y, hl2, hpc⟩ := pc_next (f := cutP C J) (s := s.data.toList) (k := k)
      have HPC := hide hpc
      have hNl : N ≤ k := by rw [HP.out.len, pc_len]; exact cnt_le _ _
      have HYL : Hid (y.length ≤ s.size) := hide (by
        have h1 := pc_flat (q := cutP C J) s.data.toList (k + 1) (by rw [HSL.out]; omega)
        rw [hpc] at h1
        have h2 := congrArg List.length h1
        simp at h2
        omega)
      have e0 : ∀ p : Wd (PrI w w.heap.size ao n c1 C bo m c2 J (.slice o N cap) N (pc (cutP C J) s.data.toList k)), p.W.cell? ⟨w.heap.size, 0, none⟩ = some (.slice ao n c1) := fun p => p.h.b.b0
      have e1 : ∀ p : Wd (PrI w w.heap.size ao n c1 C bo m c2 J (.slice o N cap) N (pc (cutP C J) s.data.toList k)), p.W.cell? ⟨w.heap.size, 1, none⟩ = some (.slice bo m c2) := fun p => p.h.b.b1
      have ne : Nonempty (Wd (PrI w w.heap.size ao n c1 C bo m c2 J (.slice o N cap) N (pc (cutP C J) s.data.toList k))) := ⟨⟨_, HP.out.drew⟩⟩
      rcases Nat.eq_zero_or_pos k with hz | hz
      · have hkd : ((k : Int) == 0) = true := by simp; omega
        rw [if_pos (Or.inl hz)] at hl2
        have HL2 := hide hl2
        clear hl2 hpc hz
        go_wp2
        refine region_class (α := Wd (PrI w w.heap.size ao n c1 C bo m c2 J (.slice o N cap) N (pc (cutP C J) s.data.toList k))) Wd.W (by kernel_rfl) (by kernel_rfl) ⟨_, HP.out.drew⟩ rfl ?_
        repeat (go_big_quiet_step (fail))
        refine wpQuiet_nil ?_
        intro wq hw'
        obtain ⟨⟨W, hW⟩, rfl⟩ := hw'
        have HW := hide hW
        clear hW e0 e1 ne HP
        have hlq : w.heap.size + 1 ≤ wq.heap.size := HW.out.b.lt
        obtain ⟨gg, cap1, w2, hrun, hown, hb2⟩ := app_text wq (w.heap.size + 1) o N cap (pc (cutP C J) s.data.toList k) ⟨#[]⟩ HW.out.row (by omega) hlq
        have HRUN := hide hrun
        have HP2 : Hid (PrI w w.heap.size ao n c1 C bo m c2 J (.slice (some ⟨gg, 0, none⟩) (N + 1) cap1) (N + 1) (pc (cutP C J) s.data.toList k ++ [[]]) w2) := hide ⟨HW.out.b.low (Nat.le_refl _) HC.out HJ.out hb2, hown, by rw [List.length_append, ← HW.out.len]; rfl⟩
        clear hrun hown hb2 hlq HW
        go_wp2_with (at_builtin; refine Lib.wpList_append_run _ rfl _ _ _ _ rfl _ _ rfl rfl _ _ HRUN.out ?_)
        clear HRUN
        have hNb : N + 1 ≤ 200000 := by omega
        generalize hN2 : N + 1 = N2 at *
        clear hN2
        have hne := HP2.out.len
        obtain ⟨ng, hng⟩ : ∃ ng, ng + 1 = N2 := ⟨N2 - 1, by rw [hne, HL2.out]; simp⟩
        subst hng
        rw [HL2.out] at HP2
        obtain ⟨cz, fz, hput⟩ := HP2.out.put (s := s) (k := k) (Nat.le_refl _) HC.out HJ.out hlt
        have HF := hide hput.drew
        rw [← HPC.out] at HF
        have hyl : y.length ≤ s.size := HYL.out
        have hsum : ¬ 9223372036854775807 < (⟨y.toArray⟩ : ByteArray).size + (s.extract k (k + 1)).size := by
          have h1 : (⟨y.toArray⟩ : ByteArray).size = y.length := by show y.toArray.size = _; simp
          have h2 : (s.extract k (k + 1)).size ≤ s.size := by simp; omega
          omega
        have hwr : IntKind.i64.wrap (((ng + 1 : Nat) : Int) - 1) = (ng : Int) := by rw [IntKind.wrap_i64]; omega
        have hwr2 : IntKind.i64.wrap ((ng : Int) + 1 - 1) = (ng : Int) := by rw [IntKind.wrap_i64]; omega
        have hwr3 : IntKind.i64.wrap (ng : Int) = (ng : Int) := by rw [IntKind.wrap_i64]; omega
        have hwk : IntKind.i64.wrap ((k : Int) + 1) = ((k + 1 : Nat) : Int) := by rw [IntKind.wrap_i64]; omega
        have hk1' : (k : Int) ≤ ((k + 1 : Nat) : Int) := by omega
        have hk2' : ((k + 1 : Nat) : Int) ≤ (s.size : Int) := by omega
        have hg0 : (0 : Int) ≤ (ng : Int) := by omega
        clear hput hne
        generalize (⟨y.toArray⟩ : ByteArray) = Y at *
        go_wp2
        go_region
        go_wp2
        go_roundw
        case rel => exact ⟨k + 1, ng + 1, _, cap1, rfl, by go_num, by omega, HF⟩
        case measure => simp [intOf]; omega
      · obtain ⟨kp, hkp⟩ : ∃ kp, kp + 1 = k := ⟨k - 1, by omega⟩
        have hks : kp < s.size := by omega
        have hkd : ((k : Int) == 0) = false := by simp; omega
        have hkp0 : (0 : Int) ≤ (kp : Int) := by omega
        have hkp1 : (kp : Int) < (s.size : Int) := by omega
        have hwp : IntKind.i64.wrap ((k : Int) - 1) = (kp : Int) := by rw [IntKind.wrap_i64]; omega
        have HQ : Hid (cutP C J (s[kp].toNat : Int) (s[k].toNat : Int) = qa (cutP C J) s.data.toList k) := hide (qa_at (cutP C J) s kp k hkp hlt)
        have HK := hide (fun (p : (Wd (PrI w w.heap.size ao n c1 C bo m c2 J (.slice o N cap) N (pc (cutP C J) s.data.toList k)))) => Calls.toW (fun _ _ h hb => h.next hb) p (rcuts_any (c1 := c1) (c2 := c2) p.h.b.c p.h.b.j hn hm (s[kp].toNat : Int) (s[k].toNat : Int) (by have := s[kp].toNat_lt; omega) (by have := s[k].toNat_lt; omega)))
        rw [HQ.out] at HK
        have HZ : Hid (¬ k = 0) := hide (by omega)
        clear HQ hz
        replace hkp := True.intro
        by_cases hq : qa (cutP C J) s.data.toList k = true
        · rw [if_pos (Or.inr hq)] at hl2
          have HL2 := hide hl2
          rw [hq] at HK
          clear hl2 hpc hq
          go_wp2
          refine region_class (α := (Wd (PrI w w.heap.size ao n c1 C bo m c2 J (.slice o N cap) N (pc (cutP C J) s.data.toList k)))) Wd.W (by kernel_rfl) (by kernel_rfl) ⟨_, HP.out.drew⟩ rfl ?_
          repeat (go_big_quiet_step ((go_at_call 15; exact HK.out _)))
          refine wpQuiet_nil ?_
          intro wq hw'
          obtain ⟨⟨W, hW⟩, rfl⟩ := hw'
          have HW := hide hW
          clear hW e0 e1 ne HP HK
          have hlq : w.heap.size + 1 ≤ wq.heap.size := HW.out.b.lt
          obtain ⟨gg, cap1, w2, hrun, hown, hb2⟩ := app_text wq (w.heap.size + 1) o N cap (pc (cutP C J) s.data.toList k) ⟨#[]⟩ HW.out.row (by omega) hlq
          have HRUN := hide hrun
          have HP2 : Hid (PrI w w.heap.size ao n c1 C bo m c2 J (.slice (some ⟨gg, 0, none⟩) (N + 1) cap1) (N + 1) (pc (cutP C J) s.data.toList k ++ [[]]) w2) := hide ⟨HW.out.b.low (Nat.le_refl _) HC.out HJ.out hb2, hown, by rw [List.length_append, ← HW.out.len]; rfl⟩
          clear hrun hown hb2 hlq HW
          go_wp2_with (at_builtin; refine Lib.wpList_append_run _ rfl _ _ _ _ rfl _ _ rfl rfl _ _ HRUN.out ?_)
          clear HRUN
          have hNb : N + 1 ≤ 200000 := by omega
          generalize hN2 : N + 1 = N2 at *
          clear hN2
          have hne := HP2.out.len
          obtain ⟨ng, hng⟩ : ∃ ng, ng + 1 = N2 := ⟨N2 - 1, by rw [hne, HL2.out]; simp⟩
          subst hng
          rw [HL2.out] at HP2
          obtain ⟨cz, fz, hput⟩ := HP2.out.put (s := s) (k := k) (Nat.le_refl _) HC.out HJ.out hlt
          have HF := hide hput.drew
          rw [← HPC.out] at HF
          have hyl : y.length ≤ s.size := HYL.out
          have hsum : ¬ 9223372036854775807 < (⟨y.toArray⟩ : ByteArray).size + (s.extract k (k + 1)).size := by
            have h1 : (⟨y.toArray⟩ : ByteArray).size = y.length := by show y.toArray.size = _; simp
            have h2 : (s.extract k (k + 1)).size ≤ s.size := by simp; omega
            omega
          have hwr : IntKind.i64.wrap (((ng + 1 : Nat) : Int) - 1) = (ng : Int) := by rw [IntKind.wrap_i64]; omega
          have hwr2 : IntKind.i64.wrap ((ng : Int) + 1 - 1) = (ng : Int) := by rw [IntKind.wrap_i64]; omega
          have hwr3 : IntKind.i64.wrap (ng : Int) = (ng : Int) := by rw [IntKind.wrap_i64]; omega
          have hwk : IntKind.i64.wrap ((k : Int) + 1) = ((k + 1 : Nat) : Int) := by rw [IntKind.wrap_i64]; omega
          have hk1' : (k : Int) ≤ ((k + 1 : Nat) : Int) := by omega
          have hk2' : ((k + 1 : Nat) : Int) ≤ (s.size : Int) := by omega
          have hg0 : (0 : Int) ≤ (ng : Int) := by omega
          clear hput hne
          generalize (⟨y.toArray⟩ : ByteArray) = Y at *
          go_wp2
          go_region
          go_wp2
          go_roundw
          case rel => exact ⟨k + 1, ng + 1, _, cap1, rfl, by go_num, by omega, HF⟩
          case measure => simp [intOf]; omega
        · rw [if_neg (fun e => by rcases e with e | e; · { exact HZ.out e }; · { exact hq e })] at hl2
          have HL2 := hide hl2
          rw [show qa (cutP C J) s.data.toList k = false by simpa using hq] at HK
          clear hl2 hpc hq
          go_wp2
          refine region_class (α := (Wd (PrI w w.heap.size ao n c1 C bo m c2 J (.slice o N cap) N (pc (cutP C J) s.data.toList k)))) Wd.W (by kernel_rfl) (by kernel_rfl) ⟨_, HP.out.drew⟩ rfl ?_
          repeat (go_big_quiet_step ((go_at_call 15; exact HK.out _)))
          refine wpQuiet_nil ?_
          intro wq hw'
          obtain ⟨⟨W, hW⟩, rfl⟩ := hw'
          have HP2 := hide hW
          clear hW e0 e1 ne HP HK
          have hNb : N ≤ 200000 := by omega
          generalize hN2 : N = N2 at *
          clear hN2
          have hne := HP2.out.len
          obtain ⟨ng, hng⟩ : ∃ ng, ng + 1 = N2 := ⟨N2 - 1, by rw [hne, HL2.out]; simp⟩
          subst hng
          rw [HL2.out] at HP2
          obtain ⟨g, cg, hvg, hgb, hgl⟩ := HP2.out.row.form (by omega)
          simp only [Value.slice.injEq] at hvg
          obtain ⟨hv1, -, hv3⟩ := hvg
          subst hv1 hv3
          obtain ⟨cz, fz, hput⟩ := HP2.out.put (s := s) (k := k) (Nat.le_refl _) HC.out HJ.out hlt
          have HF := hide hput.drew
          rw [← HPC.out] at HF
          have hyl : y.length ≤ s.size := HYL.out
          have hsum : ¬ 9223372036854775807 < (⟨y.toArray⟩ : ByteArray).size + (s.extract k (k + 1)).size := by
            have h1 : (⟨y.toArray⟩ : ByteArray).size = y.length := by show y.toArray.size = _; simp
            have h2 : (s.extract k (k + 1)).size ≤ s.size := by simp; omega
            omega
          have hwr : IntKind.i64.wrap (((ng + 1 : Nat) : Int) - 1) = (ng : Int) := by rw [IntKind.wrap_i64]; omega
          have hwr2 : IntKind.i64.wrap ((ng : Int) + 1 - 1) = (ng : Int) := by rw [IntKind.wrap_i64]; omega
          have hwr3 : IntKind.i64.wrap (ng : Int) = (ng : Int) := by rw [IntKind.wrap_i64]; omega
          have hwk : IntKind.i64.wrap ((k : Int) + 1) = ((k + 1 : Nat) : Int) := by rw [IntKind.wrap_i64]; omega
          have hk1' : (k : Int) ≤ ((k + 1 : Nat) : Int) := by omega
          have hk2' : ((k + 1 : Nat) : Int) ≤ (s.size : Int) := by omega
          have hg0 : (0 : Int) ≤ (ng : Int) := by omega
          clear hput hne hgb hgl
          generalize (⟨y.toArray⟩ : ByteArray) = Y at *
          go_wp2
          go_region
          go_wp2
          go_roundw
          case rel => exact ⟨k + 1, ng + 1, _, cap, rfl, by go_num, by omega, HF⟩
          case measure => simp [intOf]; omega
    · have hkn : k = s.data.toList.length := by rw [HSL.out]; omega
      have hk1 : ¬ (k : Int) < (s.size : Int) := by omega
      have HF : Hid (PrI w w.heap.size ao n c1 C bo m c2 J (.slice o N cap) N (pcs (cutP C J) s.data.toList) wr) := hide (by have := HP.out; rw [hkn] at this; exact this)
      clear hkn
      go_wp2
      go_ret
      exact ⟨⟨o, N, cap, rfl, HF.out.len, World.ownsRow.mono HF.out.row (by omega)⟩, HF.out.b.B⟩
end

end Go.Proofs.YtdpmjaelbjjanaaGreat.Wf.Bq
