/- Contract: the writer's spec. -/
import Derived.Test.YteiinkhdgppgbaaGreatDoorSpY
namespace Go.Proofs.YteiinkhdgppgbaaGreatDoor
open Go.RowKit
set_option linter.unusedVariables false
set_option linter.unusedSimpArgs false

theorem mem_getD {α : Type} {p : α → Prop} {l : List α} (h : ∀ x ∈ l, p x) (d : α) {k : Nat} (hk : k < l.length) : p (l.getD k d) := by
  rw [List.getD_eq_getElem?_getD, List.getElem?_eq_getElem hk]
  exact h _ (List.getElem_mem hk)
theorem lineL_size (f : ByteArray) (s : ByteArray) (ss : List ByteArray) (M : Nat) (h : (lineL f ss).length ≤ M) (hs : s ∈ ss) : s.size ≤ M := by
  have h1 : s.data.toList.length ≤ (ss.flatMap (fun s => 32 :: s.data.toList)).length := by
    induction ss with
    | nil => cases hs
    | cons a r ih =>
      rw [List.flatMap_cons, List.length_append, List.length_cons]
      rcases List.mem_cons.1 hs with rfl | hs
      · omega
      · have := ih (by unfold lineL at h ⊢; rw [List.flatMap_cons, List.length_append, List.length_append] at h; rw [List.length_append]; omega) hs
        omega
  unfold lineL at h
  rw [List.length_append] at h
  have h2 : s.data.toList.length = s.size := by rw [Array.length_toList]; rfl
  omega

/-- A special token in a box, beside the writer's state. -/
structure ElI (w0 : World) (b q : Nat) (x : Sv) (l : List UInt8) (e : Nat) (m : Int × ByteArray) (W : World) : Prop where
  wr : WrI w0 b q x l W
  el : W.heap[e]? = some (.cells #[.int .i64 m.1, .string m.2] 43 (0, 0))
theorem ElI.low {w0 : World} {b q : Nat} {x : Sv} {l : List UInt8} {e : Nat} {m : Int × ByteArray} {W W' : World} (h : ElI w0 b q x l e m W) (hb : Below W.heap.size W W') : ElI w0 b q x l e m W' :=
  ⟨h.wr.low hb, by rw [hb.block e (Array.getElem?_eq_some_iff.1 h.el).1]; exact h.el⟩
theorem ElI.cells {w0 : World} {b q : Nat} {x : Sv} {l : List UInt8} {e : Nat} {m : Int × ByteArray} {W : World} (h : ElI w0 b q x l e m W) : W.cell? ⟨e, 0, none⟩ = some (.int .i64 m.1) ∧ W.cell? ⟨e, 1, none⟩ = some (.string m.2) := by
  refine ⟨?_, ?_⟩ <;> (rw [Lib.cell_of_heap h.el]; rfl)

set_option maxHeartbeats 16000000 in
set_option maxRecDepth 20000 in
theorem wspec_any (w0 : World) (hE : Env w0) (b : Nat) (x : Sv) (s : Sp) (hS : SpAt w0 x s) (hR : s.Right) (w : World) (hbel : Below w0.heap.size w0 w) (hbl : b < w.heap.size) (hB : Lib.IsBuilder TW 5 w0.heap.size b [] w) :
    Calls Tryz.prog 16 #[.pointer (some ⟨b, 0, none⟩), .agg x.cs] w fun e w' => e = .returned (.tuple #[]) ∧ ∃ q, WrI w0 b q x s.text w' := by
  have hlo := low_alloc w (.cells x.cs 28)
  have HI0 : Hid (WrI w0 b w.heap.size x [] (w.alloc (.cells x.cs 28))) := hide ⟨hbel.trans (hlo.mono hbel.size), isBuilder_low hB hlo, heap_alloc_new w _⟩
  have hq : w.heap.size ≠ b := by omega
  have HE := hide hE
  have HS := hide hS
  have HR := hide hR
  have hn1 : x.n1 ≤ 1000 := by have h1 := hR.nm; have h2 := hS.ms.1; unfold roomM at h1; split at h1 <;> omega
  have hn2 : x.n2 ≤ 1000 := by have h1 := hR.nt; have h2 := hS.ts.1; unfold roomT at h1; split at h1 <;> omega
  have hn3 : x.n3 ≤ 1000 := by have h1 := hR.ns; have h2 := hS.ss.1; omega
  have hn4 : x.n4 ≤ 1000 := by have h1 := hR.nc; have h2 := hS.cs.1; omega
  have hn5 : x.n5 ≤ 1000 := by have h1 := hR.nj; have h2 := hS.js.1; omega
  have K0 := whead_any w0 hE b w.heap.size hq x x.r _ HI0.out
  have hxr : x.r = s.ranked := hS.r
  obtain ⟨y0, y1, y2, y3, y4, y5⟩ := HI0.out.cells
  have HTX := hide (show s.text = ((((txt [lV s.ranked] ++ txt (s.merges.map lM)) ++ txt (s.tokens.map lT)) ++ txt (s.specials.map lS)) ++ txt (s.classes.map lC)) ++ txt (s.joins.map lJ) by
    unfold Sp.text Sp.lines Sp.body
    rw [show lV s.ranked :: (s.merges.map lM ++ (s.tokens.map lT ++ (s.specials.map lS ++ (s.classes.map lC ++ s.joins.map lJ)))) = [lV s.ranked] ++ (s.merges.map lM ++ (s.tokens.map lT ++ (s.specials.map lS ++ (s.classes.map lC ++ s.joins.map lJ)))) from rfl]
    simp only [txt_append, List.append_assoc])
  have HP0 := hide (show (txt [lV s.ranked]).length ≤ 100000 by have := txt_len [lV s.ranked] (by intro l hl; rw [List.mem_singleton] at hl; subst hl; exact lV_len _); simp only [List.length_singleton] at this; omega)
  have HXR := hide hxr
  clear hE hS hR hbel hB hlo hbl hxr
  go_enter Tryz.func16, Tryz.ntmps16
  go_wp2_with fail
  refine K0.mono ?_
  clear K0 y0 y1 y2 y3 y4 y5 HI0
  rintro e w1 ⟨rfl, hI1⟩
  rw [HXR.out] at hI1
  have HI := hide hI1
  clear hI1
  obtain ⟨y0, y1, y2, y3, y4, y5⟩ := HI.out.cells
  obtain ⟨q, hqe⟩ : ∃ q, q = w.heap.size := ⟨_, rfl⟩
  rw [← hqe] at hq y0 y1 y2 y3 y4 y5 HI ⊢
  clear hqe
  obtain ⟨P1, hP1⟩ : ∃ P, P = txt [lV s.ranked] := ⟨_, rfl⟩
  rw [← hP1] at HI HP0
  have HPE1 := hide hP1
  clear hP1
  go_wp2
  go_loopw [21] (fun i wr => ∃ (k : Nat), i = .int .i64 k ∧ k ≤ x.n1 ∧ Hid (WrI w0 b q x (P1 ++ txt ((s.merges.take k).map lM)) wr)) (fun i _ => x.n1 - (intOf i).toNat)
  case atStart => exact ⟨0, rfl, Nat.zero_le _, hide (by simpa [txt] using HI.out)⟩
  case round =>
    clear HI y0 y1 y2 y3 y4 y5
    obtain ⟨k, rfl, hk, HI⟩ := hrel
    have HLB := hide (txt_bound P1 lM s.merges k 100000 (fun y hy => lM_len (HR.out.am y hy)) (by have := HP0.out; omega) (by rw [HS.out.ms.1]; omega))
    by_cases hlt : k < x.n1
    · have hk0 : (0 : Int) ≤ (k : Int) := by omega
      have hk1 : (k : Int) < (x.n1 : Int) := by omega
      have hkl : k < s.merges.length := by rw [HS.out.ms.1]; exact hlt
      have hmok := mem_getD HR.out.am (0, 0) hkl
      have HNX := hide (txt_next P1 lM s.merges (0, 0) k hkl)
      rcases (HS.out.kept HI.out.bel).ms.2 with h0 | ⟨bb, off, hao, hbb, hc⟩
      · omega
      have hck := hc k hlt
      clear hc hkl
      change wr.cell? ⟨bb, off + k * 2, none⟩ = some (.int .i64 (s.merges.getD k (0, 0)).1) ∧ wr.cell? ⟨bb, off + k * 2 + 1, none⟩ = some (.int .i64 (s.merges.getD k (0, 0)).2) at hck
      generalize s.merges.getD k (0, 0) = m at hck hmok HNX
      generalize P1 ++ txt ((s.merges.take k).map lM) = l at HI HLB HNX
      obtain ⟨l', hl'⟩ : ∃ l', P1 ++ txt ((s.merges.take (k + 1)).map lM) = l' := ⟨_, rfl⟩
      rw [hl'] at HNX
      have HLQ := hide hl'
      clear hl'
      obtain ⟨k0, k1⟩ := hck
      have hmb := of_decide_eq_true hmok
      have hml := lM_len hmok
      rw [hao]
      have HMB := hide hmb
      have hlo := low_alloc wr (.cells #[.int .i64 m.1, .int .i64 m.2] 55)
      have hlo2 := low_alloc (wr.alloc (.cells #[.int .i64 m.1, .int .i64 m.2] 55)) (.cells #[.int .i64 m.1, .int .i64 m.2] 3)
      have HJ := hide ((HI.out.low hlo).low hlo2)
      have KN := numbers_any _ 2 2 [m.1, m.2] _ (reads2 (wr.alloc (.cells #[.int .i64 m.1, .int .i64 m.2] 55)) m.1 m.2 3) (by intro z hz; simp only [List.mem_cons, List.not_mem_nil, or_false] at hz; rcases hz with rfl | rfl <;> omega) (by omega) (HE.out.kept HJ.out.bel).tens
      rw [show (⟨(wr.alloc (.cells #[.int .i64 m.1, .int .i64 m.2] 55)).heap.size, 0, none⟩ : Addr) = ⟨wr.heap.size + 1, 0, none⟩ by rw [alloc_size]] at KN
      have HLE := hide (lineM m)
      have HNS := hide (lineL_size (nameB 1) (numsS [m.1, m.2]) [numsS [m.1, m.2]] 199 (by rw [HLE.out]; exact hml) List.mem_cons_self)
      generalize numsS [m.1, m.2] = ns at KN HLE HNS
      clear hlo hlo2 HI hmb hml hmok
      go_wp2_with fail
      refine KN.mono ?_
      rintro e w3 ⟨rfl, hb3⟩
      have HJ3 := hide (HJ.out.low hb3)
      clear hb3 KN HJ
      have HJ4 := hide (HJ3.out.low (low_alloc w3 (.cells #[.string ns] 9)))
      have KL := wline_any w0 HE.out b 1 l _ 1 1 [ns] _ HJ4.out.bel HJ4.out.bld (reads_text w3 ns 9) (by omega) (by omega) (by intro z hz; rw [List.mem_singleton] at hz; subst hz; have := HNS.out; omega) (by have := HLB.out; omega)
      rw [HLE.out, HNX.out] at KL
      go_wp2_with fail
      refine KL.mono ?_
      rintro e w4 ⟨rfl, hB4, hf4⟩
      have HJ5 := hide (HJ4.out.told hq hB4 hf4)
      clear hB4 hf4 KL HJ4 HJ3
      go_wp2
      first
        | exact ⟨⟨k + 1, by go_num, by omega, hide (by rw [HLQ.out]; exact HJ5.out)⟩, by simp [intOf]; omega⟩
        | (go_roundw
           case rel => exact ⟨k + 1, by go_num, by omega, hide (by rw [HLQ.out]; exact HJ5.out)⟩
           case measure => simp [intOf]; omega)
    · have hkn : k = x.n1 := by omega
      subst hkn
      have hT : P1 ++ txt ((s.merges.take x.n1).map lM) = P1 ++ txt (s.merges.map lM) := txt_all _ _ _ HS.out.ms.1
      rw [hT] at HI HLB
      have HP1 := HLB
      clear hlt hk hT HLB
      obtain ⟨y0, y1, y2, y3, y4, y5⟩ := HI.out.cells
      obtain ⟨P2, hP2⟩ : ∃ P, P = P1 ++ txt (s.merges.map lM) := ⟨_, rfl⟩
      rw [← hP2] at HI HP1
      have HPE2 := hide hP2
      clear hP2
      go_wp2
      go_loopw [38] (fun i wr => ∃ (k : Nat), i = .int .i64 k ∧ k ≤ x.n2 ∧ Hid (WrI w0 b q x (P2 ++ txt ((s.tokens.take k).map lT)) wr)) (fun i _ => x.n2 - (intOf i).toNat)
      case atStart => exact ⟨0, rfl, Nat.zero_le _, hide (by simpa [txt] using HI.out)⟩
      case round =>
        clear HI y0 y1 y2 y3 y4 y5
        obtain ⟨k, rfl, hk, HI⟩ := hrel
        have HLB := hide (txt_bound P2 lT s.tokens k 400000 (fun y hy => lT_len (HR.out.atk y hy)) (by have := HP1.out; omega) (by rw [HS.out.ts.1]; omega))
        by_cases hlt : k < x.n2
        · have hk0 : (0 : Int) ≤ (k : Int) := by omega
          have hk1 : (k : Int) < (x.n2 : Int) := by omega
          have hkl : k < s.tokens.length := by rw [HS.out.ts.1]; exact hlt
          have hmok := mem_getD HR.out.atk ⟨#[]⟩ hkl
          have HNX := hide (txt_next P2 lT s.tokens ⟨#[]⟩ k hkl)
          rcases (HS.out.kept HI.out.bel).ts.2 with h0 | ⟨bb, off, hao, hbb, hc⟩
          · omega
          have hck := hc k hlt
          clear hc hkl
          change wr.cell? ⟨bb, off + k, none⟩ = some (.string (s.tokens.getD k ⟨#[]⟩)) at hck
          generalize s.tokens.getD k ⟨#[]⟩ = m at hck hmok HNX
          generalize P2 ++ txt ((s.tokens.take k).map lT) = l at HI HLB HNX
          obtain ⟨l', hl'⟩ : ∃ l', P2 ++ txt ((s.tokens.take (k + 1)).map lT) = l' := ⟨_, rfl⟩
          rw [hl'] at HNX
          have HLQ := hide hl'
          clear hl'
          skip
          have hmb := of_decide_eq_true hmok
          have hml := lT_len hmok
          rw [hao]
          have HMB := hide hmb
          have HKH := hide (hex_any m wr (by omega))
          have HLE := hide (lineT m)
          have HNS := hide (lineL_size (nameB 2) (hexS m) [hexS m] 199 (by rw [HLE.out]; exact hml) List.mem_cons_self)
          generalize hexS m = ns at HKH HLE HNS
          clear hmb hml hmok
          go_wp2_with fail
          refine HKH.out.mono ?_
          rintro e w3 ⟨rfl, hb3⟩
          have HJ3 := hide (HI.out.low hb3)
          clear hb3 HKH
          have HJ4 := hide (HJ3.out.low (low_alloc w3 (.cells #[.string ns] 9)))
          have KL := wline_any w0 HE.out b 2 l _ 1 1 [ns] _ HJ4.out.bel HJ4.out.bld (reads_text w3 ns 9) (by omega) (by omega) (by intro z hz; rw [List.mem_singleton] at hz; subst hz; have := HNS.out; omega) (by have := HLB.out; omega)
          rw [HLE.out, HNX.out] at KL
          go_wp2_with fail
          refine KL.mono ?_
          rintro e w4 ⟨rfl, hB4, hf4⟩
          have HJ5 := hide (HJ4.out.told hq hB4 hf4)
          clear hB4 hf4 KL HJ4 HJ3
          go_wp2
          first
            | exact ⟨⟨k + 1, by go_num, by omega, hide (by rw [HLQ.out]; exact HJ5.out)⟩, by simp [intOf]; omega⟩
            | (go_roundw
               case rel => exact ⟨k + 1, by go_num, by omega, hide (by rw [HLQ.out]; exact HJ5.out)⟩
               case measure => simp [intOf]; omega)
        · have hkn : k = x.n2 := by omega
          subst hkn
          have hT : P2 ++ txt ((s.tokens.take x.n2).map lT) = P2 ++ txt (s.tokens.map lT) := txt_all _ _ _ HS.out.ts.1
          rw [hT] at HI HLB
          have HP2 := HLB
          clear hlt hk hT HLB
          obtain ⟨y0, y1, y2, y3, y4, y5⟩ := HI.out.cells
          obtain ⟨P3, hP3⟩ : ∃ P, P = P2 ++ txt (s.tokens.map lT) := ⟨_, rfl⟩
          rw [← hP3] at HI HP2
          have HPE3 := hide hP3
          clear hP3
          go_wp2
          go_loopw [51] (fun i wr => ∃ (k : Nat), i = .int .i64 k ∧ k ≤ x.n3 ∧ Hid (WrI w0 b q x (P3 ++ txt ((s.specials.take k).map lS)) wr)) (fun i _ => x.n3 - (intOf i).toNat)
          case atStart => exact ⟨0, rfl, Nat.zero_le _, hide (by simpa [txt] using HI.out)⟩
          case round =>
            clear HI y0 y1 y2 y3 y4 y5
            obtain ⟨k, rfl, hk, HI⟩ := hrel
            have HLB := hide (txt_bound P3 lS s.specials k 700000 (fun y hy => lS_len (HR.out.asp y hy)) (by have := HP2.out; omega) (by rw [HS.out.ss.1]; omega))
            by_cases hlt : k < x.n3
            · have hk0 : (0 : Int) ≤ (k : Int) := by omega
              have hk1 : (k : Int) < (x.n3 : Int) := by omega
              have hkl : k < s.specials.length := by rw [HS.out.ss.1]; exact hlt
              have hmok := mem_getD HR.out.asp (0, ⟨#[]⟩) hkl
              have HNX := hide (txt_next P3 lS s.specials (0, ⟨#[]⟩) k hkl)
              rcases (HS.out.kept HI.out.bel).ss.2 with h0 | ⟨bb, off, hao, hbb, hc⟩
              · omega
              have hck := hc k hlt
              clear hc hkl
              change wr.cell? ⟨bb, off + k * 2, none⟩ = some (.int .i64 (s.specials.getD k (0, ⟨#[]⟩)).1) ∧ wr.cell? ⟨bb, off + k * 2 + 1, none⟩ = some (.string (s.specials.getD k (0, ⟨#[]⟩)).2) at hck
              generalize s.specials.getD k (0, ⟨#[]⟩) = m at hck hmok HNX
              generalize P3 ++ txt ((s.specials.take k).map lS) = l at HI HLB HNX
              obtain ⟨l', hl'⟩ : ∃ l', P3 ++ txt ((s.specials.take (k + 1)).map lS) = l' := ⟨_, rfl⟩
              rw [hl'] at HNX
              have HLQ := hide hl'
              clear hl'
              obtain ⟨k0, k1⟩ := hck
              have hmb := of_decide_eq_true hmok
              have hml := lS_len hmok
              rw [hao]
              have HMB := hide hmb
              have HEL : Hid (ElI w0 b q x l wr.heap.size m (wr.alloc (.cells #[.int .i64 m.1, .string m.2] 43)).drew) := hide ((ElI.mk (HI.out.low (low_alloc wr _)) (heap_alloc_new wr _)).low (below_drew (Below.refl _ _)))
              have heb : wr.heap.size ≠ b := by
                have hq2 : b < wr.heap.size := by
                  rcases HI.out.bld with h | h
                  · exact h.lt
                  · exact h.lt
                omega
              have HLE := hide (lineSp m)
              have HNS := hide (lineL_size (nameB 3) (numS m.1) [numS m.1, hexS m.2] 199 (by rw [HLE.out]; exact hml) List.mem_cons_self)
              have HHS := hide (lineL_size (nameB 3) (hexS m.2) [numS m.1, hexS m.2] 199 (by rw [HLE.out]; exact hml) (List.mem_cons_of_mem _ List.mem_cons_self))
              have HKN := hide (fun (W : World) (hW : ElI w0 b q x l wr.heap.size m W) => number_any m.1 (by have := HMB.out; omega) (by have := HMB.out; omega) W (HE.out.kept hW.wr.bel).tens)
              have HKH := hide (fun (W : World) => hex_any m.2 W (by have := HMB.out; omega))
              generalize numS m.1 = ns at HKN HLE HNS HHS
              generalize hexS m.2 = hs at HKH HLE HNS HHS
              have HKL : Hid (∀ (W : World), ElI w0 b q x l wr.heap.size m W → Calls Tryz.prog 44 #[.pointer (some ⟨b, 0, none⟩), .int .i64 3, .slice (some ⟨W.heap.size, 0, none⟩) 2 2] (W.alloc (.cells #[.string ns, .string hs] 9)) fun e w' => e = .returned (.tuple #[]) ∧ ElI w0 b q x l' wr.heap.size m w') := by
                refine hide fun W hW => ?_
                have h4 := hW.low (low_alloc W (.cells #[.string ns, .string hs] 9))
                have KL := wline_any w0 HE.out b 3 l _ 2 2 [ns, hs] _ h4.wr.bel h4.wr.bld (reads_text2 W ns hs 9) (by omega) (by omega) (by intro z hz; simp only [List.mem_cons, List.not_mem_nil, or_false] at hz; have h1 := HNS.out; have h2 := HHS.out; rcases hz with rfl | rfl <;> omega) (by have := HLB.out; omega)
                rw [HLE.out, HNX.out] at KL
                exact KL.mono fun e w' ⟨he, hB, hf⟩ => ⟨he, h4.wr.told hq hB hf, hf.box _ _ _ _ h4.el (by decide) heb⟩
              clear HI hmb hml hmok
              go_wp2
              obtain ⟨z0, z1⟩ := HEL.out.cells
              go_region_held3 (fun W => W.cell? ⟨wr.heap.size, 0, none⟩ = some (.int .i64 m.1) ∧ W.cell? ⟨wr.heap.size, 1, none⟩ = some (.string m.2)) (first | exact ⟨z0, z1⟩ | go_keep) (first
                | (go_at_call 47; refine (HKN.out _ HEL.out).mono ?_; rintro e W1 ⟨rfl, hb⟩; replace HEL := hide (HEL.out.low hb); clear hb; obtain ⟨z0, z1⟩ := HEL.out.cells)
                | (go_at_call 46; refine (HKH.out _).mono ?_; rintro e W1 ⟨rfl, hb⟩; replace HEL := hide (HEL.out.low hb); clear hb; obtain ⟨z0, z1⟩ := HEL.out.cells)
                | (go_at_call 44; refine (HKL.out _ HEL.out).mono ?_; rintro e W1 ⟨rfl, hb⟩; have HEN := hide hb; clear hb; obtain ⟨z0, z1⟩ := HEN.out.cells))
              all_goals
                have HJ5 := hide HEN.out.wr
                go_wp2
                first
                  | exact ⟨⟨k + 1, by go_num, by omega, hide (by rw [HLQ.out]; exact HJ5.out)⟩, by simp [intOf]; omega⟩
                  | (go_roundw
                     case rel => exact ⟨k + 1, by go_num, by omega, hide (by rw [HLQ.out]; exact HJ5.out)⟩
                     case measure => simp [intOf]; omega)
            · have hkn : k = x.n3 := by omega
              subst hkn
              have hT : P3 ++ txt ((s.specials.take x.n3).map lS) = P3 ++ txt (s.specials.map lS) := txt_all _ _ _ HS.out.ss.1
              rw [hT] at HI HLB
              have HP3 := HLB
              clear hlt hk hT HLB
              obtain ⟨y0, y1, y2, y3, y4, y5⟩ := HI.out.cells
              obtain ⟨P4, hP4⟩ : ∃ P, P = P3 ++ txt (s.specials.map lS) := ⟨_, rfl⟩
              rw [← hP4] at HI HP3
              have HPE4 := hide hP4
              clear hP4
              go_wp2
              go_loopw [68] (fun i wr => ∃ (k : Nat), i = .int .i64 k ∧ k ≤ x.n4 ∧ Hid (WrI w0 b q x (P4 ++ txt ((s.classes.take k).map lC)) wr)) (fun i _ => x.n4 - (intOf i).toNat)
              case atStart => exact ⟨0, rfl, Nat.zero_le _, hide (by simpa [txt] using HI.out)⟩
              case round =>
                clear HI y0 y1 y2 y3 y4 y5
                obtain ⟨k, rfl, hk, HI⟩ := hrel
                have HLB := hide (txt_bound P4 lC s.classes k 1000000 (fun y hy => lC_len (HR.out.ac y hy)) (by have := HP3.out; omega) (by rw [HS.out.cs.1]; omega))
                by_cases hlt : k < x.n4
                · have hk0 : (0 : Int) ≤ (k : Int) := by omega
                  have hk1 : (k : Int) < (x.n4 : Int) := by omega
                  have hkl : k < s.classes.length := by rw [HS.out.cs.1]; exact hlt
                  have hmok := mem_getD HR.out.ac (0, 0, 0) hkl
                  have HNX := hide (txt_next P4 lC s.classes (0, 0, 0) k hkl)
                  rcases (HS.out.kept HI.out.bel).cs.2 with h0 | ⟨bb, off, hao, hbb, hc⟩
                  · omega
                  have hck := hc k hlt
                  clear hc hkl
                  change wr.cell? ⟨bb, off + k * 3, none⟩ = some (.int .i64 (s.classes.getD k (0, 0, 0)).1) ∧ wr.cell? ⟨bb, off + k * 3 + 1, none⟩ = some (.int .i64 (s.classes.getD k (0, 0, 0)).2.1) ∧ wr.cell? ⟨bb, off + k * 3 + 2, none⟩ = some (.int .i64 (s.classes.getD k (0, 0, 0)).2.2) at hck
                  generalize s.classes.getD k (0, 0, 0) = m at hck hmok HNX
                  generalize P4 ++ txt ((s.classes.take k).map lC) = l at HI HLB HNX
                  obtain ⟨l', hl'⟩ : ∃ l', P4 ++ txt ((s.classes.take (k + 1)).map lC) = l' := ⟨_, rfl⟩
                  rw [hl'] at HNX
                  have HLQ := hide hl'
                  clear hl'
                  obtain ⟨k0, k1, k2⟩ := hck
                  have hmb := of_decide_eq_true hmok
                  have hml := lC_len hmok
                  rw [hao]
                  have HMB := hide hmb
                  have hlo := low_alloc wr (.cells #[.int .i64 m.1, .int .i64 m.2.1, .int .i64 m.2.2] 57)
                  have hlo2 := low_alloc (wr.alloc (.cells #[.int .i64 m.1, .int .i64 m.2.1, .int .i64 m.2.2] 57)) (.cells #[.int .i64 m.1, .int .i64 m.2.1, .int .i64 m.2.2] 3)
                  have HJ := hide ((HI.out.low hlo).low hlo2)
                  have KN := numbers_any _ 3 3 [m.1, m.2.1, m.2.2] _ (reads3 (wr.alloc (.cells #[.int .i64 m.1, .int .i64 m.2.1, .int .i64 m.2.2] 57)) m.1 m.2.1 m.2.2 3) (by intro z hz; simp only [List.mem_cons, List.not_mem_nil, or_false] at hz; rcases hz with rfl | rfl | rfl <;> omega) (by omega) (HE.out.kept HJ.out.bel).tens
                  rw [show (⟨(wr.alloc (.cells #[.int .i64 m.1, .int .i64 m.2.1, .int .i64 m.2.2] 57)).heap.size, 0, none⟩ : Addr) = ⟨wr.heap.size + 1, 0, none⟩ by rw [alloc_size]] at KN
                  have HLE := hide (lineC m)
                  have HNS := hide (lineL_size (nameB 4) (numsS [m.1, m.2.1, m.2.2]) [numsS [m.1, m.2.1, m.2.2]] 199 (by rw [HLE.out]; exact hml) List.mem_cons_self)
                  generalize numsS [m.1, m.2.1, m.2.2] = ns at KN HLE HNS
                  clear hlo hlo2 HI hmb hml hmok
                  go_wp2_with fail
                  refine KN.mono ?_
                  rintro e w3 ⟨rfl, hb3⟩
                  have HJ3 := hide (HJ.out.low hb3)
                  clear hb3 KN HJ
                  have HJ4 := hide (HJ3.out.low (low_alloc w3 (.cells #[.string ns] 9)))
                  have KL := wline_any w0 HE.out b 4 l _ 1 1 [ns] _ HJ4.out.bel HJ4.out.bld (reads_text w3 ns 9) (by omega) (by omega) (by intro z hz; rw [List.mem_singleton] at hz; subst hz; have := HNS.out; omega) (by have := HLB.out; omega)
                  rw [HLE.out, HNX.out] at KL
                  go_wp2_with fail
                  refine KL.mono ?_
                  rintro e w4 ⟨rfl, hB4, hf4⟩
                  have HJ5 := hide (HJ4.out.told hq hB4 hf4)
                  clear hB4 hf4 KL HJ4 HJ3
                  go_wp2
                  first
                    | exact ⟨⟨k + 1, by go_num, by omega, hide (by rw [HLQ.out]; exact HJ5.out)⟩, by simp [intOf]; omega⟩
                    | (go_roundw
                       case rel => exact ⟨k + 1, by go_num, by omega, hide (by rw [HLQ.out]; exact HJ5.out)⟩
                       case measure => simp [intOf]; omega)
                · have hkn : k = x.n4 := by omega
                  subst hkn
                  have hT : P4 ++ txt ((s.classes.take x.n4).map lC) = P4 ++ txt (s.classes.map lC) := txt_all _ _ _ HS.out.cs.1
                  rw [hT] at HI HLB
                  have HP4 := HLB
                  clear hlt hk hT HLB
                  obtain ⟨y0, y1, y2, y3, y4, y5⟩ := HI.out.cells
                  obtain ⟨P5, hP5⟩ : ∃ P, P = P4 ++ txt (s.classes.map lC) := ⟨_, rfl⟩
                  rw [← hP5] at HI HP4
                  have HPE5 := hide hP5
                  clear hP5
                  go_wp2
                  go_loopw [87] (fun i wr => ∃ (k : Nat), i = .int .i64 k ∧ k ≤ x.n5 ∧ Hid (WrI w0 b q x (P5 ++ txt ((s.joins.take k).map lJ)) wr)) (fun i _ => x.n5 - (intOf i).toNat)
                  case atStart => exact ⟨0, rfl, Nat.zero_le _, hide (by simpa [txt] using HI.out)⟩
                  case round =>
                    clear HI y0 y1 y2 y3 y4 y5
                    obtain ⟨k, rfl, hk, HI⟩ := hrel
                    have HLB := hide (txt_bound P5 lJ s.joins k 1300000 (fun y hy => lJ_len (HR.out.aj y hy)) (by have := HP4.out; omega) (by rw [HS.out.js.1]; omega))
                    by_cases hlt : k < x.n5
                    · have hk0 : (0 : Int) ≤ (k : Int) := by omega
                      have hk1 : (k : Int) < (x.n5 : Int) := by omega
                      have hkl : k < s.joins.length := by rw [HS.out.js.1]; exact hlt
                      have hmok := mem_getD HR.out.aj (0, 0) hkl
                      have HNX := hide (txt_next P5 lJ s.joins (0, 0) k hkl)
                      rcases (HS.out.kept HI.out.bel).js.2 with h0 | ⟨bb, off, hao, hbb, hc⟩
                      · omega
                      have hck := hc k hlt
                      clear hc hkl
                      change wr.cell? ⟨bb, off + k * 2, none⟩ = some (.int .i64 (s.joins.getD k (0, 0)).1) ∧ wr.cell? ⟨bb, off + k * 2 + 1, none⟩ = some (.int .i64 (s.joins.getD k (0, 0)).2) at hck
                      generalize s.joins.getD k (0, 0) = m at hck hmok HNX
                      generalize P5 ++ txt ((s.joins.take k).map lJ) = l at HI HLB HNX
                      obtain ⟨l', hl'⟩ : ∃ l', P5 ++ txt ((s.joins.take (k + 1)).map lJ) = l' := ⟨_, rfl⟩
                      rw [hl'] at HNX
                      have HLQ := hide hl'
                      clear hl'
                      obtain ⟨k0, k1⟩ := hck
                      have hmb := of_decide_eq_true hmok
                      have hml := lJ_len hmok
                      rw [hao]
                      have HMB := hide hmb
                      have hlo := low_alloc wr (.cells #[.int .i64 m.1, .int .i64 m.2] 58)
                      have hlo2 := low_alloc (wr.alloc (.cells #[.int .i64 m.1, .int .i64 m.2] 58)) (.cells #[.int .i64 m.1, .int .i64 m.2] 3)
                      have HJ := hide ((HI.out.low hlo).low hlo2)
                      have KN := numbers_any _ 2 2 [m.1, m.2] _ (reads2 (wr.alloc (.cells #[.int .i64 m.1, .int .i64 m.2] 58)) m.1 m.2 3) (by intro z hz; simp only [List.mem_cons, List.not_mem_nil, or_false] at hz; rcases hz with rfl | rfl <;> omega) (by omega) (HE.out.kept HJ.out.bel).tens
                      rw [show (⟨(wr.alloc (.cells #[.int .i64 m.1, .int .i64 m.2] 58)).heap.size, 0, none⟩ : Addr) = ⟨wr.heap.size + 1, 0, none⟩ by rw [alloc_size]] at KN
                      have HLE := hide (lineJ m)
                      have HNS := hide (lineL_size (nameB 5) (numsS [m.1, m.2]) [numsS [m.1, m.2]] 199 (by rw [HLE.out]; exact hml) List.mem_cons_self)
                      generalize numsS [m.1, m.2] = ns at KN HLE HNS
                      clear hlo hlo2 HI hmb hml hmok
                      go_wp2_with fail
                      refine KN.mono ?_
                      rintro e w3 ⟨rfl, hb3⟩
                      have HJ3 := hide (HJ.out.low hb3)
                      clear hb3 KN HJ
                      have HJ4 := hide (HJ3.out.low (low_alloc w3 (.cells #[.string ns] 9)))
                      have KL := wline_any w0 HE.out b 5 l _ 1 1 [ns] _ HJ4.out.bel HJ4.out.bld (reads_text w3 ns 9) (by omega) (by omega) (by intro z hz; rw [List.mem_singleton] at hz; subst hz; have := HNS.out; omega) (by have := HLB.out; omega)
                      rw [HLE.out, HNX.out] at KL
                      go_wp2_with fail
                      refine KL.mono ?_
                      rintro e w4 ⟨rfl, hB4, hf4⟩
                      have HJ5 := hide (HJ4.out.told hq hB4 hf4)
                      clear hB4 hf4 KL HJ4 HJ3
                      go_wp2
                      first
                        | exact ⟨⟨k + 1, by go_num, by omega, hide (by rw [HLQ.out]; exact HJ5.out)⟩, by simp [intOf]; omega⟩
                        | (go_roundw
                           case rel => exact ⟨k + 1, by go_num, by omega, hide (by rw [HLQ.out]; exact HJ5.out)⟩
                           case measure => simp [intOf]; omega)
                    · have hkn : k = x.n5 := by omega
                      subst hkn
                      have hT : P5 ++ txt ((s.joins.take x.n5).map lJ) = P5 ++ txt (s.joins.map lJ) := txt_all _ _ _ HS.out.js.1
                      rw [hT] at HI HLB
                      have HP5 := HLB
                      clear hlt hk hT HLB
                      obtain ⟨y0, y1, y2, y3, y4, y5⟩ := HI.out.cells
                      go_wp2
                      go_end0
                      refine ⟨rfl, q, ?_⟩
                      have h := HI.out
                      rw [HPE5.out, HPE4.out, HPE3.out, HPE2.out, HPE1.out, ← HTX.out] at h
                      exact h
end Go.Proofs.YteiinkhdgppgbaaGreatDoor
