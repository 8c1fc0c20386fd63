/- Contracts of the document's answer for chains: Bytes. -/
import Derived.Test.YtblbbenfaafcoaaChQ
import Derived.Lib.AppendStr
import Derived.Laws.BytesArg
import Derived.Deep.RegionHeld3
namespace Go.Proofs.Ytblbbenfaafcoaa
open Go.RowKit Go.Maps
set_option linter.unusedVariables false
set_option linter.unusedSimpArgs false
attribute [local go_sem ↓] Go.wp_at_zero Go.wp_at_succ

theorem info_u8 : (Try.prog.info? 5).map (fun i => (i.zero, i.size, i.bytes)) = some (some (.int .u8 0), 1, 1) := by kernel_rfl
/-- Bytes as cells. -/
def bc (l : List UInt8) : List Value := l.map fun b => Value.int .u8 b.toNat
theorem step_append_run {P : Program} {w : World} {ops : Array Oper} {o : Oper} {a : Act} {K : Act → World → Prop} {Q : Exit → Act → World → Prop} {E : Prop} (hgd : o.guard = none) (s x : Operand) (t tn : TypeId)
    (ho : o.op = .call { callee := .builtin .append, args := #[s, x], argTypes := #[t, tn] }) (vs vx : Value) (hs : a.eval s = vs) (hx : a.eval x = vx)
    (v' : Value) (w' : World) (hr : (Builtin.append_ #[t, tn] o.type #[vs, vx]).run P w = .ok v' w') (h : K (a.put o.dst v') w') :
    if Region.wanted o (yielded ops a.tmps) = true then Oper.wp P o a w K Q else E := by
  have hw : Region.wanted o (yielded ops a.tmps) = true := by simp [Region.wanted, hgd]
  rw [if_pos hw]
  exact Lib.wp_append_run w s x t tn ho vs vx hs hx v' w' hr h
theorem app_str (w : World) (base : Nat) (ao : Option Addr) (n cap : Nat) (xs : List UInt8) (s : ByteArray) (h : w.ownsRow base 5 1 (.slice ao n cap) n (bc xs)) (hn : n ≤ 100000000) (hs : s.size ≤ 1000) (hb : base ≤ w.heap.size) :
    ∃ ao1 cap1 w1, (Builtin.append_ #[73, 9] 73 #[.slice ao n cap, .string s]).run Try.prog w = .ok (.slice ao1 (n + s.size) cap1) w1 ∧ w1.ownsRow base 5 1 (.slice ao1 (n + s.size) cap1) (n + s.size) (bc (xs ++ s.data.toList)) ∧ Below base w w1 := by
  obtain ⟨i0, hi, hz0, hz1, hz2⟩ := info_parts info_u8
  obtain ⟨v', w', hr, h2, h3, _⟩ := Lib.run_append_own_string (P := Try.prog) w base 73 9 73 5 i0 Try.underlying73 Try.underlying9 hi hz0 hz1 hz2 (.slice ao n cap) n (bc xs) h s (by unfold maxLen; omega) (by omega) hb
  obtain ⟨ao1, cap1, rfl⟩ := row_form h2
  refine ⟨ao1, cap1, w', hr, ?_, ⟨h3.os, h3.tape, h3.output, h3.size, fun k hk => h3.block k (by omega) (fun e => by have := (h.lt k e.symm).1; omega)⟩⟩
  have e : bc (xs ++ s.data.toList) = bc xs ++ Lib.strCells s := by simp [bc, Lib.strCells]
  rw [e]
  exact h2
theorem str_nums (l : List UInt8) : strOfNums (l.map (fun c => (c.toNat : Int))) = ⟨l.toArray⟩ := by
  rw [strOfNums]
  congr 2
  rw [List.map_map]
  conv => rhs; rw [← List.map_id l]
  refine List.map_congr_left (fun x _ => ?_)
  simp
theorem conv_row (w : World) (base : Nat) (ao : Option Addr) (n cap : Nat) (xs : List UInt8) (h : w.ownsRow base 5 1 (.slice ao n cap) n (bc xs)) : (convert 73 9 (.slice ao n cap)).run Try.prog w = .ok (.string ⟨xs.toArray⟩) w := by
  have hl : xs.length = n := by have := h.1; simp [bc] at this; omega
  rcases h.2 with ⟨hv, h0⟩ | ⟨g, c, cur, hv, _⟩
  · simp only [Value.slice.injEq] at hv
    obtain ⟨rfl, rfl, rfl⟩ := hv
    have : xs = [] := List.eq_nil_of_length_eq_zero hl
    subst this
    exact run_convert_bytes_nil (P := Try.prog) w 73 5 Try.underlying73 Try.underlying5 0 0 9 Try.underlying9
  · simp only [Value.slice.injEq] at hv
    obtain ⟨rfl, _, rfl⟩ := hv
    have hc := run_convert_bytes_arg (P := Try.prog) w 73 5 Try.underlying73 Try.underlying5 g 0 n cap (xs.map (fun c => (c.toNat : Int))) (by simpa using hl) (fun i hi => by
      rw [Nat.zero_add, h.cellAt i (by omega)]
      simp [bc, List.getD_eq_getElem?_getD, List.getElem?_eq_getElem (show i < xs.length by omega)]) 9 Try.underlying9
    rw [str_nums] at hc
    exact hc

section
variable {vb vm : Value} {tx : List ByteArray} {mg : List (Int × Int)}

set_option maxRecDepth 20000 in
set_option maxHeartbeats 8000000 in
theorem rbytes_any (w : World) (hR : RT vb vm tx mg w) (hk : Tok tx mg) (ao : Option Addr) (n cap : Nat) (l : List Int) (hI : RdI w ao n l) (hn : n ≤ 100000) (hin : ∀ x ∈ l, inT tx x) :
    Calls Try.prog 35 #[.agg #[vb, vm], .slice ao n cap] w fun e w' => e = .returned (.tuple #[.string ⟨(txt tx l).toArray⟩, .bool true]) ∧ Below w.heap.size w w' := by
  obtain ⟨a1, c1, rfl⟩ := row_form hR.rb
  obtain ⟨a2, c2, rfl⟩ := row_form hR.rm
  have hl0 := low1 w (.cells #[.slice a1 tx.length c1, .slice a2 mg.length c2] 30)
  have HX0 : Hid (Box2 w.heap.size (.slice a1 tx.length c1) (.slice a2 mg.length c2) (w.alloc (.cells #[.slice a1 tx.length c1, .slice a2 mg.length c2] 30))) := hide (heap_alloc_new w _)
  have HR0 := hide (hR.kept hl0)
  have HI0 := hide (hI.kept hl0)
  have HL0 := hide hl0
  have hl := hI.1
  have HIN := hide hin
  clear hR hl0 hI hin
  go_enter Try.func35, Try.ntmps35
  go_wp2
  generalize w.alloc (.cells #[.slice a1 tx.length c1, .slice a2 mg.length c2] 30) = w0 at *
  generalize hq : w.heap.size = q at *
  have HQ := hide hq
  clear hq
  go_loopw [6, 7] (fun a i wr => ∃ (k m : Nat) (ao : Option Addr) (cap : Nat), a = .slice ao m cap ∧ i = .int .i64 k ∧ k ≤ n ∧ Hid (m = pos tx (l.take k)) ∧ Hid (wr.ownsRow w0.heap.size 5 1 (.slice ao m cap) m (bc (txt tx (l.take k)))) ∧ Hid (Below w0.heap.size w0 wr)) (fun _ i _ => n - (intOf i).toNat)
  case atStart => exact ⟨0, 0, none, 0, rfl, rfl, Nat.zero_le _, hide (by simp [pos]), hide (by simpa [txt, bc] using World.ownsRow_nil _ _ _ _), hide (Below.refl _ _)⟩
  case round =>
    obtain ⟨k, m, ao1, cap1, rfl, rfl, hkn, HM, HRW, HB⟩ := hrel
    by_cases hlt : k < n
    · have hk0 : (0 : Int) ≤ (k : Int) := by omega
      have hk1 : (k : Int) < (n : Int) := by omega
      rcases HI0.out.2 with h0 | ⟨b, off, rfl, hbl0, hc⟩
      · omega
      have hc1 := hc k hlt
      have c0 := (HB.out.cell hbl0).trans hc1
      have hbl : b < wr.heap.size := Nat.lt_of_lt_of_le hbl0 HB.out.size
      have HC1 := hide hc1
      clear hc hc1
      have hx := HIN.out _ (gI_mem l (show k < l.length by omega))
      obtain ⟨i0, hi0⟩ := Int.eq_ofNat_of_zero_le hx.1
      have hil : i0 < tx.length := by have := hx.2; omega
      have hi0' : (0 : Int) ≤ (i0 : Int) := by omega
      have hi1 : (i0 : Int) < (tx.length : Int) := by omega
      have HGI := hide hi0
      rw [hi0] at c0 HC1
      have HRH := hide (rhas_any (HR0.out.kept HB.out).drew (i0 : Int))
      rw [show decide (0 ≤ (i0 : Int) ∧ (i0 : Int) < (tx.length : Int)) = true by simp; omega] at HRH
      obtain ⟨x0, x1, xf⟩ := (HX0.out.kept HB.out).cells
      clear hx hi0
      go_wp2
      go_region_held3 (fun W => W.cell? ⟨q, 0, none⟩ = some (.slice a1 tx.length c1) ∧ W.cell? ⟨q, 1, none⟩ = some (.slice a2 mg.length c2) ∧ W.cell? ⟨b, off + k, none⟩ = some (.int .i64 (i0 : Int))) (first | exact ⟨y0, y1, y2⟩ | go_keep) (first
        | (go_at_call 22; refine (unhide HRH).mono ?_; rintro e W1 ⟨rfl, hb⟩; have hb2 : Below wr.heap.size wr W1 := ⟨hb.os, hb.tape, hb.output, hb.size, hb.block⟩; have HB2 := hide (HB.out.trans (hb2.mono HB.out.size)); obtain ⟨y0, y1, yf⟩ := (HX0.out.kept HB2.out).cells; have y2 := (hb2.cell hbl).trans c0; have HRW2 := hide (row_keptB HRW.out hb2); clear hb hb2))
      clear x0 x1 xf c0 HRH
      obtain ⟨g, cg, hvg, hgl, hcg0⟩ := HR0.out.text hil
      have hcg := (HB2.out.cell hgl).trans hcg0
      have HG0 := hide (And.intro hgl hcg0)
      clear hgl hcg0
      simp only [Value.slice.injEq] at hvg
      obtain ⟨rfl, _, rfl⟩ := hvg
      have hss := hk.sz i0 hil
      have HSI := hide (show (gs tx i0) = gs tx (gI l k).toNat by rw [HGI.out]; rfl)
      generalize gs tx i0 = si at *
      have hm : m ≤ 6400000 := by
        have h1 := pos_le hk (l.take k) (fun x hx => HIN.out x (List.mem_of_mem_take hx))
        have h2 := HM.out
        simp at h1
        omega
      have HRW3 : Hid (W1.drew.ownsRow w0.heap.size 5 1 (.slice ao1 m cap1) m (bc (txt tx (l.take k)))) := hide HRW2.out
      obtain ⟨ao2, cap2, w2, hrun, hown, hb3⟩ := app_str W1.drew w0.heap.size ao1 m cap1 _ si HRW3.out (by omega) (by omega) HB2.out.size
      have HRUN := hide hrun
      have htk := take_succ_gI l (show k < l.length by omega)
      have HM2 : Hid (m + si.size = pos tx (l.take (k + 1))) := hide (by rw [htk, pos_append, ← HM.out, HSI.out]; simp [pos, sz])
      have HR2 : Hid (w2.ownsRow w0.heap.size 5 1 (.slice ao2 (m + si.size) cap2) (m + si.size) (bc (txt tx (l.take (k + 1))))) := hide (by rw [htk, txt_append]; simp only [txt, List.append_nil]; rw [← HSI.out]; exact hown)
      have HB3 : Hid (Below w0.heap.size w0 w2) := hide (HB2.out.trans ⟨hb3.os, hb3.tape, hb3.output, hb3.size, hb3.block⟩)
      have u0 := (HX0.out.kept HB3.out).cells.1
      have u1 := (HB3.out.cell hbl0).trans HC1.out
      have u2 := (HB3.out.cell HG0.out.1).trans HG0.out.2
      clear hrun hown hb3 htk HRW2 HRW3 HC1 HG0
      go_wp2
      go_region_held3 (fun W => W.cell? ⟨q, 0, none⟩ = some (.slice (some ⟨g, 0, none⟩) tx.length c1) ∧ W.cell? ⟨b, off + k, none⟩ = some (.int .i64 (i0 : Int)) ∧ W.cell? ⟨g, i0, none⟩ = some (.string si)) (first | exact ⟨u0, u1, u2⟩ | go_keep) (first | (refine step_append_run (by rfl) _ _ _ _ (by rfl) _ _ (by rfl) (by rfl) _ _ HRUN.out ?_))
      go_wp2
      exact ⟨⟨k + 1, m + si.size, ao2, cap2, rfl, by go_num, by omega, HM2, HR2, HB3⟩, by simp [intOf]; omega⟩
    · obtain rfl : k = n := by omega
      have htk : l.take k = l := by rw [← hl]; exact List.take_length
      have hcv := conv_row wr _ ao1 m cap1 _ HRW.out
      rw [htk] at hcv
      go_wp2
      (try simp only [Exit.inBlock, Exit.then])
      refine bodyPost_ret (v := .tuple #[.string ⟨(txt tx l).toArray⟩, .bool true]) (by simp [results, Try.results35, go_sem]) rfl ⟨rfl, ?_⟩
      rw [HQ.out]
      exact HL0.out.trans (HB.out.mono (by have h1 := HL0.out.size; have h2 := HQ.out; omega))
end

end Go.Proofs.Ytblbbenfaafcoaa
