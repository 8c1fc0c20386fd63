/- How many bytes are held back: the document's answer. What is held back hangs on what was held back, and on what came: the plain mathematics. Contracts of package decode: runeSize, goesOn, Held. -/
import Derived.Test.YtfjcfkkcdbojlaaGreatProg
import Derived.WalkKit
import Derived.ProofKit
import Derived.BigRegion
import Derived.Deep.CutRange
import Derived.Deep.CutBlock
import Derived.Test.YtfjcfkkcdbojlaaGreatQa13
namespace Go.Proofs.YtfjcfkkcdbojlaaGreat
open Go.RowKit Go.Maps
set_option linter.unusedVariables false
set_option linter.unusedSimpArgs false

/-- How many bytes a rune has that begins with a byte; does a byte go on? -/
def needI (x : Int) : Int := if 192 ≤ x ∧ x < 224 then 2 else if 224 ≤ x ∧ x < 240 then 3 else if 240 ≤ x ∧ x < 248 then 4 else 0
def contI (x : Int) : Bool := decide (128 ≤ x) && decide (x < 192)
/-- A rune is begun by a text, and isn't whole. -/
def goOn (t : ByteArray) (j : Nat) : Bool := (List.range j).all (fun i => decide (i = 0) || contI ((t.data.toList.getD i 0).toNat : Int))
def openT (t : ByteArray) : Bool := decide ((t.size : Int) < needI ((t.data.toList.getD 0 0).toNat : Int)) && goOn t t.size
def okHd (s : ByteArray) (n : Nat) : Bool := decide (n ≤ s.size) && openT (s.extract (s.size - n) s.size)
def heldF (s : ByteArray) : Nat := if okHd s 3 = true then 3 else if okHd s 2 = true then 2 else if okHd s 1 = true then 1 else 0
theorem heldF_at {s : ByteArray} {m : Nat} (hm : m ≤ 3) (h0 : 0 < m) (h : ∀ k, m < k → k ≤ 3 → okHd s k = false) (h1 : okHd s m = true) : heldF s = m := by
  unfold heldF
  have : m = 1 ∨ m = 2 ∨ m = 3 := by omega
  rcases this with rfl | rfl | rfl
  · rw [h 3 (by omega) (by omega), h 2 (by omega) (by omega), h1]; simp
  · rw [h 3 (by omega) (by omega), h1]; simp
  · rw [h1]; simp
theorem heldF_no {s : ByteArray} (h : ∀ k, 0 < k → k ≤ 3 → okHd s k = false) : heldF s = 0 := by
  unfold heldF
  rw [h 3 (by omega) (by omega), h 2 (by omega) (by omega), h 1 (by omega) (by omega)]
  simp
theorem goOn_next (t : ByteArray) (j : Nat) (h0 : 0 < j) : goOn t (j + 1) = (goOn t j && contI ((t.data.toList.getD j 0).toNat : Int)) := by
  unfold goOn
  rw [List.range_succ, List.all_append]
  have : decide (j = 0) = false := decide_eq_false (by omega)
  simp [this]
theorem goOn_one (t : ByteArray) : goOn t 1 = true := by
  simp [goOn]
theorem at_getD (t : ByteArray) (j : Nat) (h : j < t.size) : t.data.toList.getD j 0 = t[j] := by
  have h2 : j < t.data.toList.length := by simpa using h
  rw [List.getD_eq_getElem?_getD, List.getElem?_eq_getElem h2]
  rfl

set_option maxRecDepth 20000 in
set_option maxHeartbeats 8000000 in
theorem rheld13_any (s : ByteArray) (w : World) (hs : s.size ≤ 9223372036854775807) :
    Calls Tryz.prog 25 #[.string s] w fun e w' => e = .returned (.int .i64 (heldF s : Int)) ∧ w' = w := by
  go_enter Tryz.func25, Tryz.ntmps25
  go_wp2
  go_loopw [3] (fun i wr => ∃ m : Nat, i = .int .i64 m ∧ m ≤ 3 ∧ Hid (wr = w) ∧ Hid (∀ k, m < k → k ≤ 3 → okHd s k = false)) (fun i _ => (intOf i).toNat)
  case atStart => exact ⟨3, rfl, by omega, hide rfl, hide (fun k h1 h2 => by omega)⟩
  case round =>
    obtain ⟨m, rfl, hm, HWR, HNO⟩ := hrel
    by_cases h0 : 0 < m
    · have hm0 : (0 : Int) < (m : Int) := by omega
      obtain ⟨p, hp⟩ : ∃ p, m = p + 1 := ⟨m - 1, by omega⟩
      have hw : IntKind.i64.wrap ((m : Int) - 1) = (p : Int) := by rw [IntKind.wrap_i64]; omega
      have HP := hide hp
      clear hp
      by_cases hl : s.size < m
      · have hl' : (s.size : Int) < (m : Int) := by omega
        have HN : Hid (∀ k, p < k → k ≤ 3 → okHd s k = false) := hide (fun k h1 h2 => by
          by_cases e : k = m
          · subst e
            unfold okHd
            rw [decide_eq_false (by omega)]
            rfl
          · exact HNO.out k (by have := HP.out; omega) h2)
        have hpm : p ≤ 3 := by have := HP.out; omega
        have hlt : p < m := by have := HP.out; omega
        clear HNO
        go_wp2
        exact ⟨⟨p, by go_num, hpm, HWR, HN⟩, by simp [intOf]; omega⟩
      · have hl' : ¬ (s.size : Int) < (m : Int) := by omega
        obtain ⟨c, hc⟩ : ∃ c, s.size = c + m := ⟨s.size - m, by omega⟩
        have hwc : IntKind.i64.wrap ((s.size : Int) - (m : Int)) = (c : Int) := by rw [IntKind.wrap_i64]; omega
        have hc0 : (0 : Int) ≤ (c : Int) := by omega
        have hc1 : (c : Int) ≤ (s.size : Int) := by omega
        have HSZ : Hid ((s.extract c s.size).size = m) := hide (by simp; omega)
        have HOT : Hid (okHd s m = openT (s.extract c s.size)) := hide (by
          unfold okHd
          rw [decide_eq_true (by omega), show s.size - m = c by omega]
          rfl)
        clear hc
        go_upto_region 7 with fail
        generalize s.extract c s.size = t at *
        have ht0 : 0 < t.size := by have := HSZ.out; omega
        have htb : (0 : Int) < (t.size : Int) := by omega
        have HX := hide (at_getD t 0 ht0)
        generalize hx : (t[0].toNat : Int) = x at *
        by_cases r192 : x < 192
        · have a192 : ¬ 192 ≤ x := by omega
          have b192 : x < 192 := by omega
          have a224 : ¬ 224 ≤ x := by omega
          have b224 : x < 224 := by omega
          have a240 : ¬ 240 ≤ x := by omega
          have b240 : x < 240 := by omega
          have a248 : ¬ 248 ≤ x := by omega
          have b248 : x < 248 := by omega
          have HND : Hid (needI x = 0) := hide (by unfold needI; simp [a192, b192, a224, b224, a240, b240, a248, b248])
          go_wp2
          go_loopw [6, 7] (fun b j wr => ∃ jj : Nat, b = .bool (goOn t jj) ∧ j = .int .i64 jj ∧ 1 ≤ jj ∧ jj ≤ m ∧ Hid (wr = w)) (fun _ j _ => m - (intOf j).toNat)
          case atStart => exact ⟨1, by rw [goOn_one], rfl, Nat.le_refl _, h0, HWR⟩
          case round =>
            obtain ⟨jj, rfl, rfl, hj1, hjm, HWR2⟩ := hrel
            by_cases hlt : jj < m
            · have hlt' : (jj : Int) < (m : Int) := by omega
              have hj0 : (0 : Int) ≤ (jj : Int) := by omega
              have hjt : jj < t.size := by rw [HSZ.out]; exact hlt
              have hjti : (jj : Int) < (t.size : Int) := by omega
              have HNX := hide (goOn_next t jj hj1)
              rw [at_getD t jj hjt] at HNX
              generalize hy : (t[jj].toNat : Int) = y at *
              cases hg : goOn t jj with
              | false =>
                rw [hg, Bool.false_and] at HNX
                clear hg
                go_wp2
                exact ⟨⟨jj + 1, by rw [HNX.out], by go_num, by omega, by omega, HWR2⟩, by simp [intOf]; omega⟩
              | true =>
                rw [hg, Bool.true_and] at HNX
                clear hg
                by_cases e1 : 128 ≤ y
                · by_cases e2 : y < 192
                  · have HC : Hid (goOn t (jj + 1) = true) := hide (by rw [HNX.out]; unfold contI; rw [decide_eq_true e1, decide_eq_true e2]; rfl)
                    clear HNX
                    go_wp2
                    exact ⟨⟨jj + 1, by rw [HC.out], by go_num, by omega, by omega, HWR2⟩, by simp [intOf]; omega⟩
                  · have HC : Hid (goOn t (jj + 1) = false) := hide (by rw [HNX.out]; unfold contI; rw [decide_eq_false e2]; simp)
                    clear HNX
                    go_wp2
                    exact ⟨⟨jj + 1, by rw [HC.out], by go_num, by omega, by omega, HWR2⟩, by simp [intOf]; omega⟩
                · have HC : Hid (goOn t (jj + 1) = false) := hide (by rw [HNX.out]; unfold contI; rw [decide_eq_false e1]; rfl)
                  clear HNX
                  go_wp2
                  exact ⟨⟨jj + 1, by rw [HC.out], by go_num, by omega, by omega, HWR2⟩, by simp [intOf]; omega⟩
            · obtain rfl : jj = m := by omega
              have hj' : ¬ (jj : Int) < (jj : Int) := by omega
              have HR : Hid (okHd s jj = (decide ((jj : Int) < 0) && goOn t jj)) := hide (by
                rw [HOT.out]
                unfold openT
                rw [HX.out, hx, HND.out, HSZ.out])
              have HN : Hid (okHd s jj = false → ∀ k, p < k → k ≤ 3 → okHd s k = false) := hide (fun hf k h1 h2 => by
                by_cases e : k = jj
                · subst e; exact hf
                · exact HNO.out k (by have := HP.out; omega) h2)
              have hpm : p ≤ 3 := by have := HP.out; omega
              have hlp : p < jj := by have := HP.out; omega
              have HF : Hid (okHd s jj = true → heldF s = jj) := hide (fun ht => heldF_at hm h0 HNO.out ht)
              clear HNO HOT HSZ HX HND hx HP hjm
              cases hg : goOn t jj with
              | false =>
                have HFF : Hid (∀ k, p < k → k ≤ 3 → okHd s k = false) := hide (HN.out (by rw [HR.out, hg]; simp))
                clear hg HR HN HF
                by_cases hnd : (jj : Int) < 0
                · go_wp2
                  exact ⟨⟨p, by go_num, hpm, HWR2, HFF⟩, by simp [intOf]; omega⟩
                · go_wp2
                  exact ⟨⟨p, by go_num, hpm, HWR2, HFF⟩, by simp [intOf]; omega⟩
              | true =>
                by_cases hnd : (jj : Int) < 0
                · have HFE := hide (HF.out (by rw [HR.out, hg, decide_eq_true hnd]; rfl))
                  clear hg HR HN HF
                  go_wp2
                  go_ret
                  exact ⟨by rw [HFE.out]; rfl, HWR2.out⟩
                · have HFF : Hid (∀ k, p < k → k ≤ 3 → okHd s k = false) := hide (HN.out (by rw [HR.out, hg, decide_eq_false hnd]; rfl))
                  clear hg HR HN HF
                  go_wp2
                  exact ⟨⟨p, by go_num, hpm, HWR2, HFF⟩, by simp [intOf]; omega⟩
        · skip
          by_cases r224 : x < 224
          · have a192 : 192 ≤ x := by omega
            have b192 : ¬ x < 192 := by omega
            have a224 : ¬ 224 ≤ x := by omega
            have b224 : x < 224 := by omega
            have a240 : ¬ 240 ≤ x := by omega
            have b240 : x < 240 := by omega
            have a248 : ¬ 248 ≤ x := by omega
            have b248 : x < 248 := by omega
            have HND : Hid (needI x = 2) := hide (by unfold needI; simp [a192, b192, a224, b224, a240, b240, a248, b248])
            go_wp2
            go_loopw [6, 7] (fun b j wr => ∃ jj : Nat, b = .bool (goOn t jj) ∧ j = .int .i64 jj ∧ 1 ≤ jj ∧ jj ≤ m ∧ Hid (wr = w)) (fun _ j _ => m - (intOf j).toNat)
            case atStart => exact ⟨1, by rw [goOn_one], rfl, Nat.le_refl _, h0, HWR⟩
            case round =>
              obtain ⟨jj, rfl, rfl, hj1, hjm, HWR2⟩ := hrel
              by_cases hlt : jj < m
              · have hlt' : (jj : Int) < (m : Int) := by omega
                have hj0 : (0 : Int) ≤ (jj : Int) := by omega
                have hjt : jj < t.size := by rw [HSZ.out]; exact hlt
                have hjti : (jj : Int) < (t.size : Int) := by omega
                have HNX := hide (goOn_next t jj hj1)
                rw [at_getD t jj hjt] at HNX
                generalize hy : (t[jj].toNat : Int) = y at *
                cases hg : goOn t jj with
                | false =>
                  rw [hg, Bool.false_and] at HNX
                  clear hg
                  go_wp2
                  exact ⟨⟨jj + 1, by rw [HNX.out], by go_num, by omega, by omega, HWR2⟩, by simp [intOf]; omega⟩
                | true =>
                  rw [hg, Bool.true_and] at HNX
                  clear hg
                  by_cases e1 : 128 ≤ y
                  · by_cases e2 : y < 192
                    · have HC : Hid (goOn t (jj + 1) = true) := hide (by rw [HNX.out]; unfold contI; rw [decide_eq_true e1, decide_eq_true e2]; rfl)
                      clear HNX
                      go_wp2
                      exact ⟨⟨jj + 1, by rw [HC.out], by go_num, by omega, by omega, HWR2⟩, by simp [intOf]; omega⟩
                    · have HC : Hid (goOn t (jj + 1) = false) := hide (by rw [HNX.out]; unfold contI; rw [decide_eq_false e2]; simp)
                      clear HNX
                      go_wp2
                      exact ⟨⟨jj + 1, by rw [HC.out], by go_num, by omega, by omega, HWR2⟩, by simp [intOf]; omega⟩
                  · have HC : Hid (goOn t (jj + 1) = false) := hide (by rw [HNX.out]; unfold contI; rw [decide_eq_false e1]; rfl)
                    clear HNX
                    go_wp2
                    exact ⟨⟨jj + 1, by rw [HC.out], by go_num, by omega, by omega, HWR2⟩, by simp [intOf]; omega⟩
              · obtain rfl : jj = m := by omega
                have hj' : ¬ (jj : Int) < (jj : Int) := by omega
                have HR : Hid (okHd s jj = (decide ((jj : Int) < 2) && goOn t jj)) := hide (by
                  rw [HOT.out]
                  unfold openT
                  rw [HX.out, hx, HND.out, HSZ.out])
                have HN : Hid (okHd s jj = false → ∀ k, p < k → k ≤ 3 → okHd s k = false) := hide (fun hf k h1 h2 => by
                  by_cases e : k = jj
                  · subst e; exact hf
                  · exact HNO.out k (by have := HP.out; omega) h2)
                have hpm : p ≤ 3 := by have := HP.out; omega
                have hlp : p < jj := by have := HP.out; omega
                have HF : Hid (okHd s jj = true → heldF s = jj) := hide (fun ht => heldF_at hm h0 HNO.out ht)
                clear HNO HOT HSZ HX HND hx HP hjm
                cases hg : goOn t jj with
                | false =>
                  have HFF : Hid (∀ k, p < k → k ≤ 3 → okHd s k = false) := hide (HN.out (by rw [HR.out, hg]; simp))
                  clear hg HR HN HF
                  by_cases hnd : (jj : Int) < 2
                  · go_wp2
                    exact ⟨⟨p, by go_num, hpm, HWR2, HFF⟩, by simp [intOf]; omega⟩
                  · go_wp2
                    exact ⟨⟨p, by go_num, hpm, HWR2, HFF⟩, by simp [intOf]; omega⟩
                | true =>
                  by_cases hnd : (jj : Int) < 2
                  · have HFE := hide (HF.out (by rw [HR.out, hg, decide_eq_true hnd]; rfl))
                    clear hg HR HN HF
                    go_wp2
                    go_ret
                    exact ⟨by rw [HFE.out]; rfl, HWR2.out⟩
                  · have HFF : Hid (∀ k, p < k → k ≤ 3 → okHd s k = false) := hide (HN.out (by rw [HR.out, hg, decide_eq_false hnd]; rfl))
                    clear hg HR HN HF
                    go_wp2
                    exact ⟨⟨p, by go_num, hpm, HWR2, HFF⟩, by simp [intOf]; omega⟩
          · skip
            by_cases r240 : x < 240
            · have a192 : 192 ≤ x := by omega
              have b192 : ¬ x < 192 := by omega
              have a224 : 224 ≤ x := by omega
              have b224 : ¬ x < 224 := by omega
              have a240 : ¬ 240 ≤ x := by omega
              have b240 : x < 240 := by omega
              have a248 : ¬ 248 ≤ x := by omega
              have b248 : x < 248 := by omega
              have HND : Hid (needI x = 3) := hide (by unfold needI; simp [a192, b192, a224, b224, a240, b240, a248, b248])
              go_wp2
              go_loopw [6, 7] (fun b j wr => ∃ jj : Nat, b = .bool (goOn t jj) ∧ j = .int .i64 jj ∧ 1 ≤ jj ∧ jj ≤ m ∧ Hid (wr = w)) (fun _ j _ => m - (intOf j).toNat)
              case atStart => exact ⟨1, by rw [goOn_one], rfl, Nat.le_refl _, h0, HWR⟩
              case round =>
                obtain ⟨jj, rfl, rfl, hj1, hjm, HWR2⟩ := hrel
                by_cases hlt : jj < m
                · have hlt' : (jj : Int) < (m : Int) := by omega
                  have hj0 : (0 : Int) ≤ (jj : Int) := by omega
                  have hjt : jj < t.size := by rw [HSZ.out]; exact hlt
                  have hjti : (jj : Int) < (t.size : Int) := by omega
                  have HNX := hide (goOn_next t jj hj1)
                  rw [at_getD t jj hjt] at HNX
                  generalize hy : (t[jj].toNat : Int) = y at *
                  cases hg : goOn t jj with
                  | false =>
                    rw [hg, Bool.false_and] at HNX
                    clear hg
                    go_wp2
                    exact ⟨⟨jj + 1, by rw [HNX.out], by go_num, by omega, by omega, HWR2⟩, by simp [intOf]; omega⟩
                  | true =>
                    rw [hg, Bool.true_and] at HNX
                    clear hg
                    by_cases e1 : 128 ≤ y
                    · by_cases e2 : y < 192
                      · have HC : Hid (goOn t (jj + 1) = true) := hide (by rw [HNX.out]; unfold contI; rw [decide_eq_true e1, decide_eq_true e2]; rfl)
                        clear HNX
                        go_wp2
                        exact ⟨⟨jj + 1, by rw [HC.out], by go_num, by omega, by omega, HWR2⟩, by simp [intOf]; omega⟩
                      · have HC : Hid (goOn t (jj + 1) = false) := hide (by rw [HNX.out]; unfold contI; rw [decide_eq_false e2]; simp)
                        clear HNX
                        go_wp2
                        exact ⟨⟨jj + 1, by rw [HC.out], by go_num, by omega, by omega, HWR2⟩, by simp [intOf]; omega⟩
                    · have HC : Hid (goOn t (jj + 1) = false) := hide (by rw [HNX.out]; unfold contI; rw [decide_eq_false e1]; rfl)
                      clear HNX
                      go_wp2
                      exact ⟨⟨jj + 1, by rw [HC.out], by go_num, by omega, by omega, HWR2⟩, by simp [intOf]; omega⟩
                · obtain rfl : jj = m := by omega
                  have hj' : ¬ (jj : Int) < (jj : Int) := by omega
                  have HR : Hid (okHd s jj = (decide ((jj : Int) < 3) && goOn t jj)) := hide (by
                    rw [HOT.out]
                    unfold openT
                    rw [HX.out, hx, HND.out, HSZ.out])
                  have HN : Hid (okHd s jj = false → ∀ k, p < k → k ≤ 3 → okHd s k = false) := hide (fun hf k h1 h2 => by
                    by_cases e : k = jj
                    · subst e; exact hf
                    · exact HNO.out k (by have := HP.out; omega) h2)
                  have hpm : p ≤ 3 := by have := HP.out; omega
                  have hlp : p < jj := by have := HP.out; omega
                  have HF : Hid (okHd s jj = true → heldF s = jj) := hide (fun ht => heldF_at hm h0 HNO.out ht)
                  clear HNO HOT HSZ HX HND hx HP hjm
                  cases hg : goOn t jj with
                  | false =>
                    have HFF : Hid (∀ k, p < k → k ≤ 3 → okHd s k = false) := hide (HN.out (by rw [HR.out, hg]; simp))
                    clear hg HR HN HF
                    by_cases hnd : (jj : Int) < 3
                    · go_wp2
                      exact ⟨⟨p, by go_num, hpm, HWR2, HFF⟩, by simp [intOf]; omega⟩
                    · go_wp2
                      exact ⟨⟨p, by go_num, hpm, HWR2, HFF⟩, by simp [intOf]; omega⟩
                  | true =>
                    by_cases hnd : (jj : Int) < 3
                    · have HFE := hide (HF.out (by rw [HR.out, hg, decide_eq_true hnd]; rfl))
                      clear hg HR HN HF
                      go_wp2
                      go_ret
                      exact ⟨by rw [HFE.out]; rfl, HWR2.out⟩
                    · have HFF : Hid (∀ k, p < k → k ≤ 3 → okHd s k = false) := hide (HN.out (by rw [HR.out, hg, decide_eq_false hnd]; rfl))
                      clear hg HR HN HF
                      go_wp2
                      exact ⟨⟨p, by go_num, hpm, HWR2, HFF⟩, by simp [intOf]; omega⟩
            · skip
              by_cases r248 : x < 248
              · have a192 : 192 ≤ x := by omega
                have b192 : ¬ x < 192 := by omega
                have a224 : 224 ≤ x := by omega
                have b224 : ¬ x < 224 := by omega
                have a240 : 240 ≤ x := by omega
                have b240 : ¬ x < 240 := by omega
                have a248 : ¬ 248 ≤ x := by omega
                have b248 : x < 248 := by omega
                have HND : Hid (needI x = 4) := hide (by unfold needI; simp [a192, b192, a224, b224, a240, b240, a248, b248])
                go_wp2
                go_loopw [6, 7] (fun b j wr => ∃ jj : Nat, b = .bool (goOn t jj) ∧ j = .int .i64 jj ∧ 1 ≤ jj ∧ jj ≤ m ∧ Hid (wr = w)) (fun _ j _ => m - (intOf j).toNat)
                case atStart => exact ⟨1, by rw [goOn_one], rfl, Nat.le_refl _, h0, HWR⟩
                case round =>
                  obtain ⟨jj, rfl, rfl, hj1, hjm, HWR2⟩ := hrel
                  by_cases hlt : jj < m
                  · have hlt' : (jj : Int) < (m : Int) := by omega
                    have hj0 : (0 : Int) ≤ (jj : Int) := by omega
                    have hjt : jj < t.size := by rw [HSZ.out]; exact hlt
                    have hjti : (jj : Int) < (t.size : Int) := by omega
                    have HNX := hide (goOn_next t jj hj1)
                    rw [at_getD t jj hjt] at HNX
                    generalize hy : (t[jj].toNat : Int) = y at *
                    cases hg : goOn t jj with
                    | false =>
                      rw [hg, Bool.false_and] at HNX
                      clear hg
                      go_wp2
                      exact ⟨⟨jj + 1, by rw [HNX.out], by go_num, by omega, by omega, HWR2⟩, by simp [intOf]; omega⟩
                    | true =>
                      rw [hg, Bool.true_and] at HNX
                      clear hg
                      by_cases e1 : 128 ≤ y
                      · by_cases e2 : y < 192
                        · have HC : Hid (goOn t (jj + 1) = true) := hide (by rw [HNX.out]; unfold contI; rw [decide_eq_true e1, decide_eq_true e2]; rfl)
                          clear HNX
                          go_wp2
                          exact ⟨⟨jj + 1, by rw [HC.out], by go_num, by omega, by omega, HWR2⟩, by simp [intOf]; omega⟩
                        · have HC : Hid (goOn t (jj + 1) = false) := hide (by rw [HNX.out]; unfold contI; rw [decide_eq_false e2]; simp)
                          clear HNX
                          go_wp2
                          exact ⟨⟨jj + 1, by rw [HC.out], by go_num, by omega, by omega, HWR2⟩, by simp [intOf]; omega⟩
                      · have HC : Hid (goOn t (jj + 1) = false) := hide (by rw [HNX.out]; unfold contI; rw [decide_eq_false e1]; rfl)
                        clear HNX
                        go_wp2
                        exact ⟨⟨jj + 1, by rw [HC.out], by go_num, by omega, by omega, HWR2⟩, by simp [intOf]; omega⟩
                  · obtain rfl : jj = m := by omega
                    have hj' : ¬ (jj : Int) < (jj : Int) := by omega
                    have HR : Hid (okHd s jj = (decide ((jj : Int) < 4) && goOn t jj)) := hide (by
                      rw [HOT.out]
                      unfold openT
                      rw [HX.out, hx, HND.out, HSZ.out])
                    have HN : Hid (okHd s jj = false → ∀ k, p < k → k ≤ 3 → okHd s k = false) := hide (fun hf k h1 h2 => by
                      by_cases e : k = jj
                      · subst e; exact hf
                      · exact HNO.out k (by have := HP.out; omega) h2)
                    have hpm : p ≤ 3 := by have := HP.out; omega
                    have hlp : p < jj := by have := HP.out; omega
                    have HF : Hid (okHd s jj = true → heldF s = jj) := hide (fun ht => heldF_at hm h0 HNO.out ht)
                    clear HNO HOT HSZ HX HND hx HP hjm
                    cases hg : goOn t jj with
                    | false =>
                      have HFF : Hid (∀ k, p < k → k ≤ 3 → okHd s k = false) := hide (HN.out (by rw [HR.out, hg]; simp))
                      clear hg HR HN HF
                      by_cases hnd : (jj : Int) < 4
                      · go_wp2
                        exact ⟨⟨p, by go_num, hpm, HWR2, HFF⟩, by simp [intOf]; omega⟩
                      · go_wp2
                        exact ⟨⟨p, by go_num, hpm, HWR2, HFF⟩, by simp [intOf]; omega⟩
                    | true =>
                      by_cases hnd : (jj : Int) < 4
                      · have HFE := hide (HF.out (by rw [HR.out, hg, decide_eq_true hnd]; rfl))
                        clear hg HR HN HF
                        go_wp2
                        go_ret
                        exact ⟨by rw [HFE.out]; rfl, HWR2.out⟩
                      · have HFF : Hid (∀ k, p < k → k ≤ 3 → okHd s k = false) := hide (HN.out (by rw [HR.out, hg, decide_eq_false hnd]; rfl))
                        clear hg HR HN HF
                        go_wp2
                        exact ⟨⟨p, by go_num, hpm, HWR2, HFF⟩, by simp [intOf]; omega⟩
              · skip
                have a192 : 192 ≤ x := by omega
                have b192 : ¬ x < 192 := by omega
                have a224 : 224 ≤ x := by omega
                have b224 : ¬ x < 224 := by omega
                have a240 : 240 ≤ x := by omega
                have b240 : ¬ x < 240 := by omega
                have a248 : 248 ≤ x := by omega
                have b248 : ¬ x < 248 := by omega
                have HND : Hid (needI x = 0) := hide (by unfold needI; simp [a192, b192, a224, b224, a240, b240, a248, b248])
                go_wp2
                go_loopw [6, 7] (fun b j wr => ∃ jj : Nat, b = .bool (goOn t jj) ∧ j = .int .i64 jj ∧ 1 ≤ jj ∧ jj ≤ m ∧ Hid (wr = w)) (fun _ j _ => m - (intOf j).toNat)
                case atStart => exact ⟨1, by rw [goOn_one], rfl, Nat.le_refl _, h0, HWR⟩
                case round =>
                  obtain ⟨jj, rfl, rfl, hj1, hjm, HWR2⟩ := hrel
                  by_cases hlt : jj < m
                  · have hlt' : (jj : Int) < (m : Int) := by omega
                    have hj0 : (0 : Int) ≤ (jj : Int) := by omega
                    have hjt : jj < t.size := by rw [HSZ.out]; exact hlt
                    have hjti : (jj : Int) < (t.size : Int) := by omega
                    have HNX := hide (goOn_next t jj hj1)
                    rw [at_getD t jj hjt] at HNX
                    generalize hy : (t[jj].toNat : Int) = y at *
                    cases hg : goOn t jj with
                    | false =>
                      rw [hg, Bool.false_and] at HNX
                      clear hg
                      go_wp2
                      exact ⟨⟨jj + 1, by rw [HNX.out], by go_num, by omega, by omega, HWR2⟩, by simp [intOf]; omega⟩
                    | true =>
                      rw [hg, Bool.true_and] at HNX
                      clear hg
                      by_cases e1 : 128 ≤ y
                      · by_cases e2 : y < 192
                        · have HC : Hid (goOn t (jj + 1) = true) := hide (by rw [HNX.out]; unfold contI; rw [decide_eq_true e1, decide_eq_true e2]; rfl)
                          clear HNX
                          go_wp2
                          exact ⟨⟨jj + 1, by rw [HC.out], by go_num, by omega, by omega, HWR2⟩, by simp [intOf]; omega⟩
                        · have HC : Hid (goOn t (jj + 1) = false) := hide (by rw [HNX.out]; unfold contI; rw [decide_eq_false e2]; simp)
                          clear HNX
                          go_wp2
                          exact ⟨⟨jj + 1, by rw [HC.out], by go_num, by omega, by omega, HWR2⟩, by simp [intOf]; omega⟩
                      · have HC : Hid (goOn t (jj + 1) = false) := hide (by rw [HNX.out]; unfold contI; rw [decide_eq_false e1]; rfl)
                        clear HNX
                        go_wp2
                        exact ⟨⟨jj + 1, by rw [HC.out], by go_num, by omega, by omega, HWR2⟩, by simp [intOf]; omega⟩
                  · obtain rfl : jj = m := by omega
                    have hj' : ¬ (jj : Int) < (jj : Int) := by omega
                    have HR : Hid (okHd s jj = (decide ((jj : Int) < 0) && goOn t jj)) := hide (by
                      rw [HOT.out]
                      unfold openT
                      rw [HX.out, hx, HND.out, HSZ.out])
                    have HN : Hid (okHd s jj = false → ∀ k, p < k → k ≤ 3 → okHd s k = false) := hide (fun hf k h1 h2 => by
                      by_cases e : k = jj
                      · subst e; exact hf
                      · exact HNO.out k (by have := HP.out; omega) h2)
                    have hpm : p ≤ 3 := by have := HP.out; omega
                    have hlp : p < jj := by have := HP.out; omega
                    have HF : Hid (okHd s jj = true → heldF s = jj) := hide (fun ht => heldF_at hm h0 HNO.out ht)
                    clear HNO HOT HSZ HX HND hx HP hjm
                    cases hg : goOn t jj with
                    | false =>
                      have HFF : Hid (∀ k, p < k → k ≤ 3 → okHd s k = false) := hide (HN.out (by rw [HR.out, hg]; simp))
                      clear hg HR HN HF
                      by_cases hnd : (jj : Int) < 0
                      · go_wp2
                        exact ⟨⟨p, by go_num, hpm, HWR2, HFF⟩, by simp [intOf]; omega⟩
                      · go_wp2
                        exact ⟨⟨p, by go_num, hpm, HWR2, HFF⟩, by simp [intOf]; omega⟩
                    | true =>
                      by_cases hnd : (jj : Int) < 0
                      · have HFE := hide (HF.out (by rw [HR.out, hg, decide_eq_true hnd]; rfl))
                        clear hg HR HN HF
                        go_wp2
                        go_ret
                        exact ⟨by rw [HFE.out]; rfl, HWR2.out⟩
                      · have HFF : Hid (∀ k, p < k → k ≤ 3 → okHd s k = false) := hide (HN.out (by rw [HR.out, hg, decide_eq_false hnd]; rfl))
                        clear hg HR HN HF
                        go_wp2
                        exact ⟨⟨p, by go_num, hpm, HWR2, HFF⟩, by simp [intOf]; omega⟩
    · obtain rfl : m = 0 := by omega
      have HF : Hid (heldF s = 0) := hide (heldF_no (fun k h1 h2 => HNO.out k h1 h2))
      clear HNO
      go_wp2
      go_ret
      exact ⟨by rw [HF.out]; rfl, HWR.out⟩
end Go.Proofs.YtfjcfkkcdbojlaaGreat

namespace Go.Proofs.YtfjcfkkcdbojlaaGreat
set_option linter.unusedVariables false
set_option linter.unusedSimpArgs false

def openL (t : List UInt8) : Bool := decide ((t.length : Int) < needI ((t.getD 0 0).toNat : Int)) && (List.range t.length).all (fun i => decide (i = 0) || contI ((t.getD i 0).toNat : Int))
def okL (l : List UInt8) (n : Nat) : Bool := decide (n ≤ l.length) && openL (l.drop (l.length - n))
def heldL (l : List UInt8) : Nat := if okL l 3 = true then 3 else if okL l 2 = true then 2 else if okL l 1 = true then 1 else 0
theorem okHd_L (s : ByteArray) (n : Nat) : okHd s n = okL s.data.toList n := by
  have hl : s.data.toList.length = s.size := by simp
  unfold okHd okL
  rw [hl]
  by_cases h : n ≤ s.size
  · have e : (s.extract (s.size - n) s.size).data.toList = s.data.toList.drop (s.size - n) := by
      rw [ByteArray.data_extract, Array.toList_extract, List.extract_eq_take_drop, List.take_of_length_le]
      rw [List.length_drop, hl]
      omega
    have e2 : (s.extract (s.size - n) s.size).size = (s.data.toList.drop (s.size - n)).length := by
      rw [← e]
      simp
    unfold openT goOn openL
    rw [e, e2]
  · rw [decide_eq_false h]
    rfl
theorem heldF_L (s : ByteArray) : heldF s = heldL s.data.toList := by
  unfold heldF heldL
  rw [okHd_L, okHd_L, okHd_L]
theorem heldL_le (l : List UInt8) : heldL l ≤ 3 := by
  unfold heldL
  split
  · omega
  · split
    · omega
    · split <;> omega
theorem okL_len {l : List UInt8} {n : Nat} (h : okL l n = true) : n ≤ l.length := by
  unfold okL at h
  rw [Bool.and_eq_true] at h
  exact of_decide_eq_true h.1
theorem heldL_ok {l : List UInt8} (h : 0 < heldL l) : okL l (heldL l) = true := by
  unfold heldL at h ⊢
  split
  · assumption
  · split
    · assumption
    · split
      · assumption
      · rename_i h1 h2 h3
        rw [if_neg h1, if_neg h2, if_neg h3] at h
        omega
theorem heldL_len (l : List UInt8) : heldL l ≤ l.length := by
  rcases Nat.eq_zero_or_pos (heldL l) with h | h
  · omega
  · exact okL_len (heldL_ok h)
theorem heldL_max {l : List UInt8} {m : Nat} (h0 : 0 < m) (h3 : m ≤ 3) (h : okL l m = true) : m ≤ heldL l := by
  unfold heldL
  split
  · exact h3
  · split
    · have : m ≠ 3 := fun e => by subst e; contradiction
      omega
    · split
      · have a : m ≠ 3 := fun e => by subst e; contradiction
        have b : m ≠ 2 := fun e => by subst e; contradiction
        omega
      · have a : m ≠ 3 := fun e => by subst e; contradiction
        have b : m ≠ 2 := fun e => by subst e; contradiction
        have c : m ≠ 1 := fun e => by subst e; contradiction
        omega
theorem okL_tail (a b : List UInt8) {n : Nat} (h : n ≤ b.length) : okL (a ++ b) n = okL b n := by
  unfold okL
  have e : (a ++ b).drop ((a ++ b).length - n) = b.drop (b.length - n) := by
    rw [List.length_append, show a.length + b.length - n = a.length + (b.length - n) by omega, List.drop_append]
    simp
  rw [e, decide_eq_true h, decide_eq_true (show n ≤ (a ++ b).length by rw [List.length_append]; omega)]
/-- What is open, and more than what came, was open. -/
theorem okL_was {a t : List UInt8} {n : Nat} (h : okL (a ++ t) n = true) (hn : t.length < n) : okL a (n - t.length) = true := by
  have hl := okL_len h
  rw [List.length_append] at hl
  unfold okL at h ⊢
  rw [Bool.and_eq_true] at h
  have h2 := h.2
  have e : (a ++ t).drop ((a ++ t).length - n) = a.drop (a.length - (n - t.length)) ++ t := by
    rw [List.length_append, show a.length + t.length - n = a.length - (n - t.length) by omega, List.drop_append_of_le_length (by omega)]
  rw [e] at h2
  have hm : (a.drop (a.length - (n - t.length))).length = n - t.length := by rw [List.length_drop]; omega
  generalize a.drop (a.length - (n - t.length)) = u at *
  have hu : 0 < u.length := by omega
  have g : ∀ i, i < u.length → (u ++ t).getD i 0 = u.getD i 0 := fun i hi => by
    rw [List.getD_eq_getElem?_getD, List.getD_eq_getElem?_getD, List.getElem?_append_left hi]
  unfold openL at h2 ⊢
  rw [Bool.and_eq_true] at h2
  have h3 := of_decide_eq_true h2.1
  rw [g 0 hu, List.length_append] at h3
  rw [decide_eq_true (show n - t.length ≤ a.length by omega), decide_eq_true (show ((u.length : Nat) : Int) < needI ((u.getD 0 0).toNat : Int) by omega)]
  simp only [Bool.true_and]
  rw [List.all_eq_true]
  intro i hi
  rw [List.mem_range] at hi
  have h4 := List.all_eq_true.1 h2.2 i (by rw [List.mem_range, List.length_append]; omega)
  rwa [g i hi] at h4
/-- What is held back of all is what is held back of what was held back, and what came. -/
theorem heldL_rest (a t : List UInt8) : heldL (a ++ t) = heldL (a.drop (a.length - heldL a) ++ t) := by
  have hr := heldL_len a
  have hd : (a.drop (a.length - heldL a)).length = heldL a := by rw [List.length_drop]; omega
  have ha : a.take (a.length - heldL a) ++ a.drop (a.length - heldL a) = a := List.take_append_drop _ _
  have key : ∀ n, 0 < n → n ≤ 3 → okL (a ++ t) n = okL (a.drop (a.length - heldL a) ++ t) n := fun n h0 h3 => by
    by_cases h : n ≤ (a.drop (a.length - heldL a) ++ t).length
    · have := okL_tail (a.take (a.length - heldL a)) (a.drop (a.length - heldL a) ++ t) h
      rw [← List.append_assoc, ha] at this
      exact this
    · have hR : okL (a.drop (a.length - heldL a) ++ t) n = false := by
        unfold okL
        rw [decide_eq_false h]
        rfl
      rw [hR]
      rw [List.length_append, hd] at h
      cases hL : okL (a ++ t) n with
      | false => rfl
      | true =>
        have h1 := okL_was hL (by omega)
        have h2 := heldL_max (by omega) (by omega) h1
        omega
  generalize a.drop (a.length - heldL a) = r at *
  unfold heldL
  rw [key 3 (by omega) (by omega), key 2 (by omega) (by omega), key 1 (by omega) (by omega)]
end Go.Proofs.YtfjcfkkcdbojlaaGreat

namespace Go.Proofs.YtfjcfkkcdbojlaaGreat
open Go.RowKit Go.Maps
set_option linter.unusedVariables false
set_option linter.unusedSimpArgs false

theorem cont_eq (x : Nat) : ((x : Int) / 64 == 2) = contI (x : Int) := by
  unfold contI
  rw [Bool.eq_iff_iff, beq_iff_eq, Bool.and_eq_true, decide_eq_true_iff, decide_eq_true_iff]
  omega
theorem need_2 {x : Nat} (h : ((x : Int) / 32 == 6) = true) : needI (x : Int) = 2 := by
  rw [beq_iff_eq] at h
  unfold needI
  rw [if_pos (by omega)]
theorem need_3 {x : Nat} (h : ((x : Int) / 16 == 14) = true) : needI (x : Int) = 3 := by
  rw [beq_iff_eq] at h
  unfold needI
  rw [if_neg (by omega), if_pos (by omega)]
theorem need_4 {x : Nat} (h : ((x : Int) / 8 == 30) = true) : needI (x : Int) = 4 := by
  rw [beq_iff_eq] at h
  unfold needI
  rw [if_neg (by omega), if_neg (by omega), if_pos (by omega)]
theorem need_0 {x : Nat} (h2 : ((x : Int) / 32 == 6) = false) (h3 : ((x : Int) / 16 == 14) = false) (h4 : ((x : Int) / 8 == 30) = false) : needI (x : Int) = 0 := by
  rw [beq_eq_false_iff_ne] at h2 h3 h4
  unfold needI
  rw [if_neg (by omega), if_neg (by omega), if_neg (by omega)]

set_option maxRecDepth 20000 in
set_option maxHeartbeats 4000000 in
theorem goeson_any (b : UInt8) (w : World) : Calls Tryz.prog 54 #[.int .u8 (b.toNat : Int)] w fun e w' => e = .returned (.bool (contI (b.toNat : Int))) ∧ w' = w := by
  go_enter Tryz.func54, Tryz.ntmps54
  go_wp2
  go_ret
  exact ⟨by rw [← cont_eq]; rfl, rfl⟩

set_option maxRecDepth 20000 in
set_option maxHeartbeats 4000000 in
theorem runesize_any (b : UInt8) (w : World) : Calls Tryz.prog 53 #[.int .u8 (b.toNat : Int)] w fun e w' => e = .returned (.int .i64 (needI (b.toNat : Int))) ∧ w' = w := by
  go_enter Tryz.func53, Tryz.ntmps53
  go_wp2
  · rename_i h
    refine bodyPost_ret (v := .int .i64 2) (by simp [results, Tryz.results53, go_sem]) rfl ?_
    exact ⟨by rw [need_2 h], rfl⟩
  · rename_i h
    refine bodyPost_ret (v := .int .i64 3) (by simp [results, Tryz.results53, go_sem]) rfl ?_
    exact ⟨by rw [need_3 h], rfl⟩
  · rename_i h
    refine bodyPost_ret (v := .int .i64 4) (by simp [results, Tryz.results53, go_sem]) rfl ?_
    exact ⟨by rw [need_4 h], rfl⟩
  · rename_i h2 h3 h4
    refine bodyPost_ret (v := .int .i64 0) (by simp [results, Tryz.results53, go_sem]) rfl ?_
    exact ⟨by rw [need_0 h2 h3 h4], rfl⟩

/-- The byte that is n from the end. -/
def bkL (l : List UInt8) (n : Nat) : Int := ((l.getD (l.length - n) 0).toNat : Int)
/-- The last ones go on. -/
def onL (l : List UInt8) (n : Nat) : Prop := ∀ j, 0 < j → j < n → contI (bkL l j) = true ∧ ¬ needI (bkL l j) > (j : Int)
theorem cont_need {x : Int} (h : contI x = true) : needI x = 0 := by
  unfold contI at h
  rw [Bool.and_eq_true, decide_eq_true_iff, decide_eq_true_iff] at h
  unfold needI
  rw [if_neg (by omega), if_neg (by omega), if_neg (by omega)]
theorem drop_bk {l : List UInt8} {n i : Nat} (hn : n ≤ l.length) (hi : i < n) : (l.drop (l.length - n)).getD i 0 = l.getD (l.length - (n - i)) 0 := by
  rw [List.getD_eq_getElem?_getD, List.getD_eq_getElem?_getD, List.getElem?_drop]
  congr 2
  omega
/-- What is open, by the bytes from the end. -/
theorem okL_bk {l : List UInt8} {n : Nat} (h0 : 0 < n) : okL l n = true ↔ n ≤ l.length ∧ (n : Int) < needI (bkL l n) ∧ ∀ j, 0 < j → j < n → contI (bkL l j) = true := by
  unfold okL
  by_cases hn : n ≤ l.length
  · have hl : (l.drop (l.length - n)).length = n := by rw [List.length_drop]; omega
    rw [decide_eq_true hn, Bool.true_and]
    unfold openL
    rw [hl, Bool.and_eq_true, decide_eq_true_iff, drop_bk hn h0, Nat.sub_zero, List.all_eq_true]
    constructor
    · rintro ⟨h1, h2⟩
      refine ⟨hn, h1, fun j hj0 hj => ?_⟩
      have h3 := h2 (n - j) (List.mem_range.2 (by omega))
      rw [drop_bk hn (by omega), show n - (n - j) = j by omega, decide_eq_false (by omega), Bool.false_or] at h3
      exact h3
    · rintro ⟨_, h1, h2⟩
      refine ⟨h1, fun i hi => ?_⟩
      rw [List.mem_range] at hi
      by_cases e : i = 0
      · rw [decide_eq_true e]; rfl
      · rw [decide_eq_false e, Bool.false_or, drop_bk hn hi]
        exact h2 (n - i) (by omega) (by omega)
  · rw [decide_eq_false hn]
    simp
    omega
theorem heldL_at {l : List UInt8} {n : Nat} (h0 : 0 < n) (h3 : n ≤ 3) (hn : n ≤ l.length) (ho : onL l n) (hb : needI (bkL l n) > (n : Int)) : heldL l = n := by
  have h1 : okL l n = true := (okL_bk h0).2 ⟨hn, hb, fun j a b => (ho j a b).1⟩
  have h2 := heldL_max h0 h3 h1
  rcases Nat.lt_or_ge n (heldL l) with h | h
  · have h4 := ((okL_bk (by omega)).1 (heldL_ok (l := l) (by omega))).2.2 n h0 h
    rw [cont_need h4] at hb
    omega
  · omega
theorem heldL_no {l : List UInt8} {n : Nat} (h0 : 0 < n) (ho : onL l n) (hb : ¬ needI (bkL l n) > (n : Int)) (hc : contI (bkL l n) = false) : heldL l = 0 := by
  rcases Nat.eq_zero_or_pos (heldL l) with h | h
  · exact h
  · obtain ⟨h1, h2, h3⟩ := (okL_bk h).1 (heldL_ok h)
    rcases Nat.lt_trichotomy n (heldL l) with h4 | h4 | h4
    · have := h3 n h0 h4
      rw [hc] at this
      cases this
    · rw [← h4] at h2
      omega
    · have := (ho _ h h4).2
      omega
theorem heldL_end {l : List UInt8} {n : Nat} (ho : onL l n) (hn : 3 < n ∨ l.length < n) : heldL l = 0 := by
  rcases Nat.eq_zero_or_pos (heldL l) with h | h
  · exact h
  · obtain ⟨h1, h2, h3⟩ := (okL_bk h).1 (heldL_ok h)
    have h4 := heldL_le l
    have := (ho _ h (by omega)).2
    omega
theorem bk_at (t : ByteArray) (n : Nat) (h0 : 0 < n) (hn : n ≤ t.size) : bkL t.data.toList n = ((t[t.size - n]'(by omega)).toNat : Int) := by
  unfold bkL
  have hl : t.data.toList.length = t.size := by simp
  rw [hl, at_getD t (t.size - n) (by omega)]

set_option maxRecDepth 20000 in
set_option maxHeartbeats 4000000 in
theorem dheld_any (t : ByteArray) (w : World) (ht : t.size ≤ 9223372036854775807) :
    Calls Tryz.prog 24 #[.string t] w fun e w' => e = .returned (.int .i64 (heldL t.data.toList : Int)) ∧ w' = w := by
  go_enter Tryz.func24, Tryz.ntmps24
  go_wp2
  go_loopw [3] (fun i wr => ∃ m : Nat, i = .int .i64 m ∧ 0 < m ∧ m ≤ 4 ∧ Hid (wr = w) ∧ Hid (onL t.data.toList m)) (fun i _ => 4 - (intOf i).toNat)
  case atStart => exact ⟨1, rfl, by omega, by omega, hide rfl, hide (fun j h1 h2 => by omega)⟩
  case round =>
    obtain ⟨m, rfl, hm0, hm, HWR, HO⟩ := hrel
    by_cases h3 : m ≤ 3
    · by_cases hl : m ≤ t.size
      · have hm1 : (0 : Int) < (m : Int) := by omega
        have hl1 : (m : Int) ≤ (t.size : Int) := by omega
        have hmn : (m : Int) ≤ (if (t.size : Int) < 3 then (t.size : Int) else 3) := by split <;> omega
        have hw1 : IntKind.i64.wrap ((t.size : Int) - (m : Int)) = ((t.size - m : Nat) : Int) := by rw [IntKind.wrap_i64]; omega
        have hq0 : (0 : Int) ≤ ((t.size - m : Nat) : Int) := by omega
        have hq1 : ((t.size - m : Nat) : Int) < (t.size : Int) := by omega
        have hq2 : t.size - m < t.size := by omega
        have HBK := hide (bk_at t m hm0 hl)
        by_cases h3s : (t.size : Int) < 3
        all_goals
          go_upto_region 5 with fail
          generalize t[t.size - m] = bb at *
          cases hn : decide (needI (bb.toNat : Int) > (m : Int)) with
          | true =>
            have hn1 := of_decide_eq_true hn
            have HE : Hid (heldL t.data.toList = m) := hide (heldL_at hm0 h3 (by simp; omega) HO.out (by rw [HBK.out]; exact hn1))
            have K1 := hide (runesize_any bb wr)
            clear HO HBK hn
            generalize needI (bb.toNat : Int) = nd at *
            go_wp2_with fail
            refine (unhide K1).mono ?_
            rintro e w1 ⟨rfl, hw1⟩
            obtain rfl := hw1.symm
            clear hw1 K1
            go_wp2
            refine bodyPost_ret (v := .int .i64 (m : Int)) (by simp [results, Tryz.results24, go_sem]) rfl ?_
            exact ⟨by rw [HE.out], HWR.out⟩
          | false =>
            have hn1 := of_decide_eq_false hn
            have K1 := hide (runesize_any bb wr)
            have K2 := hide (goeson_any bb wr)
            cases hc : contI (bb.toNat : Int) with
            | true =>
              have HN : Hid (onL t.data.toList (m + 1)) := hide (fun j h1 h2 => by
                by_cases e : j = m
                · subst e; rw [HBK.out]; exact ⟨hc, hn1⟩
                · exact HO.out j h1 (by omega))
              rw [hc] at K2
              clear HO HBK hn hc
              generalize needI (bb.toNat : Int) = nd at *
              go_wp2_with fail
              refine (unhide K1).mono ?_
              rintro e w1 ⟨rfl, hw1⟩
              obtain rfl := hw1.symm
              clear hw1 K1
              go_wp2_with fail
              refine (unhide K2).mono ?_
              rintro e w1 ⟨rfl, hw1⟩
              obtain rfl := hw1.symm
              clear hw1 K2
              go_wp2
              first
                | exact ⟨⟨m + 1, by go_num, by omega, by omega, HWR, HN⟩, by simp [intOf]; omega⟩
                | (go_roundw
                   case rel => exact ⟨m + 1, by go_num, by omega, by omega, HWR, HN⟩
                   case measure => simp [intOf]; omega)
            | false =>
              have HE : Hid (heldL t.data.toList = 0) := hide (heldL_no hm0 HO.out (by rw [HBK.out]; exact hn1) (by rw [HBK.out]; exact hc))
              rw [hc] at K2
              clear HO HBK hn hc
              generalize needI (bb.toNat : Int) = nd at *
              go_wp2_with fail
              refine (unhide K1).mono ?_
              rintro e w1 ⟨rfl, hw1⟩
              obtain rfl := hw1.symm
              clear hw1 K1
              go_wp2_with fail
              refine (unhide K2).mono ?_
              rintro e w1 ⟨rfl, hw1⟩
              obtain rfl := hw1.symm
              clear hw1 K2
              go_wp2
              refine bodyPost_ret (v := .int .i64 0) (by simp [results, Tryz.results24, go_sem]) rfl ?_
              exact ⟨by rw [HE.out]; rfl, HWR.out⟩
      · have hmn : ¬ (m : Int) ≤ (if (t.size : Int) < 3 then (t.size : Int) else 3) := by split <;> omega
        have HE : Hid (heldL t.data.toList = 0) := hide (heldL_end HO.out (Or.inr (by simp; omega)))
        clear HO
        go_wp2
        all_goals
          refine bodyPost_ret (v := .int .i64 0) (by simp [results, Tryz.results24, go_sem]) rfl ?_
          exact ⟨by rw [HE.out]; rfl, HWR.out⟩
    · have hmn : ¬ (m : Int) ≤ (if (t.size : Int) < 3 then (t.size : Int) else 3) := by split <;> omega
      have HE : Hid (heldL t.data.toList = 0) := hide (heldL_end HO.out (Or.inl (by omega)))
      clear HO
      go_wp2
      all_goals
        refine bodyPost_ret (v := .int .i64 0) (by simp [results, Tryz.results24, go_sem]) rfl ?_
        exact ⟨by rw [HE.out]; rfl, HWR.out⟩
end Go.Proofs.YtfjcfkkcdbojlaaGreat
