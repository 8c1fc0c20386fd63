/- Contracts of package chain: rowOf's walk. -/
import Derived.Test.YtlfffalfnnmliaaChG
import Derived.BigRegion
import Derived.Deep.RegionWith
namespace Go.Proofs.Ytlfffalfnnmliaa
open Go.RowKit Go.Maps
set_option linter.unusedVariables false
set_option linter.unusedSimpArgs false
attribute [local go_sem ↓] Go.wp_at_zero Go.wp_at_succ

theorem hnew_eq (w : World) :
    Calls Try.prog 59 #[] w fun e w' => e = .returned (.pointer (some ⟨w.heap.size, 0, none⟩)) ∧ w' = w.alloc (.cells #[.slice none 0 0, .int .i64 0] 126) := by
  go_enter Try.func59, Try.ntmps59
  go_wp2
  go_ret
  exact ⟨rfl, rfl⟩

section
variable {F : List Nat} {pT : Nat} {v0 v1 : Value} {b2 b3 : Nat} {tx : List ByteArray} {mg : List (Int × Int)}

/-- A row that was made just now. -/
theorem row_new (W : World) (base g h q N : Nat) (bl : Int) (hT : TAt F pT v0 v1 b2 b3 tx mg (lgs tx) W) (hlow : ∀ k ∈ F, k < base) (hN : N ≤ 100000)
    (hg : W.heap[g]? = some (.cells (madeCells #[.int .i64 0, .int .i64 0, .int .i64 0] (N * 3)) 118 (0, 0)))
    (hh : W.heap[h]? = some (.cells #[.slice none 0 0, .int .i64 0] 126 (0, 0)))
    (hq : W.heap[q]? = some (.cells #[.pointer (some ⟨pT, 0, none⟩), .int .i64 bl, .slice (some ⟨g, 0, none⟩) N N, .pointer (some ⟨h, 0, none⟩), .int .i64 0] 116 (0, 0)))
    (b1 : base ≤ g) (b2' : base ≤ h) (b3' : base ≤ q) (n1 : g ≠ h) (n2 : g ≠ q) (n3 : h ≠ q) :
    RAt base F pT v0 v1 b2 b3 tx mg q bl (.slice (some ⟨g, 0, none⟩) N N) (List.replicate N ptZ) h (.slice none 0 0) 0 [] 0 W := by
  refine ⟨hq, ⟨by simp [fl3_len], Or.inr ⟨g, N, _, by simp, b1, hg, by simp, by unfold maxLen; omega, size_madeCells _ _, ?_⟩⟩, ⟨hh, World.ownsRow_nil _ _ _ _, by simp [Value.ownBlock], b2'⟩, hT, hlow, b3', fun e => n3 e.symm, by simpa [Value.ownBlock] using n2, by simpa [Value.ownBlock] using n1, by simp [Value.ownBlock], by simp [Value.ownBlock]⟩
  rw [made3, fl3_rep, List.length_replicate, List.take_replicate, Nat.min_self]

/-- What holds at the head of rowOf's loop. -/
structure RoI (base : Nat) (F : List Nat) (pT : Nat) (v0 v1 : Value) (b2 b3 : Nat) (tx : List ByteArray) (mg : List (Int × Int)) (q : Nat) (bl : Int) (vp : Value) (h : Nat) (S : ByteArray) (w : World) (ps : List Pt) (hv : Value) (tn : Int) (l : List Hq.It) (k : Nat) (wr : World) : Prop where
  r : RAt base F pT v0 v1 b2 b3 tx mg q bl vp ps h hv tn l 0 wr
  hp : Hq.Hp l
  s : StK tx mg bl ps k (bys S k) l
  ok : okP ps
  len : ps.length = S.size
  t0 : 0 ≤ tn
  t1 : tn ≤ k
  l1 : l.length ≤ k
  B : Below base w wr

theorem okP_rep (N : Nat) : okP (List.replicate N ptZ) := by
  intro k
  have : gp (List.replicate N ptZ) k = ptZ := by
    unfold gp
    rw [List.getD_eq_getElem?_getD, List.getElem?_replicate]
    split <;> rfl
  rw [this]
  simp [ptZ]

theorem RoI.first {base q h : Nat} {bl : Int} {vp : Value} {s : ByteArray} {w wr : World} (r : RAt base F pT v0 v1 b2 b3 tx mg q bl vp (List.replicate s.size ptZ) h (.slice none 0 0) 0 [] 0 wr) (hB : Below base w wr) : RoI base F pT v0 v1 b2 b3 tx mg q bl vp h s w (List.replicate s.size ptZ) (.slice none 0 0) 0 [] 0 wr :=
  ⟨r, Hq.Hp.nil, ⟨rfl, fun e he => by simp at he, fun u a b v e => by simp [bys] at e⟩, okP_rep _, by simp, Int.le_refl _, by simp, by simp, hB⟩

theorem belowd (B : Nat) (w : World) : Below B w w.drew := ⟨rfl, rfl, rfl, Nat.le_refl _, fun _ _ => rfl⟩

/-- A part is laid. -/
theorem RAt.setP {base q h g n cap : Nat} {bl : Int} {ps : List Pt} {hv : Value} {tn st : Int} {l : List Hq.It} {w : World} (r : RAt base F pT v0 v1 b2 b3 tx mg q bl (.slice (some ⟨g, 0, none⟩) n cap) ps h hv tn l st w) (k : Nat) (hk : k < ps.length) (x y z : Int) :
    RAt base F pT v0 v1 b2 b3 tx mg q bl (.slice (some ⟨g, 0, none⟩) n cap) (ps.set k ⟨x, y, z⟩) h hv tn l st (((w.setCell ⟨g, k * 3, none⟩ (.int .i64 x)).setCell ⟨g, k * 3 + 1, none⟩ (.int .i64 y)).setCell ⟨g, k * 3 + 2, none⟩ (.int .i64 z)) ∧ Below base w (((w.setCell ⟨g, k * 3, none⟩ (.int .i64 x)).setCell ⟨g, k * 3 + 1, none⟩ (.int .i64 y)).setCell ⟨g, k * 3 + 2, none⟩ (.int .i64 z)) := by
  have e1 := fl3_set0 ps k hk x
  have e2 := fl3_set1 (ps.set k ⟨x, (gp ps k).ah, (gp ps k).af⟩) k (by simpa using hk) y
  rw [gp_set _ _ _ _ hk, if_pos rfl, List.set_set] at e2
  have e3 := fl3_set2 (ps.set k ⟨x, y, (gp ps k).af⟩) k (by simpa using hk) z
  rw [gp_set _ _ _ _ hk, if_pos rfl, List.set_set] at e3
  obtain ⟨r1, b1⟩ := r.setG _ _ e1 (by simp)
  obtain ⟨r2, b2⟩ := r1.setG _ _ e2 (by simp)
  obtain ⟨r3, b3⟩ := r2.setG _ _ e3 (by simp)
  exact ⟨r3, (b1.trans b2).trans b3⟩

theorem okP_set {ps : List Pt} (h : okP ps) {k : Nat} (hk : k < ps.length) {a : Pt} (ha : -1 ≤ a.id ∧ a.id ≤ 2000) : okP (ps.set k a) := by
  intro i
  rw [gp_set _ _ _ _ hk]
  split
  · exact ha
  · exact h i

theorem RoI.step {base q h g : Nat} {bl : Int} {n cap : Nat} {s : ByteArray} {w wr w2 : World} {ps : List Pt} {hv hv' : Value} {tn tn' : Int} {l l' : List Hq.It} {k : Nat} (hk : Tok tx mg) (I : RoI base F pT v0 v1 b2 b3 tx mg q bl (.slice (some ⟨g, 0, none⟩) n cap) h s w ps hv tn l k wr) (hks : k < s.size)
    (r' : RAt base F pT v0 v1 b2 b3 tx mg q bl (.slice (some ⟨g, 0, none⟩) n cap) (ps.set k ⟨byt s k, (k : Int) - 1, (k : Int) + 1⟩) h hv' tn' l' 0 w2) (hp' : Hq.Hp l') (hB : Below base wr w2) (aw : AwR mg bl (ps.set k ⟨byt s k, (k : Int) - 1, (k : Int) + 1⟩) ((k : Int) - 1) k tn l tn' l') :
    RoI base F pT v0 v1 b2 b3 tx mg q bl (.slice (some ⟨g, 0, none⟩) n cap) h s w (ps.set k ⟨byt s k, (k : Int) - 1, (k : Int) + 1⟩) hv' tn' l' (k + 1) w2 := by
  have hl : k < ps.length := by rw [I.len]; exact hks
  have hbt := byt_lt s k
  have hb := aw.bound
  have h0 := I.t0
  have h1 := I.t1
  have h2 := I.l1
  refine ⟨r', hp', ?_, okP_set I.ok hl ⟨by simp; omega, by simp; omega⟩, by rw [List.length_set]; exact I.len, by omega, by omega, by omega, I.B.trans hB⟩
  rw [bys_succ s k hks]
  exact I.s.step hk (bys_lt s k) hbt (by simp) hl (fun j hj => by rw [gp_set _ _ _ _ hl, if_neg (by omega)]) (by rw [gp_set _ _ _ _ hl, if_pos rfl]) aw

theorem RoI.done {base q h : Nat} {bl : Int} {vp : Value} {s : ByteArray} {w wr : World} {ps : List Pt} {hv : Value} {tn : Int} {l : List Hq.It} (I : RoI base F pT v0 v1 b2 b3 tx mg q bl vp h s w ps hv tn l s.size wr) : SeI base F pT v0 v1 b2 b3 tx mg q bl vp h s.size (enc mg (rnds mg bl) (bys s s.size)) wr ps hv tn l 0 (bys s s.size) wr := by
  have hl := bys_len s s.size (Nat.le_refl _)
  have h1 := I.t1
  have h2 := I.l1
  refine ⟨I.r, I.hp, ⟨?_, I.s.e1, I.s.e2⟩, I.ok, I.len, I.t0, by omega, by omega, by omega, by omega, rfl, Below.refl _ _⟩
  rw [I.len]
  exact I.s.lay

theorem three (w : World) (o1 o2 o3 : Obj) : (((w.alloc o1).alloc o2).alloc o3).drew.heap[w.heap.size]? = some o1 ∧ (((w.alloc o1).alloc o2).alloc o3).drew.heap[w.heap.size + 1]? = some o2 ∧ (((w.alloc o1).alloc o2).alloc o3).drew.heap[w.heap.size + 1 + 1]? = some o3 ∧ Below w.heap.size w (((w.alloc o1).alloc o2).alloc o3).drew := by
  have s1 : (w.alloc o1).heap.size = w.heap.size + 1 := by simp
  have s2 : ((w.alloc o1).alloc o2).heap.size = w.heap.size + 1 + 1 := by simp
  have l2 := low1 (w.alloc o1) o2
  have l3 := low1 ((w.alloc o1).alloc o2) o3
  have e2 := heap_alloc_new (w.alloc o1) o2
  have e3 := heap_alloc_new ((w.alloc o1).alloc o2) o3
  rw [s1] at e2
  rw [s2] at e3
  refine ⟨?_, ?_, e3, (((low1 w o1).alloc (by omega) o2).alloc (by omega) o3).drew⟩
  · exact (l3.block _ (by omega)).trans ((l2.block _ (by omega)).trans (heap_alloc_new w o1))
  · exact (l3.block _ (by omega)).trans e2

set_option maxRecDepth 20000 in
set_option maxHeartbeats 8000000 in
theorem rowOf_any (w : World) (hT : TAt F pT v0 v1 b2 b3 tx mg (lgs tx) w) (hk : Tok tx mg) (s : ByteArray) (hs : s.size ≤ 100000) (bl : Int) :
    Calls Try.prog 56 #[.pointer (some ⟨pT, 0, none⟩), .string s, .int .i64 bl] w fun e w' => ∃ q vp h ps hv tn l, e = .returned (.pointer (some ⟨q, 0, none⟩)) ∧ SeI w.heap.size F pT v0 v1 b2 b3 tx mg q bl vp h s.size (enc mg (rnds mg bl) (bys s s.size)) w' ps hv tn l 0 (bys s s.size) w' ∧ Below w.heap.size w w' := by
  have HMK := fun w => run_parts w s.size (by omega)
  have HT := hide hT
  clear hT
  obtain ⟨base, hbase⟩ : ∃ b, b = w.heap.size := ⟨_, rfl⟩
  have HB := hide hbase
  clear hbase
  go_enter Try.func56, Try.ntmps56
  go_wp2
  go_region_with (first | (go_at_call 59; refine (hnew_eq _).mono ?_; rintro e w1 ⟨rfl, rfl⟩))
  all_goals clear HMK
  have H3 := three w (.cells (madeCells #[.int .i64 0, .int .i64 0, .int .i64 0] (s.size * 3)) 118) (.cells #[.slice none 0 0, .int .i64 0] 126) (.cells #[.pointer (some ⟨pT, 0, none⟩), .int .i64 bl, .slice (some ⟨w.heap.size, 0, none⟩) s.size s.size, .pointer (some ⟨w.heap.size + 1, 0, none⟩), .int .i64 0] 116)
  have HR : Hid (∃ ps hv tn l, RoI base F pT v0 v1 b2 b3 tx mg (w.heap.size + 1 + 1) bl (.slice (some ⟨w.heap.size, 0, none⟩) s.size s.size) (w.heap.size + 1) s w ps hv tn l 0 (((w.alloc (.cells (madeCells #[.int .i64 0, .int .i64 0, .int .i64 0] (s.size * 3)) 118)).alloc (.cells #[.slice none 0 0, .int .i64 0] 126)).alloc (.cells #[.pointer (some ⟨pT, 0, none⟩), .int .i64 bl, .slice (some ⟨w.heap.size, 0, none⟩) s.size s.size, .pointer (some ⟨w.heap.size + 1, 0, none⟩), .int .i64 0] 116)).drew) := hide ⟨_, _, _, _, RoI.first (row_new _ _ _ _ _ _ bl (HT.out.keptB H3.2.2.2) (fun k hk => by have h1 := HT.out.flt k hk; have h2 := HB.out; omega) (by omega) H3.1 H3.2.1 H3.2.2.1 (by have := HB.out; omega) (by have := HB.out; omega) (by have := HB.out; omega) (by omega) (by omega) (by omega)) (by rw [HB.out]; exact H3.2.2.2)⟩
  clear H3
  generalize (((w.alloc (.cells (madeCells #[.int .i64 0, .int .i64 0, .int .i64 0] (s.size * 3)) 118)).alloc (.cells #[.slice none 0 0, .int .i64 0] 126)).alloc (.cells #[.pointer (some ⟨pT, 0, none⟩), .int .i64 bl, .slice (some ⟨w.heap.size, 0, none⟩) s.size s.size, .pointer (some ⟨w.heap.size + 1, 0, none⟩), .int .i64 0] 116)).drew = W0 at *
  generalize w.heap.size + 1 + 1 = q at *
  generalize w.heap.size + 1 = h at *
  generalize w.heap.size = g at HR ⊢
  rotate_left
  have H3 := three w (.cells #[.slice none 0 0, .int .i64 0] 126) (.cells (madeCells #[.int .i64 0, .int .i64 0, .int .i64 0] (s.size * 3)) 118) (.cells #[.pointer (some ⟨pT, 0, none⟩), .int .i64 bl, .slice (some ⟨w.heap.size + 1, 0, none⟩) s.size s.size, .pointer (some ⟨w.heap.size, 0, none⟩), .int .i64 0] 116)
  have HR : Hid (∃ ps hv tn l, RoI base F pT v0 v1 b2 b3 tx mg (w.heap.size + 1 + 1) bl (.slice (some ⟨w.heap.size + 1, 0, none⟩) s.size s.size) (w.heap.size) s w ps hv tn l 0 (((w.alloc (.cells #[.slice none 0 0, .int .i64 0] 126)).alloc (.cells (madeCells #[.int .i64 0, .int .i64 0, .int .i64 0] (s.size * 3)) 118)).alloc (.cells #[.pointer (some ⟨pT, 0, none⟩), .int .i64 bl, .slice (some ⟨w.heap.size + 1, 0, none⟩) s.size s.size, .pointer (some ⟨w.heap.size, 0, none⟩), .int .i64 0] 116)).drew) := hide ⟨_, _, _, _, RoI.first (row_new _ _ _ _ _ _ bl (HT.out.keptB H3.2.2.2) (fun k hk => by have h1 := HT.out.flt k hk; have h2 := HB.out; omega) (by omega) H3.2.1 H3.1 H3.2.2.1 (by have := HB.out; omega) (by have := HB.out; omega) (by have := HB.out; omega) (by omega) (by omega) (by omega)) (by rw [HB.out]; exact H3.2.2.2)⟩
  clear H3
  generalize (((w.alloc (.cells #[.slice none 0 0, .int .i64 0] 126)).alloc (.cells (madeCells #[.int .i64 0, .int .i64 0, .int .i64 0] (s.size * 3)) 118)).alloc (.cells #[.pointer (some ⟨pT, 0, none⟩), .int .i64 bl, .slice (some ⟨w.heap.size + 1, 0, none⟩) s.size s.size, .pointer (some ⟨w.heap.size, 0, none⟩), .int .i64 0] 116)).drew = W0 at *
  generalize w.heap.size + 1 + 1 = q at *
  generalize w.heap.size + 1 = g at *
  generalize w.heap.size = h at HR ⊢
  all_goals
    obtain ⟨ps0, hv0, tn0, l0, HR0⟩ := HR.out
    have HI0 := hide HR0
    clear HR HR0
    go_wp2
    go_loopw [19] (fun i wr => ∃ (k : Nat) (ps : List Pt) (hv : Value) (tn : Int) (l : List Hq.It), i = .int .i64 k ∧ k ≤ s.size ∧ Hid (RoI base F pT v0 v1 b2 b3 tx mg q bl (.slice (some ⟨g, 0, none⟩) s.size s.size) h s w ps hv tn l k wr)) (fun i _ => s.size - (intOf i).toNat)
    case atStart => exact ⟨0, ps0, hv0, tn0, l0, rfl, Nat.zero_le _, HI0⟩
    case round =>
      clear HI0
      obtain ⟨k, ps, hv, tn, l, rfl, hks, HI⟩ := hrel
      obtain ⟨q0, q1, q2, q3, q4, qf⟩ := HI.out.r.cs
      by_cases hlt : k < s.size
      · have hk0 : (0 : Int) ≤ (k : Int) := by omega
        have hk1 : (k : Int) < (s.size : Int) := by omega
        have hgf := HI.out.r.prow
        rw [HI.out.len] at hgf
        have f0 := hgf.frozenAt (k * 3)
        have f1 := hgf.frozenAt (k * 3 + 1)
        have f2 := hgf.frozenAt (k * 3 + 2)
        have g0 := hgf.cellAt (k * 3) (by omega)
        have g1 := hgf.cellAt (k * 3 + 1) (by omega)
        have g2 := hgf.cellAt (k * 3 + 2) (by omega)
        have hps := fl3_get ps k (by rw [HI.out.len]; exact hlt)
        rw [hps.1] at g0
        rw [hps.2.1] at g1
        rw [hps.2.2] at g2
        clear hgf hps
        go_wp2
        go_region
        have eb : wrap64 ((s[k]'(by simpa using hlt)).toNat : Int) = byt s k := by
          have h1 : byt s k = ((s[k]'(by simpa using hlt)).toNat : Int) := by
            unfold byt
            rw [List.getD_eq_getElem?_getD, List.getElem?_eq_getElem (by simpa using hlt)]
            rfl
          have h2 := byt_lt s k
          rw [← h1]
          unfold wrap64
          omega
        simp only [eb]
        obtain ⟨r1, b1⟩ := HI.out.r.setP k (by rw [HI.out.len]; exact hlt) (byt s k) ((k : Int) - 1) ((k : Int) + 1)
        have hd : Below base _ (World.drew _) := belowd base (((wr.setCell ⟨g, k * 3, none⟩ (.int .i64 (byt s k))).setCell ⟨g, k * 3 + 1, none⟩ (.int .i64 ((k : Int) - 1))).setCell ⟨g, k * 3 + 2, none⟩ (.int .i64 ((k : Int) + 1)))
        have HR1 := hide (r1.kept (belowd _ _))
        have HB1 := hide (b1.trans hd)
        clear r1 b1 hd g0 g1 g2 f0 f1 f2 q0 q1 q2 q3 q4 qf eb
        generalize (((wr.setCell ⟨g, k * 3, none⟩ (.int .i64 (byt s k))).setCell ⟨g, k * 3 + 1, none⟩ (.int .i64 ((k : Int) - 1))).setCell ⟨g, k * 3 + 2, none⟩ (.int .i64 ((k : Int) + 1))).drew = w1 at *
        have HAW := hide (await_any HR1.out HI.out.hp hk (by have := HI.out.l1; omega) (by have := HI.out.t0; have := HI.out.t1; omega) (okP_set HI.out.ok (by rw [HI.out.len]; exact hlt) (by have := byt_lt s k; simp; omega)) ((k : Int) - 1) k (by by_cases e : k = 0; · { left; left; omega }; · { right; exact ⟨k - 1, k, by omega, rfl, by rw [List.length_set, HI.out.len]; omega, by rw [List.length_set, HI.out.len]; omega⟩ }))
        go_wp2_with fail
        refine (unhide HAW).mono ?_
        rintro e w2 ⟨rfl, hv2, tn2, l2, r2, hp2, hb2, aw⟩
        have HS := hide (RoI.step hk HI.out hlt r2 hp2 (HB1.out.trans hb2.1) aw)
        clear r2 hp2 hb2 aw HAW
        go_wp2
        go_roundw
        case rel => exact ⟨k + 1, _, hv2, tn2, l2, by go_num, by omega, HS⟩
        case measure => simp [intOf]; omega
      · obtain rfl : k = s.size := by omega
        go_wp2
        go_ret
        refine ⟨q, .slice (some ⟨g, 0, none⟩) s.size s.size, h, ps, hv, tn, l, rfl, ?_, ?_⟩
        · rw [← HB.out]
          exact HI.out.done
        · rw [← HB.out]
          exact HI.out.B
end

end Go.Proofs.Ytlfffalfnnmliaa
