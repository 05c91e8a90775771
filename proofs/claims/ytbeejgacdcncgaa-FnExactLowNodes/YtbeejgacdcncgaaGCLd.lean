/-
  The law's own copies of Low nodes, by their contracts. No statement is proved here.
-/
import Derived.Test.YtbeejgacdcncgaaGCLb
import Derived.Test.YtbeejgacdcncgaaGCLc
namespace Go.Proofs.Ytbeejgacdcncgaa.By
open Go.RowKit
set_option linter.unusedVariables false
set_option linter.unusedSimpArgs false

set_option maxRecDepth 8000 in
set_option maxHeartbeats 8000000 in
theorem toLS (m : Nat) (hM : m ≤ 1048576) : (∀ (g : GL) (a : Option Addr) (l c : Nat) (w : World), g.size ≤ m → SlGL w false a l g → Calls Try.prog 16 #[.slice a l c] w fun e u => ∃ a' c', e = .returned (.slice a' l c') ∧ w.grownBy u none ∧ SlGL (hideW u w.heap.size) false a' l g) ∧
    (∀ (g : GL) (a : Option Addr) (l c : Nat) (w : World), g.size ≤ m → SlGL w true a l g → Calls Try.prog 17 #[.slice a l c] w fun e u => ∃ a' c', e = .returned (.slice a' l c') ∧ w.grownBy u none ∧ SlGL (hideW u w.heap.size) true a' l g) := by
  induction m with
  | zero =>
    constructor
    · intro g a l c w hm h
      have hlen := g.len_le
      have hfl := h.1
      obtain rfl : l = 0 := by omega
      obtain rfl := GL.nil_of_len hfl
      clear h
      have hmk := makeGL0
      go_enter Try.func16, Try.ntmps16
      go_wp2
      refine wp_loop_rounds 1 ?_
      rw [rounds_succ]
      go_wp2
      go_ret
      exact ⟨_, _, rfl, World.grownBy_alloc _ _ _, ⟨rfl, by omega, .inl rfl⟩⟩
    · intro g a l c w hm h
      have hlen := g.len_le
      have hfl := h.1
      obtain rfl : l = 0 := by omega
      obtain rfl := GL.nil_of_len hfl
      clear h
      have hmk := makeGLA0
      go_enter Try.func17, Try.ntmps17
      go_wp2
      refine wp_loop_rounds 1 ?_
      rw [rounds_succ]
      go_wp2
      go_ret
      exact ⟨_, _, rfl, World.grownBy_alloc _ _ _, ⟨rfl, by omega, .inl rfl⟩⟩
  | succ m ih =>
    have IH : Hid _ := ih (by omega)
    clear ih
    constructor
    · intro g a l c w hm h
      have hlen := g.len_le
      have hl := h.2.1
      have hfl := h.1
      rcases h.cases with ⟨rfl, rfl⟩ | ⟨b, o, rfl, hin, hpos⟩
      · have hmk := makeGL0
        go_enter Try.func16, Try.ntmps16
        go_wp2
        refine wp_loop_rounds 1 ?_
        rw [rounds_succ]
        go_wp2
        go_ret
        exact ⟨_, _, rfl, World.grownBy_alloc _ _ _, ⟨rfl, by omega, .inl rfl⟩⟩
      have hmk := makeGL l (by omega)
      have hb0 := madeGL_blk w l
      have IN : Hid (InGL w w false g b o) := hin
      have HB : Hid _ := hb0
      clear hin h hb0
      go_enter Try.func16, Try.ntmps16
      go_wp2
      go_loopw [4] (fun i wr => ∃ (j : Nat) (P R : GL), j ≤ l ∧ i = .int .i64 j ∧ P.len = j ∧ R.len + j = l ∧ R.size ≤ m + 1 ∧ Hid (w.grownBy wr none ∧ InGL w w false R b (o + j * 13) ∧ BlkN wr 38 w.heap.size (l * 13) ∧ InGL wr (hideW wr (w.heap.size + 1)) false P w.heap.size 0 ∧ P.app R = g)) (fun i _ => l - (intOf i).toNat)
      case atStart => exact ⟨0, .nil, g, Nat.zero_le _, rfl, rfl, by omega, hm, World.grownBy_alloc _ _ _, by simpa using IN.out, HB.out, trivial, rfl⟩
      case round =>
        obtain ⟨j, P, R, hj, rfl, hPl, hRl, hRs, HR⟩ := hrel
        by_cases hlt : j < l
        · obtain ⟨q, hq⟩ : ∃ q, R.len = q + 1 := ⟨R.len - 1, by omega⟩
          obtain ⟨hc, hv, p, kids, alts, R', rfl, hR'⟩ := GL.cons_of_len hq
          obtain ⟨hg, hR, hB, hP, hcs⟩ := HR.out
          obtain ⟨hhv, a1, l1, c1, a2, l2, c2, a3, l3, c3, a4, l4, c4, a5, l5, c5, ⟨k0, k1, k2, k3, k4, k5, k6, k7, k8, k9, k10, k11, k12⟩, hnd, hR2⟩ := hR.kid
          subst hhv
          rw [show o + j * 13 + 13 = o + (j + 1) * 13 by omega] at hR2
          simp only [GL.size] at hRs
          simp only [GL.len] at hRl
          have hks : kids.size ≤ m := by omega
          have has : alts.size ≤ m := by omega
          have hps : szPL p ≤ 1048576 := by omega
          have hhs : 0 ≤ 1048576 := by omega
          have k0 := hg.cell k0 (by simp)
          have k1 := hg.cell k1 (by simp)
          have k2 := hg.cell k2 (by simp)
          have k3 := hg.cell k3 (by simp)
          have k4 := hg.cell k4 (by simp)
          have k5 := hg.cell k5 (by simp)
          have k6 := hg.cell k6 (by simp)
          have k7 := hg.cell k7 (by simp)
          have k8 := hg.cell k8 (by simp)
          have k9 := hg.cell k9 (by simp)
          have k10 := hg.cell k10 (by simp)
          have k11 := hg.cell k11 (by simp)
          have k12 := hg.cell k12 (by simp)
          have CC : Hid _ := toLT_of p kids alts a1 l1 c1 a2 l2 c2 a3 l3 c3 a4 l4 c4 a5 l5 c5 wr (hnd.none hg) hps (fun u2 hu2 => IH.out.1 kids a4 l4 c4 u2 hks ((hnd.none hg).2.2.2.1.none hu2)) (fun u2 hu2 => IH.out.2 alts a5 l5 c5 u2 has ((hnd.none hg).2.2.2.2.none hu2))
          have FX : Hid (w.grownBy wr none ∧ InGL w w false R' b (o + (j + 1) * 13) ∧ BlkN wr 38 w.heap.size (l * 13) ∧ InGL wr (hideW wr (w.heap.size + 1)) false P w.heap.size 0 ∧ (P.app (.cons hc [] p kids alts .nil)).app R' = g) := ⟨hg, hR2, hB, hP, by rw [GL.app_assoc]; exact hcs⟩
          clear hnd hR hR2 hg hB hP hcs IN HR hmk HB 
          go_wp2_with fail
          refine Calls.mono CC.out ?_
          rintro e u ⟨t1, w1, t2, w2, t3, w3, t4, w4, t5, w5, he, hgu, hr⟩
          subst he
          have hBu := FX.out.2.2.1.of (hgu.block _ FX.out.2.2.1.lt (by simp))
          obtain ⟨_, qq0⟩ := hBu.has (j * 13) (by omega)
          have ff0 := hBu.free (j * 13)
          obtain ⟨_, qq1⟩ := hBu.has (j * 13 + 1) (by omega)
          have ff1 := hBu.free (j * 13 + 1)
          obtain ⟨_, qq2⟩ := hBu.has (j * 13 + 2) (by omega)
          have ff2 := hBu.free (j * 13 + 2)
          obtain ⟨_, qq3⟩ := hBu.has (j * 13 + 3) (by omega)
          have ff3 := hBu.free (j * 13 + 3)
          obtain ⟨_, qq4⟩ := hBu.has (j * 13 + 4) (by omega)
          have ff4 := hBu.free (j * 13 + 4)
          obtain ⟨_, qq5⟩ := hBu.has (j * 13 + 5) (by omega)
          have ff5 := hBu.free (j * 13 + 5)
          obtain ⟨_, qq6⟩ := hBu.has (j * 13 + 6) (by omega)
          have ff6 := hBu.free (j * 13 + 6)
          obtain ⟨_, qq7⟩ := hBu.has (j * 13 + 7) (by omega)
          have ff7 := hBu.free (j * 13 + 7)
          obtain ⟨_, qq8⟩ := hBu.has (j * 13 + 8) (by omega)
          have ff8 := hBu.free (j * 13 + 8)
          obtain ⟨_, qq9⟩ := hBu.has (j * 13 + 9) (by omega)
          have ff9 := hBu.free (j * 13 + 9)
          obtain ⟨_, qq10⟩ := hBu.has (j * 13 + 10) (by omega)
          have ff10 := hBu.free (j * 13 + 10)
          obtain ⟨_, qq11⟩ := hBu.has (j * 13 + 11) (by omega)
          have ff11 := hBu.free (j * 13 + 11)
          obtain ⟨_, qq12⟩ := hBu.has (j * 13 + 12) (by omega)
          have ff12 := hBu.free (j * 13 + 12)
          have FY : Hid (BlkN u 38 w.heap.size (l * 13) ∧ wr.grownBy u none ∧ NdL (hideW u wr.heap.size) p kids alts t1 l1 t2 l2 t3 l3 t4 l4 t5 l5) := ⟨hBu, hgu, hr⟩
          clear CC hgu hr hBu k0 k1 k2 k3 k4 k5 k6 k7 k8 k9 k10 k11 k12
          simp only []
          go_wp2
          obtain ⟨hg, hR2, hB, hP, hcs⟩ := FX.out
          obtain ⟨hBu, hgu, hr⟩ := FY.out
          have hsz := hB.lt
          obtain ⟨hB3, hk3, tq, hoth⟩ := hBu.put13 (j * 13) (by omega) (.int .i64 p.k) (.int .i64 p.n) (.int .i64 p.m) (.int .i64 p.c) (.slice t1 l1 w1) (.int .i64 p.tk) (.int .i64 p.tn) (.slice t2 l2 w2) (.int .i64 p.uk) (.int .i64 p.un) (.slice t3 l3 w3) (.slice t4 l4 w4) (.slice t5 l5 w5)
          have hfx : ∀ i, w.heap.size + 1 ≤ i → i < wr.heap.size → _ = wr.heap[i]? := fun i h1 h2 => (hk3.block i (Nat.lt_of_lt_of_le h2 hgu.size) (by simp; omega)).trans (hgu.block i h2 (by simp))
          have hfu : ∀ i, wr.heap.size ≤ i → i < u.heap.size → _ = u.heap[i]? := fun i h1 h2 => hk3.block i h2 (by simp; omega)
          have hwd : wdL false = 13 := rfl
          have hP2 := hP.move (b' := w.heap.size) (off' := 0) (fun i v hi hv => (hoth (0 + i) (by rw [hPl, hwd] at hi; omega)).trans (hgu.cell hv (by simp))) (CLe.hide (Nat.le_refl _) hfx)
          have cl := CLe.hide (lo' := w.heap.size + 1) (by omega) hfu
          have hQ := hP2.app (Q := (.cons hc [] p kids alts .nil)) (by rw [hPl, hwd, Nat.zero_add]; exact InGL.mkKid ⟨tq.1, tq.2.1, tq.2.2.1, tq.2.2.2.1, tq.2.2.2.2.1, tq.2.2.2.2.2.1, tq.2.2.2.2.2.2.1, tq.2.2.2.2.2.2.2.1, tq.2.2.2.2.2.2.2.2.1, tq.2.2.2.2.2.2.2.2.2.1, tq.2.2.2.2.2.2.2.2.2.2.1, tq.2.2.2.2.2.2.2.2.2.2.2.1, tq.2.2.2.2.2.2.2.2.2.2.2.2⟩ (hr.le cl))
          have hlP : (P.app (.cons hc [] p kids alts .nil)).len = j + 1 := by rw [GL.app_len, hPl]; rfl
          go_roundw
          case rel => exact ⟨j + 1, P.app (.cons hc [] p kids alts .nil), R', by omega, by go_num, hlP, by omega, by omega, grown_into (grown_trans hg hgu) hk3 (Nat.le_refl _), hR2, hB3, hQ, hcs⟩
          case measure => simp [intOf]; omega
        · obtain rfl : j = l := by omega
          obtain rfl : R = .nil := GL.nil_of_len (by omega)
          obtain ⟨hg, -, hB, hP, hcs⟩ := HR.out
          rw [GL.app_nil] at hcs
          subst hcs
          have FQ : Hid (w.grownBy wr none ∧ SlGL (hideW wr w.heap.size) false (some ⟨w.heap.size, 0, none⟩) j P) := ⟨hg, hPl, by omega, .inr ⟨_, _, rfl, hP.move (fun i v hi hv => (hideW_cell (Nat.le_refl _)).trans hv) (CLe.hide (Nat.le_succ _) (fun _ _ _ => rfl))⟩⟩
          clear hg hB hP HR IN HB hmk
          go_wp2
          go_ret
          exact ⟨_, _, rfl, FQ.out.1, FQ.out.2⟩
    · intro g a l c w hm h
      have hlen := g.len_le
      have hl := h.2.1
      have hfl := h.1
      rcases h.cases with ⟨rfl, rfl⟩ | ⟨b, o, rfl, hin, hpos⟩
      · have hmk := makeGLA0
        go_enter Try.func17, Try.ntmps17
        go_wp2
        refine wp_loop_rounds 1 ?_
        rw [rounds_succ]
        go_wp2
        go_ret
        exact ⟨_, _, rfl, World.grownBy_alloc _ _ _, ⟨rfl, by omega, .inl rfl⟩⟩
      have hmk := makeGLA l (by omega)
      have hb0 := madeGLA_blk w l
      have IN : Hid (InGL w w true g b o) := hin
      have HB : Hid _ := hb0
      clear hin h hb0
      go_enter Try.func17, Try.ntmps17
      go_wp2
      go_loopw [4] (fun i wr => ∃ (j : Nat) (P R : GL), j ≤ l ∧ i = .int .i64 j ∧ P.len = j ∧ R.len + j = l ∧ R.size ≤ m + 1 ∧ Hid (w.grownBy wr none ∧ InGL w w true R b (o + j * 15) ∧ BlkN wr 65 w.heap.size (l * 15) ∧ InGL wr (hideW wr (w.heap.size + 1)) true P w.heap.size 0 ∧ P.app R = g)) (fun i _ => l - (intOf i).toNat)
      case atStart => exact ⟨0, .nil, g, Nat.zero_le _, rfl, rfl, by omega, hm, World.grownBy_alloc _ _ _, by simpa using IN.out, HB.out, trivial, rfl⟩
      case round =>
        obtain ⟨j, P, R, hj, rfl, hPl, hRl, hRs, HR⟩ := hrel
        by_cases hlt : j < l
        · obtain ⟨q, hq⟩ : ∃ q, R.len = q + 1 := ⟨R.len - 1, by omega⟩
          obtain ⟨hc, hv, p, kids, alts, R', rfl, hR'⟩ := GL.cons_of_len hq
          obtain ⟨hg, hR, hB, hP, hcs⟩ := HR.out
          obtain ⟨e0, q0, d0, a1, l1, c1, a2, l2, c2, a3, l3, c3, a4, l4, c4, a5, l5, c5, ⟨m0, m1⟩, hgd, ⟨k0, k1, k2, k3, k4, k5, k6, k7, k8, k9, k10, k11, k12⟩, hnd, hR2⟩ := hR.alt
          rw [show o + j * 15 + 15 = o + (j + 1) * 15 by omega] at hR2
          simp only [GL.size] at hRs
          simp only [GL.len] at hRl
          have hks : kids.size ≤ m := by omega
          have has : alts.size ≤ m := by omega
          have hps : szPL p ≤ 1048576 := by omega
          have hhs : hv.length ≤ 1048576 := by omega
          have m0 := hg.cell m0 (by simp)
          have m1 := hg.cell m1 (by simp)
          have k0 := hg.cell k0 (by simp)
          have k1 := hg.cell k1 (by simp)
          have k2 := hg.cell k2 (by simp)
          have k3 := hg.cell k3 (by simp)
          have k4 := hg.cell k4 (by simp)
          have k5 := hg.cell k5 (by simp)
          have k6 := hg.cell k6 (by simp)
          have k7 := hg.cell k7 (by simp)
          have k8 := hg.cell k8 (by simp)
          have k9 := hg.cell k9 (by simp)
          have k10 := hg.cell k10 (by simp)
          have k11 := hg.cell k11 (by simp)
          have k12 := hg.cell k12 (by simp)
          have CC : Hid _ := toLA_of hc hv p kids alts e0 q0 d0 a1 l1 c1 a2 l2 c2 a3 l3 c3 a4 l4 c4 a5 l5 c5 wr (hgd.none hg) hhs (fun u hu => toLT_of p kids alts a1 l1 c1 a2 l2 c2 a3 l3 c3 a4 l4 c4 a5 l5 c5 u ((hnd.none hg).none hu) hps (fun u2 hu2 => IH.out.1 kids a4 l4 c4 u2 hks (((hnd.none hg).none hu).2.2.2.1.none hu2)) (fun u2 hu2 => IH.out.2 alts a5 l5 c5 u2 has (((hnd.none hg).none hu).2.2.2.2.none hu2)))
          have FX : Hid (w.grownBy wr none ∧ InGL w w true R' b (o + (j + 1) * 15) ∧ BlkN wr 65 w.heap.size (l * 15) ∧ InGL wr (hideW wr (w.heap.size + 1)) true P w.heap.size 0 ∧ (P.app (.cons hc hv p kids alts .nil)).app R' = g) := ⟨hg, hR2, hB, hP, by rw [GL.app_assoc]; exact hcs⟩
          clear hnd hR hR2 hg hB hP hcs IN HR hmk HB hgd
          go_wp2_with fail
          refine Calls.mono CC.out ?_
          rintro e u ⟨x0, z0, t1, w1, t2, w2, t3, w3, t4, w4, t5, w5, he, hgu, hr⟩
          subst he
          have hBu := FX.out.2.2.1.of (hgu.block _ FX.out.2.2.1.lt (by simp))
          obtain ⟨_, qq0⟩ := hBu.has (j * 15) (by omega)
          have ff0 := hBu.free (j * 15)
          obtain ⟨_, qq1⟩ := hBu.has (j * 15 + 1) (by omega)
          have ff1 := hBu.free (j * 15 + 1)
          obtain ⟨_, qq2⟩ := hBu.has (j * 15 + 2) (by omega)
          have ff2 := hBu.free (j * 15 + 2)
          obtain ⟨_, qq3⟩ := hBu.has (j * 15 + 3) (by omega)
          have ff3 := hBu.free (j * 15 + 3)
          obtain ⟨_, qq4⟩ := hBu.has (j * 15 + 4) (by omega)
          have ff4 := hBu.free (j * 15 + 4)
          obtain ⟨_, qq5⟩ := hBu.has (j * 15 + 5) (by omega)
          have ff5 := hBu.free (j * 15 + 5)
          obtain ⟨_, qq6⟩ := hBu.has (j * 15 + 6) (by omega)
          have ff6 := hBu.free (j * 15 + 6)
          obtain ⟨_, qq7⟩ := hBu.has (j * 15 + 7) (by omega)
          have ff7 := hBu.free (j * 15 + 7)
          obtain ⟨_, qq8⟩ := hBu.has (j * 15 + 8) (by omega)
          have ff8 := hBu.free (j * 15 + 8)
          obtain ⟨_, qq9⟩ := hBu.has (j * 15 + 9) (by omega)
          have ff9 := hBu.free (j * 15 + 9)
          obtain ⟨_, qq10⟩ := hBu.has (j * 15 + 10) (by omega)
          have ff10 := hBu.free (j * 15 + 10)
          obtain ⟨_, qq11⟩ := hBu.has (j * 15 + 11) (by omega)
          have ff11 := hBu.free (j * 15 + 11)
          obtain ⟨_, qq12⟩ := hBu.has (j * 15 + 12) (by omega)
          have ff12 := hBu.free (j * 15 + 12)
          obtain ⟨_, qq13⟩ := hBu.has (j * 15 + 13) (by omega)
          have ff13 := hBu.free (j * 15 + 13)
          obtain ⟨_, qq14⟩ := hBu.has (j * 15 + 14) (by omega)
          have ff14 := hBu.free (j * 15 + 14)
          have FY : Hid (BlkN u 65 w.heap.size (l * 15) ∧ wr.grownBy u none ∧ (RdI (hideW u wr.heap.size) x0 q0 hv ∧ NdL (hideW u wr.heap.size) p kids alts t1 l1 t2 l2 t3 l3 t4 l4 t5 l5)) := ⟨hBu, hgu, hr⟩
          clear CC hgu hr hBu m0 m1 k0 k1 k2 k3 k4 k5 k6 k7 k8 k9 k10 k11 k12
          simp only []
          go_wp2
          obtain ⟨hg, hR2, hB, hP, hcs⟩ := FX.out
          obtain ⟨hBu, hgu, hr⟩ := FY.out
          have hsz := hB.lt
          obtain ⟨hB3, hk3, tq, hoth⟩ := hBu.put15 (j * 15) (by omega) (.int .i64 hc) (.slice x0 q0 z0) (.int .i64 p.k) (.int .i64 p.n) (.int .i64 p.m) (.int .i64 p.c) (.slice t1 l1 w1) (.int .i64 p.tk) (.int .i64 p.tn) (.slice t2 l2 w2) (.int .i64 p.uk) (.int .i64 p.un) (.slice t3 l3 w3) (.slice t4 l4 w4) (.slice t5 l5 w5)
          have hfx : ∀ i, w.heap.size + 1 ≤ i → i < wr.heap.size → _ = wr.heap[i]? := fun i h1 h2 => (hk3.block i (Nat.lt_of_lt_of_le h2 hgu.size) (by simp; omega)).trans (hgu.block i h2 (by simp))
          have hfu : ∀ i, wr.heap.size ≤ i → i < u.heap.size → _ = u.heap[i]? := fun i h1 h2 => hk3.block i h2 (by simp; omega)
          have hwd : wdL true = 15 := rfl
          have hP2 := hP.move (b' := w.heap.size) (off' := 0) (fun i v hi hv => (hoth (0 + i) (by rw [hPl, hwd] at hi; omega)).trans (hgu.cell hv (by simp))) (CLe.hide (Nat.le_refl _) hfx)
          have cl := CLe.hide (lo' := w.heap.size + 1) (by omega) hfu
          have hQ := hP2.app (Q := (.cons hc hv p kids alts .nil)) (by rw [hPl, hwd, Nat.zero_add]; exact InGL.mkAlt ⟨tq.1, tq.2.1⟩ (hr.1.le cl) ⟨tq.2.2.1, tq.2.2.2.1, tq.2.2.2.2.1, tq.2.2.2.2.2.1, tq.2.2.2.2.2.2.1, tq.2.2.2.2.2.2.2.1, tq.2.2.2.2.2.2.2.2.1, tq.2.2.2.2.2.2.2.2.2.1, tq.2.2.2.2.2.2.2.2.2.2.1, tq.2.2.2.2.2.2.2.2.2.2.2.1, tq.2.2.2.2.2.2.2.2.2.2.2.2.1, tq.2.2.2.2.2.2.2.2.2.2.2.2.2.1, tq.2.2.2.2.2.2.2.2.2.2.2.2.2.2⟩ (hr.2.le cl))
          have hlP : (P.app (.cons hc hv p kids alts .nil)).len = j + 1 := by rw [GL.app_len, hPl]; rfl
          go_roundw
          case rel => exact ⟨j + 1, P.app (.cons hc hv p kids alts .nil), R', by omega, by go_num, hlP, by omega, by omega, grown_into (grown_trans hg hgu) hk3 (Nat.le_refl _), hR2, hB3, hQ, hcs⟩
          case measure => simp [intOf]; omega
        · obtain rfl : j = l := by omega
          obtain rfl : R = .nil := GL.nil_of_len (by omega)
          obtain ⟨hg, -, hB, hP, hcs⟩ := HR.out
          rw [GL.app_nil] at hcs
          subst hcs
          have FQ : Hid (w.grownBy wr none ∧ SlGL (hideW wr w.heap.size) true (some ⟨w.heap.size, 0, none⟩) j P) := ⟨hg, hPl, by omega, .inr ⟨_, _, rfl, hP.move (fun i v hi hv => (hideW_cell (Nat.le_refl _)).trans hv) (CLe.hide (Nat.le_succ _) (fun _ _ _ => rfl))⟩⟩
          clear hg hB hP HR IN HB hmk
          go_wp2
          go_ret
          exact ⟨_, _, rfl, FQ.out.1, FQ.out.2⟩

theorem toLT (p : PL) (kids alts : GL) (a1 : Option Addr) (l1 c1 : Nat) (a2 : Option Addr) (l2 c2 : Nat) (a3 : Option Addr) (l3 c3 : Nat) (a4 : Option Addr) (l4 c4 : Nat) (a5 : Option Addr) (l5 c5 : Nat) (w : World) (h : NdL w p kids alts a1 l1 a2 l2 a3 l3 a4 l4 a5 l5) (hs : szPL p + kids.size + alts.size ≤ 1048576) :
    Calls Try.prog 6 #[.agg #[.int .i64 p.k, .int .i64 p.n, .int .i64 p.m, .int .i64 p.c, .slice a1 l1 c1, .int .i64 p.tk, .int .i64 p.tn, .slice a2 l2 c2, .int .i64 p.uk, .int .i64 p.un, .slice a3 l3 c3, .slice a4 l4 c4, .slice a5 l5 c5]] w fun e u => ∃ t1 w1 t2 w2 t3 w3 t4 w4 t5 w5, e = .returned (.agg #[.int .i64 p.k, .int .i64 p.n, .int .i64 p.m, .int .i64 p.c, .slice t1 l1 w1, .int .i64 p.tk, .int .i64 p.tn, .slice t2 l2 w2, .int .i64 p.uk, .int .i64 p.un, .slice t3 l3 w3, .slice t4 l4 w4, .slice t5 l5 w5]) ∧ w.grownBy u none ∧ NdL (hideW u w.heap.size) p kids alts t1 l1 t2 l2 t3 l3 t4 l4 t5 l5 :=
  toLT_of p kids alts a1 l1 c1 a2 l2 c2 a3 l3 c3 a4 l4 c4 a5 l5 c5 w h (by omega) (fun u hu => (toLS kids.size (by omega)).1 kids a4 l4 c4 u (Nat.le_refl _) (h.2.2.2.1.none hu)) (fun u hu => (toLS alts.size (by omega)).2 alts a5 l5 c5 u (Nat.le_refl _) (h.2.2.2.2.none hu))
end Go.Proofs.Ytbeejgacdcncgaa.By
