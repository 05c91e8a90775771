/-
  The law's own copies of Expr nodes, by their contracts. No statement is proved here.
-/
import Derived.Test.YtjjaocoahepdaaaDoorGCEb
import Derived.Test.YtjjaocoahepdaaaDoorGCEc
namespace Go.Proofs.YtjjaocoahepdaaaDoor.By
open Go.RowKit
set_option linter.unusedVariables false
set_option linter.unusedSimpArgs false

set_option maxRecDepth 8000 in
set_option maxHeartbeats 8000000 in
theorem toES (m : Nat) (hM : m ≤ 1048576) : (∀ (g : GE) (a : Option Addr) (l c : Nat) (w : World), g.size ≤ m → SlGE w false a l c g → Calls Tryd.prog 14 #[.slice a l c] w fun e u => ∃ a' c', e = .returned (.slice a' l c') ∧ w.grownBy u none ∧ SlGE (hideW u w.heap.size) false a' l c' g) ∧
    (∀ (g : GE) (a : Option Addr) (l c : Nat) (w : World), g.size ≤ m → SlGE w true a l c g → Calls Tryd.prog 15 #[.slice a l c] w fun e u => ∃ a' c', e = .returned (.slice a' l c') ∧ w.grownBy u none ∧ SlGE (hideW u w.heap.size) true a' l c' g) := by
  induction m with
  | zero =>
    constructor
    · intro g a l c w hm h
      have hlen := g.len_le
      have hfl := h.1
      obtain rfl : l = 0 := by omega
      obtain rfl := GE.nil_of_len hfl
      clear h
      have hmk := makeGE0
      go_enter Tryd.func14, Tryd.ntmps14
      go_wp2
      refine wp_loop_rounds 1 ?_
      rw [rounds_succ]
      go_wp2
      go_ret
      exact ⟨_, _, rfl, World.grownBy_alloc _ _ _, ⟨rfl, by omega, ⟨Nat.le_refl _, fun h => by cases h⟩, .inl rfl⟩⟩
    · intro g a l c w hm h
      have hlen := g.len_le
      have hfl := h.1
      obtain rfl : l = 0 := by omega
      obtain rfl := GE.nil_of_len hfl
      clear h
      have hmk := makeGEA0
      go_enter Tryd.func15, Tryd.ntmps15
      go_wp2
      refine wp_loop_rounds 1 ?_
      rw [rounds_succ]
      go_wp2
      go_ret
      exact ⟨_, _, rfl, World.grownBy_alloc _ _ _, ⟨rfl, by omega, ⟨Nat.le_refl _, fun h => by cases h⟩, .inl rfl⟩⟩
  | succ m ih =>
    have IH : Hid _ := ih (by omega)
    clear ih
    constructor
    · intro g a l c w hm h
      have hlen := g.len_le
      have hl := h.2.1
      have hfl := h.1
      rcases h.cases with ⟨rfl, rfl⟩ | ⟨b, o, rfl, hin, hpos⟩
      · have hmk := makeGE0
        go_enter Tryd.func14, Tryd.ntmps14
        go_wp2
        refine wp_loop_rounds 1 ?_
        rw [rounds_succ]
        go_wp2
        go_ret
        exact ⟨_, _, rfl, World.grownBy_alloc _ _ _, ⟨rfl, by omega, ⟨Nat.le_refl _, fun h => by cases h⟩, .inl rfl⟩⟩
      have hmk := makeGE l (by omega)
      have hb0 := madeGE_blk w l
      have IN : Hid (InGE w w false g b o) := hin
      have HB : Hid _ := hb0
      clear hin h hb0
      go_enter Tryd.func14, Tryd.ntmps14
      go_wp2
      go_loopw [4] (fun i wr => ∃ (j : Nat) (P R : GE), j ≤ l ∧ i = .int .i64 j ∧ P.len = j ∧ R.len + j = l ∧ R.size ≤ m + 1 ∧ Hid (w.grownBy wr none ∧ InGE w w false R b (o + j * 7) ∧ BlkN wr 32 w.heap.size (l * 7) ∧ InGE wr (hideW wr (w.heap.size + 1)) false P w.heap.size 0 ∧ P.app R = g)) (fun i _ => l - (intOf i).toNat)
      case atStart => exact ⟨0, .nil, g, Nat.zero_le _, rfl, rfl, by omega, hm, World.grownBy_alloc _ _ _, by simpa using IN.out, HB.out, trivial, rfl⟩
      case round =>
        obtain ⟨j, P, R, hj, rfl, hPl, hRl, hRs, HR⟩ := hrel
        by_cases hlt : j < l
        · obtain ⟨q, hq⟩ : ∃ q, R.len = q + 1 := ⟨R.len - 1, by omega⟩
          obtain ⟨hc, hv, p, kids, alts, R', rfl, hR'⟩ := GE.cons_of_len hq
          obtain ⟨hg, hR, hB, hP, hcs⟩ := HR.out
          obtain ⟨hhv, a1, l1, c1, a2, l2, c2, a3, l3, c3, a4, l4, c4, a5, l5, c5, ⟨k0, k1, k2, k3, k4, k5, k6⟩, hnd, hR2⟩ := hR.kid
          obtain ⟨rfl, rfl⟩ := hhv
          rw [show o + j * 7 + 7 = o + (j + 1) * 7 by omega] at hR2
          simp only [GE.size] at hRs
          simp only [GE.len] at hRl
          have hks : kids.size ≤ m := by omega
          have has : alts.size ≤ m := by omega
          have hps : szPE p ≤ 1048576 := by omega
          have hhs : 0 ≤ 1048576 := by omega
          have k0 := hg.cell k0 (by simp)
          have k1 := hg.cell k1 (by simp)
          have k2 := hg.cell k2 (by simp)
          have k3 := hg.cell k3 (by simp)
          have k4 := hg.cell k4 (by simp)
          have k5 := hg.cell k5 (by simp)
          have k6 := hg.cell k6 (by simp)
          have CC : Hid _ := toET_of p kids alts a1 l1 c1 a2 l2 c2 a3 l3 c3 a4 l4 c4 a5 l5 c5 wr (hnd.none hg) hps (fun u2 hu2 => IH.out.1 kids a4 l4 c4 u2 hks ((hnd.none hg).2.2.2.1.none hu2)) (fun u2 hu2 => IH.out.2 alts a5 l5 c5 u2 has ((hnd.none hg).2.2.2.2.none hu2))
          have FX : Hid (w.grownBy wr none ∧ InGE w w false R' b (o + (j + 1) * 7) ∧ BlkN wr 32 w.heap.size (l * 7) ∧ InGE wr (hideW wr (w.heap.size + 1)) false P w.heap.size 0 ∧ (P.app (.cons [] [] p kids alts .nil)).app R' = g) := ⟨hg, hR2, hB, hP, by rw [GE.app_assoc]; exact hcs⟩
          clear hnd hR hR2 hg hB hP hcs IN HR hmk HB 
          go_wp2_with fail
          refine Calls.mono CC.out ?_
          rintro e u ⟨t1, w1, t2, w2, t3, w3, t4, w4, t5, w5, he, hgu, hr⟩
          subst he
          have hBu := FX.out.2.2.1.of (hgu.block _ FX.out.2.2.1.lt (by simp))
          obtain ⟨_, qq0⟩ := hBu.has (j * 7) (by omega)
          have ff0 := hBu.free (j * 7)
          obtain ⟨_, qq1⟩ := hBu.has (j * 7 + 1) (by omega)
          have ff1 := hBu.free (j * 7 + 1)
          obtain ⟨_, qq2⟩ := hBu.has (j * 7 + 2) (by omega)
          have ff2 := hBu.free (j * 7 + 2)
          obtain ⟨_, qq3⟩ := hBu.has (j * 7 + 3) (by omega)
          have ff3 := hBu.free (j * 7 + 3)
          obtain ⟨_, qq4⟩ := hBu.has (j * 7 + 4) (by omega)
          have ff4 := hBu.free (j * 7 + 4)
          obtain ⟨_, qq5⟩ := hBu.has (j * 7 + 5) (by omega)
          have ff5 := hBu.free (j * 7 + 5)
          obtain ⟨_, qq6⟩ := hBu.has (j * 7 + 6) (by omega)
          have ff6 := hBu.free (j * 7 + 6)
          have FY : Hid (BlkN u 32 w.heap.size (l * 7) ∧ wr.grownBy u none ∧ NdE (hideW u wr.heap.size) p kids alts t1 l1 w1 t2 l2 w2 t3 l3 w3 t4 l4 w4 t5 l5 w5) := ⟨hBu, hgu, hr⟩
          clear CC hgu hr hBu k0 k1 k2 k3 k4 k5 k6
          simp only []
          go_wp2
          obtain ⟨hg, hR2, hB, hP, hcs⟩ := FX.out
          obtain ⟨hBu, hgu, hr⟩ := FY.out
          have hsz := hB.lt
          obtain ⟨hB3, hk3, tq, hoth⟩ := hBu.put7 (j * 7) (by omega) (.int .i64 p.k) (.int .i64 p.n) (.slice t1 l1 w1) (.slice t2 l2 w2) (.slice t3 l3 w3) (.slice t4 l4 w4) (.slice t5 l5 w5)
          have hfx : ∀ i, w.heap.size + 1 ≤ i → i < wr.heap.size → _ = wr.heap[i]? := fun i h1 h2 => (hk3.block i (Nat.lt_of_lt_of_le h2 hgu.size) (by simp; omega)).trans (hgu.block i h2 (by simp))
          have hfu : ∀ i, wr.heap.size ≤ i → i < u.heap.size → _ = u.heap[i]? := fun i h1 h2 => hk3.block i h2 (by simp; omega)
          have hwd : wdE false = 7 := rfl
          have hP2 := hP.move (b' := w.heap.size) (off' := 0) (fun i v hi hv => (hoth (0 + i) (by rw [hPl, hwd] at hi; omega)).trans (hgu.cell hv (by simp))) (CLe.hide (Nat.le_refl _) hfx)
          have cl := CLe.hide (lo' := w.heap.size + 1) (by omega) hfu
          have hQ := hP2.app (Q := (.cons [] [] p kids alts .nil)) (by rw [hPl, hwd, Nat.zero_add]; exact InGE.mkKid ⟨tq.1, tq.2.1, tq.2.2.1, tq.2.2.2.1, tq.2.2.2.2.1, tq.2.2.2.2.2.1, tq.2.2.2.2.2.2⟩ (hr.le cl))
          have hlP : (P.app (.cons [] [] p kids alts .nil)).len = j + 1 := by rw [GE.app_len, hPl]; rfl
          go_roundw
          case rel => exact ⟨j + 1, P.app (.cons [] [] p kids alts .nil), R', by omega, by go_num, hlP, by omega, by omega, grown_into (grown_trans hg hgu) hk3 (Nat.le_refl _), hR2, hB3, hQ, hcs⟩
          case measure => simp [intOf]; omega
        · obtain rfl : j = l := by omega
          obtain rfl : R = .nil := GE.nil_of_len (by omega)
          obtain ⟨hg, -, hB, hP, hcs⟩ := HR.out
          rw [GE.app_nil] at hcs
          subst hcs
          have FQ : Hid (w.grownBy wr none ∧ SlGE (hideW wr w.heap.size) false (some ⟨w.heap.size, 0, none⟩) j j P) := ⟨hg, hPl, by omega, ⟨Nat.le_refl _, fun h => by cases h⟩, .inr ⟨_, _, rfl, hP.move (fun i v hi hv => (hideW_cell (Nat.le_refl _)).trans hv) (CLe.hide (Nat.le_succ _) (fun _ _ _ => rfl))⟩⟩
          clear hg hB hP HR IN HB hmk
          go_wp2
          go_ret
          exact ⟨_, _, rfl, FQ.out.1, FQ.out.2⟩
    · intro g a l c w hm h
      have hlen := g.len_le
      have hl := h.2.1
      have hfl := h.1
      rcases h.cases with ⟨rfl, rfl⟩ | ⟨b, o, rfl, hin, hpos⟩
      · have hmk := makeGEA0
        go_enter Tryd.func15, Tryd.ntmps15
        go_wp2
        refine wp_loop_rounds 1 ?_
        rw [rounds_succ]
        go_wp2
        go_ret
        exact ⟨_, _, rfl, World.grownBy_alloc _ _ _, ⟨rfl, by omega, ⟨Nat.le_refl _, fun h => by cases h⟩, .inl rfl⟩⟩
      have hmk := makeGEA l (by omega)
      have hb0 := madeGEA_blk w l
      have IN : Hid (InGE w w true g b o) := hin
      have HB : Hid _ := hb0
      clear hin h hb0
      go_enter Tryd.func15, Tryd.ntmps15
      go_wp2
      go_loopw [4] (fun i wr => ∃ (j : Nat) (P R : GE), j ≤ l ∧ i = .int .i64 j ∧ P.len = j ∧ R.len + j = l ∧ R.size ≤ m + 1 ∧ Hid (w.grownBy wr none ∧ InGE w w true R b (o + j * 9) ∧ BlkN wr 58 w.heap.size (l * 9) ∧ InGE wr (hideW wr (w.heap.size + 1)) true P w.heap.size 0 ∧ P.app R = g)) (fun i _ => l - (intOf i).toNat)
      case atStart => exact ⟨0, .nil, g, Nat.zero_le _, rfl, rfl, by omega, hm, World.grownBy_alloc _ _ _, by simpa using IN.out, HB.out, trivial, rfl⟩
      case round =>
        obtain ⟨j, P, R, hj, rfl, hPl, hRl, hRs, HR⟩ := hrel
        by_cases hlt : j < l
        · obtain ⟨q, hq⟩ : ∃ q, R.len = q + 1 := ⟨R.len - 1, by omega⟩
          obtain ⟨hc, hv, p, kids, alts, R', rfl, hR'⟩ := GE.cons_of_len hq
          obtain ⟨hg, hR, hB, hP, hcs⟩ := HR.out
          obtain ⟨e0, q0, d0, e1, q1, d1, a1, l1, c1, a2, l2, c2, a3, l3, c3, a4, l4, c4, a5, l5, c5, ⟨m0, m1⟩, hgd, ⟨k0, k1, k2, k3, k4, k5, k6⟩, hnd, hR2⟩ := hR.alt
          rw [show o + j * 9 + 9 = o + (j + 1) * 9 by omega] at hR2
          simp only [GE.size] at hRs
          simp only [GE.len] at hRl
          have hks : kids.size ≤ m := by omega
          have has : alts.size ≤ m := by omega
          have hps : szPE p ≤ 1048576 := by omega
          have hhs : hc.length + szW hv ≤ 1048576 := by omega
          have m0 := hg.cell m0 (by simp)
          have m1 := hg.cell m1 (by simp)
          have k0 := hg.cell k0 (by simp)
          have k1 := hg.cell k1 (by simp)
          have k2 := hg.cell k2 (by simp)
          have k3 := hg.cell k3 (by simp)
          have k4 := hg.cell k4 (by simp)
          have k5 := hg.cell k5 (by simp)
          have k6 := hg.cell k6 (by simp)
          have CC : Hid _ := toEA_of hc hv p kids alts e0 q0 d0 e1 q1 d1 a1 l1 c1 a2 l2 c2 a3 l3 c3 a4 l4 c4 a5 l5 c5 wr (⟨hgd.1.none hg, hgd.2.none hg⟩) hhs (fun u hu => toET_of p kids alts a1 l1 c1 a2 l2 c2 a3 l3 c3 a4 l4 c4 a5 l5 c5 u ((hnd.none hg).none hu) hps (fun u2 hu2 => IH.out.1 kids a4 l4 c4 u2 hks (((hnd.none hg).none hu).2.2.2.1.none hu2)) (fun u2 hu2 => IH.out.2 alts a5 l5 c5 u2 has (((hnd.none hg).none hu).2.2.2.2.none hu2)))
          have FX : Hid (w.grownBy wr none ∧ InGE w w true R' b (o + (j + 1) * 9) ∧ BlkN wr 58 w.heap.size (l * 9) ∧ InGE wr (hideW wr (w.heap.size + 1)) true P w.heap.size 0 ∧ (P.app (.cons hc hv p kids alts .nil)).app R' = g) := ⟨hg, hR2, hB, hP, by rw [GE.app_assoc]; exact hcs⟩
          clear hnd hR hR2 hg hB hP hcs IN HR hmk HB hgd
          go_wp2_with fail
          refine Calls.mono CC.out ?_
          rintro e u ⟨x0, z0, x1, z1, t1, w1, t2, w2, t3, w3, t4, w4, t5, w5, he, hgu, hr⟩
          subst he
          have hBu := FX.out.2.2.1.of (hgu.block _ FX.out.2.2.1.lt (by simp))
          obtain ⟨_, qq0⟩ := hBu.has (j * 9) (by omega)
          have ff0 := hBu.free (j * 9)
          obtain ⟨_, qq1⟩ := hBu.has (j * 9 + 1) (by omega)
          have ff1 := hBu.free (j * 9 + 1)
          obtain ⟨_, qq2⟩ := hBu.has (j * 9 + 2) (by omega)
          have ff2 := hBu.free (j * 9 + 2)
          obtain ⟨_, qq3⟩ := hBu.has (j * 9 + 3) (by omega)
          have ff3 := hBu.free (j * 9 + 3)
          obtain ⟨_, qq4⟩ := hBu.has (j * 9 + 4) (by omega)
          have ff4 := hBu.free (j * 9 + 4)
          obtain ⟨_, qq5⟩ := hBu.has (j * 9 + 5) (by omega)
          have ff5 := hBu.free (j * 9 + 5)
          obtain ⟨_, qq6⟩ := hBu.has (j * 9 + 6) (by omega)
          have ff6 := hBu.free (j * 9 + 6)
          obtain ⟨_, qq7⟩ := hBu.has (j * 9 + 7) (by omega)
          have ff7 := hBu.free (j * 9 + 7)
          obtain ⟨_, qq8⟩ := hBu.has (j * 9 + 8) (by omega)
          have ff8 := hBu.free (j * 9 + 8)
          have FY : Hid (BlkN u 58 w.heap.size (l * 9) ∧ wr.grownBy u none ∧ (RdB (hideW u wr.heap.size) x0 q0 hc ∧ SlSC (hideW u wr.heap.size) x1 q1 z1 hv ∧ NdE (hideW u wr.heap.size) p kids alts t1 l1 w1 t2 l2 w2 t3 l3 w3 t4 l4 w4 t5 l5 w5)) := ⟨hBu, hgu, hr⟩
          clear CC hgu hr hBu m0 m1 k0 k1 k2 k3 k4 k5 k6
          simp only []
          go_wp2
          obtain ⟨hg, hR2, hB, hP, hcs⟩ := FX.out
          obtain ⟨hBu, hgu, hr⟩ := FY.out
          have hsz := hB.lt
          obtain ⟨hB3, hk3, tq, hoth⟩ := hBu.put9 (j * 9) (by omega) (.slice x0 q0 z0) (.slice x1 q1 z1) (.int .i64 p.k) (.int .i64 p.n) (.slice t1 l1 w1) (.slice t2 l2 w2) (.slice t3 l3 w3) (.slice t4 l4 w4) (.slice t5 l5 w5)
          have hfx : ∀ i, w.heap.size + 1 ≤ i → i < wr.heap.size → _ = wr.heap[i]? := fun i h1 h2 => (hk3.block i (Nat.lt_of_lt_of_le h2 hgu.size) (by simp; omega)).trans (hgu.block i h2 (by simp))
          have hfu : ∀ i, wr.heap.size ≤ i → i < u.heap.size → _ = u.heap[i]? := fun i h1 h2 => hk3.block i h2 (by simp; omega)
          have hwd : wdE true = 9 := rfl
          have hP2 := hP.move (b' := w.heap.size) (off' := 0) (fun i v hi hv => (hoth (0 + i) (by rw [hPl, hwd] at hi; omega)).trans (hgu.cell hv (by simp))) (CLe.hide (Nat.le_refl _) hfx)
          have cl := CLe.hide (lo' := w.heap.size + 1) (by omega) hfu
          have hQ := hP2.app (Q := (.cons hc hv p kids alts .nil)) (by rw [hPl, hwd, Nat.zero_add]; exact InGE.mkAlt ⟨tq.1, tq.2.1⟩ (⟨hr.1.le cl, hr.2.1.le cl⟩) ⟨tq.2.2.1, tq.2.2.2.1, tq.2.2.2.2.1, tq.2.2.2.2.2.1, tq.2.2.2.2.2.2.1, tq.2.2.2.2.2.2.2.1, tq.2.2.2.2.2.2.2.2⟩ (hr.2.2.le cl))
          have hlP : (P.app (.cons hc hv p kids alts .nil)).len = j + 1 := by rw [GE.app_len, hPl]; rfl
          go_roundw
          case rel => exact ⟨j + 1, P.app (.cons hc hv p kids alts .nil), R', by omega, by go_num, hlP, by omega, by omega, grown_into (grown_trans hg hgu) hk3 (Nat.le_refl _), hR2, hB3, hQ, hcs⟩
          case measure => simp [intOf]; omega
        · obtain rfl : j = l := by omega
          obtain rfl : R = .nil := GE.nil_of_len (by omega)
          obtain ⟨hg, -, hB, hP, hcs⟩ := HR.out
          rw [GE.app_nil] at hcs
          subst hcs
          have FQ : Hid (w.grownBy wr none ∧ SlGE (hideW wr w.heap.size) true (some ⟨w.heap.size, 0, none⟩) j j P) := ⟨hg, hPl, by omega, ⟨Nat.le_refl _, fun h => by cases h⟩, .inr ⟨_, _, rfl, hP.move (fun i v hi hv => (hideW_cell (Nat.le_refl _)).trans hv) (CLe.hide (Nat.le_succ _) (fun _ _ _ => rfl))⟩⟩
          clear hg hB hP HR IN HB hmk
          go_wp2
          go_ret
          exact ⟨_, _, rfl, FQ.out.1, FQ.out.2⟩

theorem toET (p : PE) (kids alts : GE) (a1 : Option Addr) (l1 c1 : Nat) (a2 : Option Addr) (l2 c2 : Nat) (a3 : Option Addr) (l3 c3 : Nat) (a4 : Option Addr) (l4 c4 : Nat) (a5 : Option Addr) (l5 c5 : Nat) (w : World) (h : NdE w p kids alts a1 l1 c1 a2 l2 c2 a3 l3 c3 a4 l4 c4 a5 l5 c5) (hs : szPE p + kids.size + alts.size ≤ 1048576) :
    Calls Tryd.prog 6 #[.agg #[.int .i64 p.k, .int .i64 p.n, .slice a1 l1 c1, .slice a2 l2 c2, .slice a3 l3 c3, .slice a4 l4 c4, .slice a5 l5 c5]] w fun e u => ∃ t1 w1 t2 w2 t3 w3 t4 w4 t5 w5, e = .returned (.agg #[.int .i64 p.k, .int .i64 p.n, .slice t1 l1 w1, .slice t2 l2 w2, .slice t3 l3 w3, .slice t4 l4 w4, .slice t5 l5 w5]) ∧ w.grownBy u none ∧ NdE (hideW u w.heap.size) p kids alts t1 l1 w1 t2 l2 w2 t3 l3 w3 t4 l4 w4 t5 l5 w5 :=
  toET_of p kids alts a1 l1 c1 a2 l2 c2 a3 l3 c3 a4 l4 c4 a5 l5 c5 w h (by omega) (fun u hu => (toES kids.size (by omega)).1 kids a4 l4 c4 u (Nat.le_refl _) (h.2.2.2.1.none hu)) (fun u hu => (toES alts.size (by omega)).2 alts a5 l5 c5 u (Nat.le_refl _) (h.2.2.2.2.none hu))
end Go.Proofs.YtjjaocoahepdaaaDoor.By
