/-
  Two Low nodes that read the same, compared: the law's own helpers by their contracts. No statement is proved here.
-/
import Derived.Test.YtbeejgacdcncgaaGHL
import Derived.Test.YtbeejgacdcncgaaGQ
namespace Go.Proofs.Ytbeejgacdcncgaa.By
open Go.RowKit
set_option linter.unusedVariables false
set_option linter.unusedSimpArgs false

set_option maxRecDepth 4000 in
set_option maxHeartbeats 4000000 in
theorem eqLT_of (p : PL) (kids alts : GL) (a1 f1 : Option Addr) (l1 c1 g1 : Nat) (a2 f2 : Option Addr) (l2 c2 g2 : Nat) (a3 f3 : Option Addr) (l3 c3 g3 : Nat) (a4 f4 : Option Addr) (l4 c4 g4 : Nat) (a5 f5 : Option Addr) (l5 c5 g5 : Nat) (w : World) (h : NdL w p kids alts a1 l1 a2 l2 a3 l3 a4 l4 a5 l5) (h' : NdL w p kids alts f1 l1 f2 l2 f3 l3 f4 l4 f5 l5) (hs : szPL p ≤ 1048576)
    (Hk : ∀ u, w.grownBy u none → Calls Try.prog 21 #[.slice a4 l4 c4, .slice f4 l4 g4] u fun e v => e = .returned (.bool true) ∧ u.grownBy v none)
    (Ha : ∀ u, w.grownBy u none → Calls Try.prog 22 #[.slice a5 l5 c5, .slice f5 l5 g5] u fun e v => e = .returned (.bool true) ∧ u.grownBy v none) :
    Calls Try.prog 8 #[.agg #[.int .i64 p.k, .int .i64 p.n, .int .i64 p.m, .int .i64 p.c, .slice a1 l1 c1, .int .i64 p.tk, .int .i64 p.tn, .slice a2 l2 c2, .int .i64 p.uk, .int .i64 p.un, .slice a3 l3 c3, .slice a4 l4 c4, .slice a5 l5 c5], .agg #[.int .i64 p.k, .int .i64 p.n, .int .i64 p.m, .int .i64 p.c, .slice f1 l1 g1, .int .i64 p.tk, .int .i64 p.tn, .slice f2 l2 g2, .int .i64 p.uk, .int .i64 p.un, .slice f3 l3 g3, .slice f4 l4 g4, .slice f5 l5 g5]] w fun e u => e = .returned (.bool true) ∧ w.grownBy u none := by
  have hb1 : l1 ≤ 4194304 := by have := h.1.1.1; unfold szPL at hs; omega
  have HK : Hid _ := Hk
  have HA : Hid _ := Ha
  have HN : Hid (∀ u, w.grownBy u none → NdL u p kids alts a1 l1 a2 l2 a3 l3 a4 l4 a5 l5 ∧ NdL u p kids alts f1 l1 f2 l2 f3 l3 f4 l4 f5 l5) := fun u hu => ⟨h.none hu, h'.none hu⟩
  clear Hk Ha h h'
  obtain ⟨b0, b1, bsz⟩ := alloc2_blocks w (.cells #[.int .i64 p.k, .int .i64 p.n, .int .i64 p.m, .int .i64 p.c, .slice a1 l1 c1, .int .i64 p.tk, .int .i64 p.tn, .slice a2 l2 c2, .int .i64 p.uk, .int .i64 p.un, .slice a3 l3 c3, .slice a4 l4 c4, .slice a5 l5 c5] 38) (.cells #[.int .i64 p.k, .int .i64 p.n, .int .i64 p.m, .int .i64 p.c, .slice f1 l1 g1, .int .i64 p.tk, .int .i64 p.tn, .slice f2 l2 g2, .int .i64 p.uk, .int .i64 p.un, .slice f3 l3 g3, .slice f4 l4 g4, .slice f5 l5 g5] 38)
  have g0 := grown_alloc (grown_alloc (World.grownBy.refl w none) (.cells #[.int .i64 p.k, .int .i64 p.n, .int .i64 p.m, .int .i64 p.c, .slice a1 l1 c1, .int .i64 p.tk, .int .i64 p.tn, .slice a2 l2 c2, .int .i64 p.uk, .int .i64 p.un, .slice a3 l3 c3, .slice a4 l4 c4, .slice a5 l5 c5] 38)) (.cells #[.int .i64 p.k, .int .i64 p.n, .int .i64 p.m, .int .i64 p.c, .slice f1 l1 g1, .int .i64 p.tk, .int .i64 p.tn, .slice f2 l2 g2, .int .i64 p.uk, .int .i64 p.un, .slice f3 l3 g3, .slice f4 l4 g4, .slice f5 l5 g5] 38)
  have L0 : Hid (w.grownBy _ none ∧ _ = some (Obj.cells #[.int .i64 p.k, .int .i64 p.n, .int .i64 p.m, .int .i64 p.c, .slice a1 l1 c1, .int .i64 p.tk, .int .i64 p.tn, .slice a2 l2 c2, .int .i64 p.uk, .int .i64 p.un, .slice a3 l3 c3, .slice a4 l4 c4, .slice a5 l5 c5] 38) ∧ _ = some (Obj.cells #[.int .i64 p.k, .int .i64 p.n, .int .i64 p.m, .int .i64 p.c, .slice f1 l1 g1, .int .i64 p.tk, .int .i64 p.tn, .slice f2 l2 g2, .int .i64 p.uk, .int .i64 p.un, .slice f3 l3 g3, .slice f4 l4 g4, .slice f5 l5 g5] 38)) := ⟨g0, b0, b1⟩
  have C0 : Hid _ := eqBy a1 f1 l1 c1 g1 (p.lit) _ ((HN.out _ g0).1.1).1 ((HN.out _ g0).2.1).1 (hb1)
  obtain ⟨⟨y0, y1, y2, y3, y4, y5, y6, y7, y8, y9, y10, y11, y12⟩, -⟩ := blkL b0
  obtain ⟨⟨yy0, yy1, yy2, yy3, yy4, yy5, yy6, yy7, yy8, yy9, yy10, yy11, yy12⟩, -⟩ := blkL b1
  clear g0 b0 b1 bsz
  go_enter Try.func8, Try.ntmps8
  go_wp2_with fail
  refine Calls.mono C0.out ?_
  rintro e u0 ⟨he, hg⟩
  subst he
  have L1 : Hid (w.grownBy u0 none ∧ u0.heap[w.heap.size]? = some (Obj.cells #[.int .i64 p.k, .int .i64 p.n, .int .i64 p.m, .int .i64 p.c, .slice a1 l1 c1, .int .i64 p.tk, .int .i64 p.tn, .slice a2 l2 c2, .int .i64 p.uk, .int .i64 p.un, .slice a3 l3 c3, .slice a4 l4 c4, .slice a5 l5 c5] 38) ∧ u0.heap[w.heap.size + 1]? = some (Obj.cells #[.int .i64 p.k, .int .i64 p.n, .int .i64 p.m, .int .i64 p.c, .slice f1 l1 g1, .int .i64 p.tk, .int .i64 p.tn, .slice f2 l2 g2, .int .i64 p.uk, .int .i64 p.un, .slice f3 l3 g3, .slice f4 l4 g4, .slice f5 l5 g5] 38)) := ⟨grown_trans L0.out.1 hg, (hg.block _ (lt_of_block L0.out.2.1) (by simp)).trans L0.out.2.1, (hg.block _ (lt_of_block L0.out.2.2) (by simp)).trans L0.out.2.2⟩
  clear C0 hg L0 y0 y1 y2 y3 y4 y5 y6 y7 y8 y9 y10 y11 y12 yy0 yy1 yy2 yy3 yy4 yy5 yy6 yy7 yy8 yy9 yy10 yy11 yy12
  simp only []
  have C1 : Hid _ := eqTr (p.tf) p.tk p.tn a2 f2 l2 c2 g2 u0 ((HN.out u0 L1.out.1).1.2.1) ((HN.out u0 L1.out.1).2.2.1)
  obtain ⟨⟨y0, y1, y2, y3, y4, y5, y6, y7, y8, y9, y10, y11, y12⟩, -⟩ := blkL L1.out.2.1
  obtain ⟨⟨yy0, yy1, yy2, yy3, yy4, yy5, yy6, yy7, yy8, yy9, yy10, yy11, yy12⟩, -⟩ := blkL L1.out.2.2
  go_wp2_with fail
  refine Calls.mono C1.out ?_
  rintro e u1 ⟨he, hg⟩
  subst he
  have L2 : Hid (w.grownBy u1 none ∧ u1.heap[w.heap.size]? = some (Obj.cells #[.int .i64 p.k, .int .i64 p.n, .int .i64 p.m, .int .i64 p.c, .slice a1 l1 c1, .int .i64 p.tk, .int .i64 p.tn, .slice a2 l2 c2, .int .i64 p.uk, .int .i64 p.un, .slice a3 l3 c3, .slice a4 l4 c4, .slice a5 l5 c5] 38) ∧ u1.heap[w.heap.size + 1]? = some (Obj.cells #[.int .i64 p.k, .int .i64 p.n, .int .i64 p.m, .int .i64 p.c, .slice f1 l1 g1, .int .i64 p.tk, .int .i64 p.tn, .slice f2 l2 g2, .int .i64 p.uk, .int .i64 p.un, .slice f3 l3 g3, .slice f4 l4 g4, .slice f5 l5 g5] 38)) := ⟨grown_trans L1.out.1 hg, (hg.block _ (lt_of_block L1.out.2.1) (by simp)).trans L1.out.2.1, (hg.block _ (lt_of_block L1.out.2.2) (by simp)).trans L1.out.2.2⟩
  clear C1 hg L1 y0 y1 y2 y3 y4 y5 y6 y7 y8 y9 y10 y11 y12 yy0 yy1 yy2 yy3 yy4 yy5 yy6 yy7 yy8 yy9 yy10 yy11 yy12
  simp only []
  have C2 : Hid _ := eqTr (p.uf) p.uk p.un a3 f3 l3 c3 g3 u1 ((HN.out u1 L2.out.1).1.2.2.1) ((HN.out u1 L2.out.1).2.2.2.1)
  obtain ⟨⟨y0, y1, y2, y3, y4, y5, y6, y7, y8, y9, y10, y11, y12⟩, -⟩ := blkL L2.out.2.1
  obtain ⟨⟨yy0, yy1, yy2, yy3, yy4, yy5, yy6, yy7, yy8, yy9, yy10, yy11, yy12⟩, -⟩ := blkL L2.out.2.2
  go_wp2_with fail
  refine Calls.mono C2.out ?_
  rintro e u2 ⟨he, hg⟩
  subst he
  have L3 : Hid (w.grownBy u2 none ∧ u2.heap[w.heap.size]? = some (Obj.cells #[.int .i64 p.k, .int .i64 p.n, .int .i64 p.m, .int .i64 p.c, .slice a1 l1 c1, .int .i64 p.tk, .int .i64 p.tn, .slice a2 l2 c2, .int .i64 p.uk, .int .i64 p.un, .slice a3 l3 c3, .slice a4 l4 c4, .slice a5 l5 c5] 38) ∧ u2.heap[w.heap.size + 1]? = some (Obj.cells #[.int .i64 p.k, .int .i64 p.n, .int .i64 p.m, .int .i64 p.c, .slice f1 l1 g1, .int .i64 p.tk, .int .i64 p.tn, .slice f2 l2 g2, .int .i64 p.uk, .int .i64 p.un, .slice f3 l3 g3, .slice f4 l4 g4, .slice f5 l5 g5] 38)) := ⟨grown_trans L2.out.1 hg, (hg.block _ (lt_of_block L2.out.2.1) (by simp)).trans L2.out.2.1, (hg.block _ (lt_of_block L2.out.2.2) (by simp)).trans L2.out.2.2⟩
  clear C2 hg L2 y0 y1 y2 y3 y4 y5 y6 y7 y8 y9 y10 y11 y12 yy0 yy1 yy2 yy3 yy4 yy5 yy6 yy7 yy8 yy9 yy10 yy11 yy12
  simp only []
  have C3 : Hid _ := HK.out u2 L3.out.1
  obtain ⟨⟨y0, y1, y2, y3, y4, y5, y6, y7, y8, y9, y10, y11, y12⟩, -⟩ := blkL L3.out.2.1
  obtain ⟨⟨yy0, yy1, yy2, yy3, yy4, yy5, yy6, yy7, yy8, yy9, yy10, yy11, yy12⟩, -⟩ := blkL L3.out.2.2
  go_wp2_with fail
  refine Calls.mono C3.out ?_
  rintro e u3 ⟨he, hg⟩
  subst he
  have L4 : Hid (w.grownBy u3 none ∧ u3.heap[w.heap.size]? = some (Obj.cells #[.int .i64 p.k, .int .i64 p.n, .int .i64 p.m, .int .i64 p.c, .slice a1 l1 c1, .int .i64 p.tk, .int .i64 p.tn, .slice a2 l2 c2, .int .i64 p.uk, .int .i64 p.un, .slice a3 l3 c3, .slice a4 l4 c4, .slice a5 l5 c5] 38) ∧ u3.heap[w.heap.size + 1]? = some (Obj.cells #[.int .i64 p.k, .int .i64 p.n, .int .i64 p.m, .int .i64 p.c, .slice f1 l1 g1, .int .i64 p.tk, .int .i64 p.tn, .slice f2 l2 g2, .int .i64 p.uk, .int .i64 p.un, .slice f3 l3 g3, .slice f4 l4 g4, .slice f5 l5 g5] 38)) := ⟨grown_trans L3.out.1 hg, (hg.block _ (lt_of_block L3.out.2.1) (by simp)).trans L3.out.2.1, (hg.block _ (lt_of_block L3.out.2.2) (by simp)).trans L3.out.2.2⟩
  clear C3 hg L3 y0 y1 y2 y3 y4 y5 y6 y7 y8 y9 y10 y11 y12 yy0 yy1 yy2 yy3 yy4 yy5 yy6 yy7 yy8 yy9 yy10 yy11 yy12
  simp only []
  have C4 : Hid _ := HA.out u3 L4.out.1
  obtain ⟨⟨y0, y1, y2, y3, y4, y5, y6, y7, y8, y9, y10, y11, y12⟩, -⟩ := blkL L4.out.2.1
  obtain ⟨⟨yy0, yy1, yy2, yy3, yy4, yy5, yy6, yy7, yy8, yy9, yy10, yy11, yy12⟩, -⟩ := blkL L4.out.2.2
  go_wp2_with fail
  refine Calls.mono C4.out ?_
  rintro e u4 ⟨he, hg⟩
  subst he
  have L5 : Hid (w.grownBy u4 none ∧ u4.heap[w.heap.size]? = some (Obj.cells #[.int .i64 p.k, .int .i64 p.n, .int .i64 p.m, .int .i64 p.c, .slice a1 l1 c1, .int .i64 p.tk, .int .i64 p.tn, .slice a2 l2 c2, .int .i64 p.uk, .int .i64 p.un, .slice a3 l3 c3, .slice a4 l4 c4, .slice a5 l5 c5] 38) ∧ u4.heap[w.heap.size + 1]? = some (Obj.cells #[.int .i64 p.k, .int .i64 p.n, .int .i64 p.m, .int .i64 p.c, .slice f1 l1 g1, .int .i64 p.tk, .int .i64 p.tn, .slice f2 l2 g2, .int .i64 p.uk, .int .i64 p.un, .slice f3 l3 g3, .slice f4 l4 g4, .slice f5 l5 g5] 38)) := ⟨grown_trans L4.out.1 hg, (hg.block _ (lt_of_block L4.out.2.1) (by simp)).trans L4.out.2.1, (hg.block _ (lt_of_block L4.out.2.2) (by simp)).trans L4.out.2.2⟩
  clear C4 hg L4 y0 y1 y2 y3 y4 y5 y6 y7 y8 y9 y10 y11 y12 yy0 yy1 yy2 yy3 yy4 yy5 yy6 yy7 yy8 yy9 yy10 yy11 yy12
  simp only []
  go_wp2
  go_ret
  exact ⟨rfl, L5.out.1⟩

set_option maxRecDepth 4000 in
set_option maxHeartbeats 4000000 in
theorem eqLA_of (hc : Int) (hv : List Int) (p : PL) (e0 x0 : Option Addr) (q0 d0 z0 : Nat) (a1 f1 : Option Addr) (l1 c1 g1 : Nat) (a2 f2 : Option Addr) (l2 c2 g2 : Nat) (a3 f3 : Option Addr) (l3 c3 g3 : Nat) (a4 f4 : Option Addr) (l4 c4 g4 : Nat) (a5 f5 : Option Addr) (l5 c5 g5 : Nat) (w : World) (h : RdI w e0 q0 hv) (h' : RdI w x0 q0 hv) (hs : hv.length ≤ 1048576)
    (Hb : ∀ u, w.grownBy u none → Calls Try.prog 8 #[.agg #[.int .i64 p.k, .int .i64 p.n, .int .i64 p.m, .int .i64 p.c, .slice a1 l1 c1, .int .i64 p.tk, .int .i64 p.tn, .slice a2 l2 c2, .int .i64 p.uk, .int .i64 p.un, .slice a3 l3 c3, .slice a4 l4 c4, .slice a5 l5 c5], .agg #[.int .i64 p.k, .int .i64 p.n, .int .i64 p.m, .int .i64 p.c, .slice f1 l1 g1, .int .i64 p.tk, .int .i64 p.tn, .slice f2 l2 g2, .int .i64 p.uk, .int .i64 p.un, .slice f3 l3 g3, .slice f4 l4 g4, .slice f5 l5 g5]] u fun e v => e = .returned (.bool true) ∧ u.grownBy v none) :
    Calls Try.prog 29 #[.agg #[.int .i64 hc, .slice e0 q0 d0, .int .i64 p.k, .int .i64 p.n, .int .i64 p.m, .int .i64 p.c, .slice a1 l1 c1, .int .i64 p.tk, .int .i64 p.tn, .slice a2 l2 c2, .int .i64 p.uk, .int .i64 p.un, .slice a3 l3 c3, .slice a4 l4 c4, .slice a5 l5 c5], .agg #[.int .i64 hc, .slice x0 q0 z0, .int .i64 p.k, .int .i64 p.n, .int .i64 p.m, .int .i64 p.c, .slice f1 l1 g1, .int .i64 p.tk, .int .i64 p.tn, .slice f2 l2 g2, .int .i64 p.uk, .int .i64 p.un, .slice f3 l3 g3, .slice f4 l4 g4, .slice f5 l5 g5]] w fun e u => e = .returned (.bool true) ∧ w.grownBy u none := by
  have hb0 : q0 ≤ 4194304 := by have := h.1.1; omega
  have HB : Hid _ := Hb
  have HN : Hid (∀ u, w.grownBy u none → (RdI u e0 q0 hv) ∧ (RdI u x0 q0 hv)) := fun u hu => ⟨h.none hu, h'.none hu⟩
  clear Hb h h'
  obtain ⟨b0, b1, bsz⟩ := alloc2_blocks w (.cells #[.int .i64 hc, .slice e0 q0 d0, .int .i64 p.k, .int .i64 p.n, .int .i64 p.m, .int .i64 p.c, .slice a1 l1 c1, .int .i64 p.tk, .int .i64 p.tn, .slice a2 l2 c2, .int .i64 p.uk, .int .i64 p.un, .slice a3 l3 c3, .slice a4 l4 c4, .slice a5 l5 c5] 65) (.cells #[.int .i64 hc, .slice x0 q0 z0, .int .i64 p.k, .int .i64 p.n, .int .i64 p.m, .int .i64 p.c, .slice f1 l1 g1, .int .i64 p.tk, .int .i64 p.tn, .slice f2 l2 g2, .int .i64 p.uk, .int .i64 p.un, .slice f3 l3 g3, .slice f4 l4 g4, .slice f5 l5 g5] 65)
  have g0 := grown_alloc (grown_alloc (World.grownBy.refl w none) (.cells #[.int .i64 hc, .slice e0 q0 d0, .int .i64 p.k, .int .i64 p.n, .int .i64 p.m, .int .i64 p.c, .slice a1 l1 c1, .int .i64 p.tk, .int .i64 p.tn, .slice a2 l2 c2, .int .i64 p.uk, .int .i64 p.un, .slice a3 l3 c3, .slice a4 l4 c4, .slice a5 l5 c5] 65)) (.cells #[.int .i64 hc, .slice x0 q0 z0, .int .i64 p.k, .int .i64 p.n, .int .i64 p.m, .int .i64 p.c, .slice f1 l1 g1, .int .i64 p.tk, .int .i64 p.tn, .slice f2 l2 g2, .int .i64 p.uk, .int .i64 p.un, .slice f3 l3 g3, .slice f4 l4 g4, .slice f5 l5 g5] 65)
  have L0 : Hid (w.grownBy _ none ∧ _ = some (Obj.cells #[.int .i64 hc, .slice e0 q0 d0, .int .i64 p.k, .int .i64 p.n, .int .i64 p.m, .int .i64 p.c, .slice a1 l1 c1, .int .i64 p.tk, .int .i64 p.tn, .slice a2 l2 c2, .int .i64 p.uk, .int .i64 p.un, .slice a3 l3 c3, .slice a4 l4 c4, .slice a5 l5 c5] 65) ∧ _ = some (Obj.cells #[.int .i64 hc, .slice x0 q0 z0, .int .i64 p.k, .int .i64 p.n, .int .i64 p.m, .int .i64 p.c, .slice f1 l1 g1, .int .i64 p.tk, .int .i64 p.tn, .slice f2 l2 g2, .int .i64 p.uk, .int .i64 p.un, .slice f3 l3 g3, .slice f4 l4 g4, .slice f5 l5 g5] 65)) := ⟨g0, b0, b1⟩
  have C0 : Hid _ := eqIn e0 x0 q0 d0 z0 hv _ ((HN.out _ g0).1) ((HN.out _ g0).2) (hb0)
  obtain ⟨⟨y0, y1, y2, y3, y4, y5, y6, y7, y8, y9, y10, y11, y12, y13, y14⟩, -⟩ := blkLA b0
  obtain ⟨⟨yy0, yy1, yy2, yy3, yy4, yy5, yy6, yy7, yy8, yy9, yy10, yy11, yy12, yy13, yy14⟩, -⟩ := blkLA b1
  clear g0 b0 b1 bsz
  go_enter Try.func29, Try.ntmps29
  go_wp2_with fail
  refine Calls.mono C0.out ?_
  rintro e u0 ⟨he, hg⟩
  subst he
  have L1 : Hid (w.grownBy u0 none ∧ u0.heap[w.heap.size]? = some (Obj.cells #[.int .i64 hc, .slice e0 q0 d0, .int .i64 p.k, .int .i64 p.n, .int .i64 p.m, .int .i64 p.c, .slice a1 l1 c1, .int .i64 p.tk, .int .i64 p.tn, .slice a2 l2 c2, .int .i64 p.uk, .int .i64 p.un, .slice a3 l3 c3, .slice a4 l4 c4, .slice a5 l5 c5] 65) ∧ u0.heap[w.heap.size + 1]? = some (Obj.cells #[.int .i64 hc, .slice x0 q0 z0, .int .i64 p.k, .int .i64 p.n, .int .i64 p.m, .int .i64 p.c, .slice f1 l1 g1, .int .i64 p.tk, .int .i64 p.tn, .slice f2 l2 g2, .int .i64 p.uk, .int .i64 p.un, .slice f3 l3 g3, .slice f4 l4 g4, .slice f5 l5 g5] 65)) := ⟨grown_trans L0.out.1 hg, (hg.block _ (lt_of_block L0.out.2.1) (by simp)).trans L0.out.2.1, (hg.block _ (lt_of_block L0.out.2.2) (by simp)).trans L0.out.2.2⟩
  clear C0 hg L0 y0 y1 y2 y3 y4 y5 y6 y7 y8 y9 y10 y11 y12 y13 y14 yy0 yy1 yy2 yy3 yy4 yy5 yy6 yy7 yy8 yy9 yy10 yy11 yy12 yy13 yy14
  simp only []
  have C1 : Hid _ := HB.out u0 L1.out.1
  obtain ⟨⟨y0, y1, y2, y3, y4, y5, y6, y7, y8, y9, y10, y11, y12, y13, y14⟩, -⟩ := blkLA L1.out.2.1
  obtain ⟨⟨yy0, yy1, yy2, yy3, yy4, yy5, yy6, yy7, yy8, yy9, yy10, yy11, yy12, yy13, yy14⟩, -⟩ := blkLA L1.out.2.2
  go_wp2_with fail
  refine Calls.mono C1.out ?_
  rintro e u1 ⟨he, hg⟩
  subst he
  have L2 : Hid (w.grownBy u1 none ∧ u1.heap[w.heap.size]? = some (Obj.cells #[.int .i64 hc, .slice e0 q0 d0, .int .i64 p.k, .int .i64 p.n, .int .i64 p.m, .int .i64 p.c, .slice a1 l1 c1, .int .i64 p.tk, .int .i64 p.tn, .slice a2 l2 c2, .int .i64 p.uk, .int .i64 p.un, .slice a3 l3 c3, .slice a4 l4 c4, .slice a5 l5 c5] 65) ∧ u1.heap[w.heap.size + 1]? = some (Obj.cells #[.int .i64 hc, .slice x0 q0 z0, .int .i64 p.k, .int .i64 p.n, .int .i64 p.m, .int .i64 p.c, .slice f1 l1 g1, .int .i64 p.tk, .int .i64 p.tn, .slice f2 l2 g2, .int .i64 p.uk, .int .i64 p.un, .slice f3 l3 g3, .slice f4 l4 g4, .slice f5 l5 g5] 65)) := ⟨grown_trans L1.out.1 hg, (hg.block _ (lt_of_block L1.out.2.1) (by simp)).trans L1.out.2.1, (hg.block _ (lt_of_block L1.out.2.2) (by simp)).trans L1.out.2.2⟩
  clear C1 hg L1 y0 y1 y2 y3 y4 y5 y6 y7 y8 y9 y10 y11 y12 y13 y14 yy0 yy1 yy2 yy3 yy4 yy5 yy6 yy7 yy8 yy9 yy10 yy11 yy12 yy13 yy14
  simp only []
  go_wp2
  go_ret
  exact ⟨rfl, L2.out.1⟩

set_option maxRecDepth 8000 in
set_option maxHeartbeats 8000000 in
theorem eqLS (m : Nat) (hM : m ≤ 1048576) : (∀ (g : GL) (a a' : Option Addr) (l c c' : Nat) (w : World), g.size ≤ m → SlGL w false a l g → SlGL w false a' l g → Calls Try.prog 21 #[.slice a l c, .slice a' l c'] w fun e u => e = .returned (.bool true) ∧ w.grownBy u none) ∧
    (∀ (g : GL) (a a' : Option Addr) (l c c' : Nat) (w : World), g.size ≤ m → SlGL w true a l g → SlGL w true a' l g → Calls Try.prog 22 #[.slice a l c, .slice a' l c'] w fun e u => e = .returned (.bool true) ∧ w.grownBy u none) := by
  induction m with
  | zero =>
    constructor
    · intro g a a' l c c' w hm h h'
      have hlen := g.len_le
      have hfl := h.1
      obtain rfl : l = 0 := by omega
      obtain rfl := GL.nil_of_len hfl
      clear h h'
      go_enter Try.func21, Try.ntmps21
      go_wp2
      refine wp_loop_rounds 1 ?_
      rw [rounds_succ]
      go_wp2
      go_ret
      exact ⟨rfl, World.grownBy.refl _ _⟩
    · intro g a a' l c c' w hm h h'
      have hlen := g.len_le
      have hfl := h.1
      obtain rfl : l = 0 := by omega
      obtain rfl := GL.nil_of_len hfl
      clear h h'
      go_enter Try.func22, Try.ntmps22
      go_wp2
      refine wp_loop_rounds 1 ?_
      rw [rounds_succ]
      go_wp2
      go_ret
      exact ⟨rfl, World.grownBy.refl _ _⟩
  | succ m ih =>
    have IH : Hid _ := ih (by omega)
    clear ih
    constructor
    · intro g a a' l c c' w hm h h'
      have hl := h.2.1
      have hfl := h.1
      rcases h.cases with ⟨rfl, rfl⟩ | ⟨b, o, rfl, hin, hpos⟩
      · go_enter Try.func21, Try.ntmps21
        go_wp2
        refine wp_loop_rounds 1 ?_
        rw [rounds_succ]
        go_wp2
        go_ret
        exact ⟨rfl, World.grownBy.refl _ _⟩
      rcases h'.cases with ⟨rfl, rfl⟩ | ⟨b', o', rfl, hin', -⟩
      · exact absurd hpos (by omega)
      have IN : Hid (InGL w w false g b o ∧ InGL w w false g b' o') := ⟨hin, hin'⟩
      clear hin hin' h h'
      go_enter Try.func21, Try.ntmps21
      go_wp2
      go_loopw [5] (fun i wr => ∃ (j : Nat) (R : GL), j ≤ l ∧ i = .int .i64 j ∧ Hid (w.grownBy wr none ∧ InGL wr wr false R b (o + j * 13) ∧ InGL wr wr false R b' (o' + j * 13)) ∧ R.size ≤ m + 1 ∧ R.len + j = l) (fun i _ => l - (intOf i).toNat)
      case atStart => exact ⟨0, g, Nat.zero_le _, rfl, ⟨World.grownBy.refl _ _, by simpa using IN.out.1, by simpa using IN.out.2⟩, hm, by omega⟩
      case round =>
        obtain ⟨j, R, hj, rfl, HR, hRs, hRl⟩ := hrel
        by_cases hlt : j < l
        · obtain ⟨q, hq⟩ : ∃ q, R.len = q + 1 := ⟨R.len - 1, by omega⟩
          obtain ⟨hc, hv, p, kids, alts, R', rfl, hR'⟩ := GL.cons_of_len hq
          obtain ⟨hg, hi1, hi2⟩ := HR.out
          obtain ⟨-, a1, l1, c1, a2, l2, c2, a3, l3, c3, a4, l4, c4, a5, l5, c5, kk1, hnd, hR2⟩ := hi1.kid
          obtain ⟨-, f1, n1, g1, f2, n2, g2, f3, n3, g3, f4, n4, g4, f5, n5, g5, kk2, hne, hR3⟩ := hi2.kid
          obtain rfl : l1 = n1 := by have := hnd.1.1.1; have := hne.1.1.1; omega
          obtain rfl : l2 = n2 := by have := hnd.2.1.1; have := hne.2.1.1; omega
          obtain rfl : l3 = n3 := by have := hnd.2.2.1.1; have := hne.2.2.1.1; omega
          obtain rfl : l4 = n4 := by have := hnd.2.2.2.1.1; have := hne.2.2.2.1.1; omega
          obtain rfl : l5 = n5 := by have := hnd.2.2.2.2.1; have := hne.2.2.2.2.1; omega
          rw [show o + j * 13 + 13 = o + (j + 1) * 13 by omega] at hR2
          rw [show o' + j * 13 + 13 = o' + (j + 1) * 13 by omega] at hR3
          simp only [GL.size] at hRs
          have hks : kids.size ≤ m := by omega
          have has : alts.size ≤ m := by omega
          have hps : szPL p ≤ 1048576 := by omega
          have hhs : hv.length ≤ 1048576 := by omega
          have gd := grown_drew (World.grownBy.refl wr none)
          have gc := CLe.grown gd
          have CC : Hid _ := eqLT_of p kids alts a1 f1 l1 c1 g1 a2 f2 l2 c2 g2 a3 f3 l3 c3 g3 a4 f4 l4 c4 g4 a5 f5 l5 c5 g5 wr.drew (hnd.none gd) (hne.none gd) hps (fun u2 hu2 => IH.out.1 kids a4 f4 l4 c4 g4 u2 hks ((hnd.none gd).2.2.2.1.none hu2) ((hne.none gd).2.2.2.1.none hu2)) (fun u2 hu2 => IH.out.2 alts a5 f5 l5 c5 g5 u2 has ((hnd.none gd).2.2.2.2.none hu2) ((hne.none gd).2.2.2.2.none hu2))
          have TT : Hid (∀ u, wr.grownBy u none → (CelL u b (o + j * 13) (.int .i64 p.k) (.int .i64 p.n) (.int .i64 p.m) (.int .i64 p.c) (.slice a1 l1 c1) (.int .i64 p.tk) (.int .i64 p.tn) (.slice a2 l2 c2) (.int .i64 p.uk) (.int .i64 p.un) (.slice a3 l3 c3) (.slice a4 l4 c4) (.slice a5 l5 c5) ∧ CelL u b' (o' + j * 13) (.int .i64 p.k) (.int .i64 p.n) (.int .i64 p.m) (.int .i64 p.c) (.slice f1 l1 g1) (.int .i64 p.tk) (.int .i64 p.tn) (.slice f2 l2 g2) (.int .i64 p.uk) (.int .i64 p.un) (.slice f3 l3 g3) (.slice f4 l4 g4) (.slice f5 l5 g5))) := fun u hu => ⟨kk1.le (CLe.grown hu), kk2.le (CLe.grown hu)⟩
          have FX : Hid (w.grownBy wr.drew none ∧ InGL wr.drew wr.drew false R' b (o + (j + 1) * 13) ∧ InGL wr.drew wr.drew false R' b' (o' + (j + 1) * 13) ∧ wr.grownBy wr.drew none) := ⟨grown_trans hg gd, hR2.le gc gc, hR3.le gc gc, gd⟩
          clear hnd hne hR2 hR3 hg IN HR gd gc hi1 hi2 kk1 kk2
          simp only [GL.len] at hRl
          go_wp2_with fail
          refine wp_region_held_drew (S := (fun u => (CelL u b (o + j * 13) (.int .i64 p.k) (.int .i64 p.n) (.int .i64 p.m) (.int .i64 p.c) (.slice a1 l1 c1) (.int .i64 p.tk) (.int .i64 p.tn) (.slice a2 l2 c2) (.int .i64 p.uk) (.int .i64 p.un) (.slice a3 l3 c3) (.slice a4 l4 c4) (.slice a5 l5 c5) ∧ CelL u b' (o' + j * 13) (.int .i64 p.k) (.int .i64 p.n) (.int .i64 p.m) (.int .i64 p.c) (.slice f1 l1 g1) (.int .i64 p.tk) (.int .i64 p.tn) (.slice f2 l2 g2) (.int .i64 p.uk) (.int .i64 p.un) (.slice f3 l3 g3) (.slice f4 l4 g4) (.slice f5 l5 g5)))) (by kernel_rfl) (TT.out _ FX.out.2.2.2) (fun hH => ?_)
          generalize wr.drew = u at *
          simp only [List.size_toArray, List.length_cons, List.length_nil, Nat.reduceAdd, Array.replicate, List.replicate]
          refine wpAnyH_take (i := 0) (v := ?_) rfl (by kernel_rfl) (by kernel_rfl) (by kernel_rfl) (fun _ _ _ h => h) (Or.inl ⟨by rfl, ?_⟩) hH ?_
          rotate_left
          · (intro v hS; obtain ⟨⟨t0, t1, t2, t3, t4, t5, t6, t7, t8, t9, t10, t11, t12⟩, ⟨q0, q1, q2, q3, q4, q5, q6, q7, q8, q9, q10, q11, q12⟩⟩ := hS; go_simp; try with_reducible rfl)
          simp only [Act.put, List.setIfInBounds_toArray, List.set_cons_zero, List.set_cons_succ, List.getElem_toArray, List.getElem_cons_succ, List.getElem_cons_zero]
          refine wpAnyH_take (i := 1) (v := ?_) rfl (by kernel_rfl) (by kernel_rfl) (by kernel_rfl) (fun _ _ _ h => h) (Or.inl ⟨by rfl, ?_⟩) hH ?_
          rotate_left
          · (intro v hS; obtain ⟨⟨t0, t1, t2, t3, t4, t5, t6, t7, t8, t9, t10, t11, t12⟩, ⟨q0, q1, q2, q3, q4, q5, q6, q7, q8, q9, q10, q11, q12⟩⟩ := hS; go_simp; try with_reducible rfl)
          simp only [Act.put, List.setIfInBounds_toArray, List.set_cons_zero, List.set_cons_succ, List.getElem_toArray, List.getElem_cons_succ, List.getElem_cons_zero]
          refine wpAnyH_take (i := 2) (v := ?_) rfl (by kernel_rfl) (by kernel_rfl) (by kernel_rfl) (fun _ _ _ h => h) (Or.inl ⟨by rfl, ?_⟩) hH ?_
          rotate_left
          · (intro v hS; obtain ⟨⟨t0, t1, t2, t3, t4, t5, t6, t7, t8, t9, t10, t11, t12⟩, ⟨q0, q1, q2, q3, q4, q5, q6, q7, q8, q9, q10, q11, q12⟩⟩ := hS; go_simp; try with_reducible rfl)
          simp only [Act.put, List.setIfInBounds_toArray, List.set_cons_zero, List.set_cons_succ, List.getElem_toArray, List.getElem_cons_succ, List.getElem_cons_zero]
          refine wpAnyH_take (i := 3) (v := ?_) rfl (by kernel_rfl) (by kernel_rfl) (by kernel_rfl) (fun _ _ _ h => h) (Or.inl ⟨by rfl, ?_⟩) hH ?_
          rotate_left
          · (intro v hS; obtain ⟨⟨t0, t1, t2, t3, t4, t5, t6, t7, t8, t9, t10, t11, t12⟩, ⟨q0, q1, q2, q3, q4, q5, q6, q7, q8, q9, q10, q11, q12⟩⟩ := hS; go_simp; try with_reducible rfl)
          simp only [Act.put, List.setIfInBounds_toArray, List.set_cons_zero, List.set_cons_succ, List.getElem_toArray, List.getElem_cons_succ, List.getElem_cons_zero]
          refine wpAnyH_take (i := 4) (v := ?_) rfl (by kernel_rfl) (by kernel_rfl) (by kernel_rfl) (fun _ _ _ h => h) (Or.inl ⟨by rfl, ?_⟩) hH ?_
          rotate_left
          · (intro v hS; obtain ⟨⟨t0, t1, t2, t3, t4, t5, t6, t7, t8, t9, t10, t11, t12⟩, ⟨q0, q1, q2, q3, q4, q5, q6, q7, q8, q9, q10, q11, q12⟩⟩ := hS; go_simp; try with_reducible rfl)
          simp only [Act.put, List.setIfInBounds_toArray, List.set_cons_zero, List.set_cons_succ, List.getElem_toArray, List.getElem_cons_succ, List.getElem_cons_zero]
          refine wpAnyH_take (i := 5) (v := ?_) rfl (by kernel_rfl) (by kernel_rfl) (by kernel_rfl) (fun _ _ _ h => h) (Or.inl ⟨by rfl, ?_⟩) hH ?_
          rotate_left
          · (intro v hS; obtain ⟨⟨t0, t1, t2, t3, t4, t5, t6, t7, t8, t9, t10, t11, t12⟩, ⟨q0, q1, q2, q3, q4, q5, q6, q7, q8, q9, q10, q11, q12⟩⟩ := hS; go_simp; try with_reducible rfl)
          simp only [Act.put, List.setIfInBounds_toArray, List.set_cons_zero, List.set_cons_succ, List.getElem_toArray, List.getElem_cons_succ, List.getElem_cons_zero]
          refine wpAnyH_take (i := 6) (v := ?_) rfl (by kernel_rfl) (by kernel_rfl) (by kernel_rfl) (fun _ _ _ h => h) (Or.inl ⟨by rfl, ?_⟩) hH ?_
          rotate_left
          · (intro v hS; obtain ⟨⟨t0, t1, t2, t3, t4, t5, t6, t7, t8, t9, t10, t11, t12⟩, ⟨q0, q1, q2, q3, q4, q5, q6, q7, q8, q9, q10, q11, q12⟩⟩ := hS; go_simp; try with_reducible rfl)
          simp only [Act.put, List.setIfInBounds_toArray, List.set_cons_zero, List.set_cons_succ, List.getElem_toArray, List.getElem_cons_succ, List.getElem_cons_zero]
          refine wpAnyH_take (i := 7) (v := ?_) rfl (by kernel_rfl) (by kernel_rfl) (by kernel_rfl) (fun _ _ _ h => h) (Or.inl ⟨by rfl, ?_⟩) hH ?_
          rotate_left
          · (intro v hS; obtain ⟨⟨t0, t1, t2, t3, t4, t5, t6, t7, t8, t9, t10, t11, t12⟩, ⟨q0, q1, q2, q3, q4, q5, q6, q7, q8, q9, q10, q11, q12⟩⟩ := hS; go_simp; try with_reducible rfl)
          simp only [Act.put, List.setIfInBounds_toArray, List.set_cons_zero, List.set_cons_succ, List.getElem_toArray, List.getElem_cons_succ, List.getElem_cons_zero]
          refine wpAnyH_ready (rs := [8]) (by kernel_rfl) (by simp) ?_
          refine AllReadyH.cons rfl (fun K hK => ?_) AllReadyH.nil
          go_simp
          refine Calls.mono CC.out ?_
          rintro e u2 ⟨he, hgu⟩
          subst he
          refine hK.out _ _ (TT.out _ (grown_trans FX.out.2.2.2 hgu)) (fun hH2 => ?_)
          clear hK K hH
          have hH := hH2
          clear hH2
          have FY : Hid (w.grownBy u2 none ∧ InGL u2 u2 false R' b (o + (j + 1) * 13) ∧ InGL u2 u2 false R' b' (o' + (j + 1) * 13)) := ⟨grown_trans FX.out.1 hgu, FX.out.2.1.le (CLe.grown hgu) (CLe.grown hgu), FX.out.2.2.1.le (CLe.grown hgu) (CLe.grown hgu)⟩
          clear FX hgu CC TT
          simp only [Act.put, List.setIfInBounds_toArray, List.set_cons_zero, List.set_cons_succ, List.getElem_toArray, List.getElem_cons_succ, List.getElem_cons_zero]
          refine wpAnyH_take (i := 9) (v := ?_) rfl (by kernel_rfl) (by kernel_rfl) (by kernel_rfl) (fun _ _ _ h => h) (Or.inl ⟨by rfl, ?_⟩) hH ?_
          rotate_left
          · (intro v hS; go_simp; try with_reducible rfl)
          simp only [Act.put, List.setIfInBounds_toArray, List.set_cons_zero, List.set_cons_succ, List.getElem_toArray, List.getElem_cons_succ, List.getElem_cons_zero]
          refine wpAnyH_done (by kernel_rfl) ?_ _
          go_wp2
          go_roundw
          case rel => exact ⟨j + 1, R', by omega, by go_num, FY, by omega, by omega⟩
          case measure => simp [intOf]; omega
        · obtain rfl : j = l := by omega
          have E : Hid (w.grownBy wr none) := HR.out.1
          clear HR IN
          go_wp2
          go_ret
          exact ⟨rfl, E.out⟩
    · intro g a a' l c c' w hm h h'
      have hl := h.2.1
      have hfl := h.1
      rcases h.cases with ⟨rfl, rfl⟩ | ⟨b, o, rfl, hin, hpos⟩
      · go_enter Try.func22, Try.ntmps22
        go_wp2
        refine wp_loop_rounds 1 ?_
        rw [rounds_succ]
        go_wp2
        go_ret
        exact ⟨rfl, World.grownBy.refl _ _⟩
      rcases h'.cases with ⟨rfl, rfl⟩ | ⟨b', o', rfl, hin', -⟩
      · exact absurd hpos (by omega)
      have IN : Hid (InGL w w true g b o ∧ InGL w w true g b' o') := ⟨hin, hin'⟩
      clear hin hin' h h'
      go_enter Try.func22, Try.ntmps22
      go_wp2
      go_loopw [5] (fun i wr => ∃ (j : Nat) (R : GL), j ≤ l ∧ i = .int .i64 j ∧ Hid (w.grownBy wr none ∧ InGL wr wr true R b (o + j * 15) ∧ InGL wr wr true R b' (o' + j * 15)) ∧ R.size ≤ m + 1 ∧ R.len + j = l) (fun i _ => l - (intOf i).toNat)
      case atStart => exact ⟨0, g, Nat.zero_le _, rfl, ⟨World.grownBy.refl _ _, by simpa using IN.out.1, by simpa using IN.out.2⟩, hm, by omega⟩
      case round =>
        obtain ⟨j, R, hj, rfl, HR, hRs, hRl⟩ := hrel
        by_cases hlt : j < l
        · obtain ⟨q, hq⟩ : ∃ q, R.len = q + 1 := ⟨R.len - 1, by omega⟩
          obtain ⟨hc, hv, p, kids, alts, R', rfl, hR'⟩ := GL.cons_of_len hq
          obtain ⟨hg, hi1, hi2⟩ := HR.out
          obtain ⟨e0, q0, d0, a1, l1, c1, a2, l2, c2, a3, l3, c3, a4, l4, c4, a5, l5, c5, hh1, hgd, kk1, hnd, hR2⟩ := hi1.alt
          obtain ⟨x0, w0, z0, f1, n1, g1, f2, n2, g2, f3, n3, g3, f4, n4, g4, f5, n5, g5, hh2, hge, kk2, hne, hR3⟩ := hi2.alt
          obtain rfl : l1 = n1 := by have := hnd.1.1.1; have := hne.1.1.1; omega
          obtain rfl : l2 = n2 := by have := hnd.2.1.1; have := hne.2.1.1; omega
          obtain rfl : l3 = n3 := by have := hnd.2.2.1.1; have := hne.2.2.1.1; omega
          obtain rfl : l4 = n4 := by have := hnd.2.2.2.1.1; have := hne.2.2.2.1.1; omega
          obtain rfl : l5 = n5 := by have := hnd.2.2.2.2.1; have := hne.2.2.2.2.1; omega
          obtain rfl : q0 = w0 := by have := hgd.1.1; have := hge.1.1; omega
          rw [show o + j * 15 + 15 = o + (j + 1) * 15 by omega] at hR2
          rw [show o' + j * 15 + 15 = o' + (j + 1) * 15 by omega] at hR3
          simp only [GL.size] at hRs
          have hks : kids.size ≤ m := by omega
          have has : alts.size ≤ m := by omega
          have hps : szPL p ≤ 1048576 := by omega
          have hhs : hv.length ≤ 1048576 := by omega
          have gd := grown_drew (World.grownBy.refl wr none)
          have gc := CLe.grown gd
          have CC : Hid _ := eqLA_of hc hv p e0 x0 q0 d0 z0 a1 f1 l1 c1 g1 a2 f2 l2 c2 g2 a3 f3 l3 c3 g3 a4 f4 l4 c4 g4 a5 f5 l5 c5 g5 wr.drew (hgd.none gd) (hge.none gd) hhs (fun u hu => eqLT_of p kids alts a1 f1 l1 c1 g1 a2 f2 l2 c2 g2 a3 f3 l3 c3 g3 a4 f4 l4 c4 g4 a5 f5 l5 c5 g5 u ((hnd.none gd).none hu) ((hne.none gd).none hu) hps (fun u2 hu2 => IH.out.1 kids a4 f4 l4 c4 g4 u2 hks (((hnd.none gd).none hu).2.2.2.1.none hu2) (((hne.none gd).none hu).2.2.2.1.none hu2)) (fun u2 hu2 => IH.out.2 alts a5 f5 l5 c5 g5 u2 has (((hnd.none gd).none hu).2.2.2.2.none hu2) (((hne.none gd).none hu).2.2.2.2.none hu2)))
          have TT : Hid (∀ u, wr.grownBy u none → ((HedL u b (o + j * 15) (.int .i64 hc) (.slice e0 q0 d0) ∧ CelL u b (o + j * 15 + 2) (.int .i64 p.k) (.int .i64 p.n) (.int .i64 p.m) (.int .i64 p.c) (.slice a1 l1 c1) (.int .i64 p.tk) (.int .i64 p.tn) (.slice a2 l2 c2) (.int .i64 p.uk) (.int .i64 p.un) (.slice a3 l3 c3) (.slice a4 l4 c4) (.slice a5 l5 c5)) ∧ HedL u b' (o' + j * 15) (.int .i64 hc) (.slice x0 q0 z0) ∧ CelL u b' (o' + j * 15 + 2) (.int .i64 p.k) (.int .i64 p.n) (.int .i64 p.m) (.int .i64 p.c) (.slice f1 l1 g1) (.int .i64 p.tk) (.int .i64 p.tn) (.slice f2 l2 g2) (.int .i64 p.uk) (.int .i64 p.un) (.slice f3 l3 g3) (.slice f4 l4 g4) (.slice f5 l5 g5))) := fun u hu => ⟨⟨hh1.le (CLe.grown hu), kk1.le (CLe.grown hu)⟩, hh2.le (CLe.grown hu), kk2.le (CLe.grown hu)⟩
          have FX : Hid (w.grownBy wr.drew none ∧ InGL wr.drew wr.drew true R' b (o + (j + 1) * 15) ∧ InGL wr.drew wr.drew true R' b' (o' + (j + 1) * 15) ∧ wr.grownBy wr.drew none) := ⟨grown_trans hg gd, hR2.le gc gc, hR3.le gc gc, gd⟩
          clear hnd hne hR2 hR3 hg IN HR gd gc hi1 hi2 hgd hge hh1 hh2 kk1 kk2
          simp only [GL.len] at hRl
          go_wp2_with fail
          refine wp_region_held_drew (S := (fun u => ((HedL u b (o + j * 15) (.int .i64 hc) (.slice e0 q0 d0) ∧ CelL u b (o + j * 15 + 2) (.int .i64 p.k) (.int .i64 p.n) (.int .i64 p.m) (.int .i64 p.c) (.slice a1 l1 c1) (.int .i64 p.tk) (.int .i64 p.tn) (.slice a2 l2 c2) (.int .i64 p.uk) (.int .i64 p.un) (.slice a3 l3 c3) (.slice a4 l4 c4) (.slice a5 l5 c5)) ∧ HedL u b' (o' + j * 15) (.int .i64 hc) (.slice x0 q0 z0) ∧ CelL u b' (o' + j * 15 + 2) (.int .i64 p.k) (.int .i64 p.n) (.int .i64 p.m) (.int .i64 p.c) (.slice f1 l1 g1) (.int .i64 p.tk) (.int .i64 p.tn) (.slice f2 l2 g2) (.int .i64 p.uk) (.int .i64 p.un) (.slice f3 l3 g3) (.slice f4 l4 g4) (.slice f5 l5 g5)))) (by kernel_rfl) (TT.out _ FX.out.2.2.2) (fun hH => ?_)
          generalize wr.drew = u at *
          simp only [List.size_toArray, List.length_cons, List.length_nil, Nat.reduceAdd, Array.replicate, List.replicate]
          refine wpAnyH_take (i := 0) (v := ?_) rfl (by kernel_rfl) (by kernel_rfl) (by kernel_rfl) (fun _ _ _ h => h) (Or.inl ⟨by rfl, ?_⟩) hH ?_
          rotate_left
          · (intro v hS; obtain ⟨⟨⟨s0, s1⟩, ⟨t0, t1, t2, t3, t4, t5, t6, t7, t8, t9, t10, t11, t12⟩⟩, ⟨v0, v1⟩, ⟨q0, q1, q2, q3, q4, q5, q6, q7, q8, q9, q10, q11, q12⟩⟩ := hS; go_simp; try with_reducible rfl)
          simp only [Act.put, List.setIfInBounds_toArray, List.set_cons_zero, List.set_cons_succ, List.getElem_toArray, List.getElem_cons_succ, List.getElem_cons_zero]
          refine wpAnyH_take (i := 1) (v := ?_) rfl (by kernel_rfl) (by kernel_rfl) (by kernel_rfl) (fun _ _ _ h => h) (Or.inl ⟨by rfl, ?_⟩) hH ?_
          rotate_left
          · (intro v hS; obtain ⟨⟨⟨s0, s1⟩, ⟨t0, t1, t2, t3, t4, t5, t6, t7, t8, t9, t10, t11, t12⟩⟩, ⟨v0, v1⟩, ⟨q0, q1, q2, q3, q4, q5, q6, q7, q8, q9, q10, q11, q12⟩⟩ := hS; go_simp; try with_reducible rfl)
          simp only [Act.put, List.setIfInBounds_toArray, List.set_cons_zero, List.set_cons_succ, List.getElem_toArray, List.getElem_cons_succ, List.getElem_cons_zero]
          refine wpAnyH_take (i := 2) (v := ?_) rfl (by kernel_rfl) (by kernel_rfl) (by kernel_rfl) (fun _ _ _ h => h) (Or.inl ⟨by rfl, ?_⟩) hH ?_
          rotate_left
          · (intro v hS; obtain ⟨⟨⟨s0, s1⟩, ⟨t0, t1, t2, t3, t4, t5, t6, t7, t8, t9, t10, t11, t12⟩⟩, ⟨v0, v1⟩, ⟨q0, q1, q2, q3, q4, q5, q6, q7, q8, q9, q10, q11, q12⟩⟩ := hS; go_simp; try with_reducible rfl)
          simp only [Act.put, List.setIfInBounds_toArray, List.set_cons_zero, List.set_cons_succ, List.getElem_toArray, List.getElem_cons_succ, List.getElem_cons_zero]
          refine wpAnyH_take (i := 3) (v := ?_) rfl (by kernel_rfl) (by kernel_rfl) (by kernel_rfl) (fun _ _ _ h => h) (Or.inl ⟨by rfl, ?_⟩) hH ?_
          rotate_left
          · (intro v hS; obtain ⟨⟨⟨s0, s1⟩, ⟨t0, t1, t2, t3, t4, t5, t6, t7, t8, t9, t10, t11, t12⟩⟩, ⟨v0, v1⟩, ⟨q0, q1, q2, q3, q4, q5, q6, q7, q8, q9, q10, q11, q12⟩⟩ := hS; go_simp; try with_reducible rfl)
          simp only [Act.put, List.setIfInBounds_toArray, List.set_cons_zero, List.set_cons_succ, List.getElem_toArray, List.getElem_cons_succ, List.getElem_cons_zero]
          refine wpAnyH_take (i := 4) (v := ?_) rfl (by kernel_rfl) (by kernel_rfl) (by kernel_rfl) (fun _ _ _ h => h) (Or.inl ⟨by rfl, ?_⟩) hH ?_
          rotate_left
          · (intro v hS; obtain ⟨⟨⟨s0, s1⟩, ⟨t0, t1, t2, t3, t4, t5, t6, t7, t8, t9, t10, t11, t12⟩⟩, ⟨v0, v1⟩, ⟨q0, q1, q2, q3, q4, q5, q6, q7, q8, q9, q10, q11, q12⟩⟩ := hS; go_simp; try with_reducible rfl)
          simp only [Act.put, List.setIfInBounds_toArray, List.set_cons_zero, List.set_cons_succ, List.getElem_toArray, List.getElem_cons_succ, List.getElem_cons_zero]
          refine wpAnyH_take (i := 5) (v := ?_) rfl (by kernel_rfl) (by kernel_rfl) (by kernel_rfl) (fun _ _ _ h => h) (Or.inl ⟨by rfl, ?_⟩) hH ?_
          rotate_left
          · (intro v hS; obtain ⟨⟨⟨s0, s1⟩, ⟨t0, t1, t2, t3, t4, t5, t6, t7, t8, t9, t10, t11, t12⟩⟩, ⟨v0, v1⟩, ⟨q0, q1, q2, q3, q4, q5, q6, q7, q8, q9, q10, q11, q12⟩⟩ := hS; go_simp; try with_reducible rfl)
          simp only [Act.put, List.setIfInBounds_toArray, List.set_cons_zero, List.set_cons_succ, List.getElem_toArray, List.getElem_cons_succ, List.getElem_cons_zero]
          refine wpAnyH_take (i := 6) (v := ?_) rfl (by kernel_rfl) (by kernel_rfl) (by kernel_rfl) (fun _ _ _ h => h) (Or.inl ⟨by rfl, ?_⟩) hH ?_
          rotate_left
          · (intro v hS; obtain ⟨⟨⟨s0, s1⟩, ⟨t0, t1, t2, t3, t4, t5, t6, t7, t8, t9, t10, t11, t12⟩⟩, ⟨v0, v1⟩, ⟨q0, q1, q2, q3, q4, q5, q6, q7, q8, q9, q10, q11, q12⟩⟩ := hS; go_simp; try with_reducible rfl)
          simp only [Act.put, List.setIfInBounds_toArray, List.set_cons_zero, List.set_cons_succ, List.getElem_toArray, List.getElem_cons_succ, List.getElem_cons_zero]
          refine wpAnyH_take (i := 7) (v := ?_) rfl (by kernel_rfl) (by kernel_rfl) (by kernel_rfl) (fun _ _ _ h => h) (Or.inl ⟨by rfl, ?_⟩) hH ?_
          rotate_left
          · (intro v hS; obtain ⟨⟨⟨s0, s1⟩, ⟨t0, t1, t2, t3, t4, t5, t6, t7, t8, t9, t10, t11, t12⟩⟩, ⟨v0, v1⟩, ⟨q0, q1, q2, q3, q4, q5, q6, q7, q8, q9, q10, q11, q12⟩⟩ := hS; go_simp; try with_reducible rfl)
          simp only [Act.put, List.setIfInBounds_toArray, List.set_cons_zero, List.set_cons_succ, List.getElem_toArray, List.getElem_cons_succ, List.getElem_cons_zero]
          refine wpAnyH_ready (rs := [8]) (by kernel_rfl) (by simp) ?_
          refine AllReadyH.cons rfl (fun K hK => ?_) AllReadyH.nil
          go_simp
          refine Calls.mono CC.out ?_
          rintro e u2 ⟨he, hgu⟩
          subst he
          refine hK.out _ _ (TT.out _ (grown_trans FX.out.2.2.2 hgu)) (fun hH2 => ?_)
          clear hK K hH
          have hH := hH2
          clear hH2
          have FY : Hid (w.grownBy u2 none ∧ InGL u2 u2 true R' b (o + (j + 1) * 15) ∧ InGL u2 u2 true R' b' (o' + (j + 1) * 15)) := ⟨grown_trans FX.out.1 hgu, FX.out.2.1.le (CLe.grown hgu) (CLe.grown hgu), FX.out.2.2.1.le (CLe.grown hgu) (CLe.grown hgu)⟩
          clear FX hgu CC TT
          simp only [Act.put, List.setIfInBounds_toArray, List.set_cons_zero, List.set_cons_succ, List.getElem_toArray, List.getElem_cons_succ, List.getElem_cons_zero]
          refine wpAnyH_take (i := 9) (v := ?_) rfl (by kernel_rfl) (by kernel_rfl) (by kernel_rfl) (fun _ _ _ h => h) (Or.inl ⟨by rfl, ?_⟩) hH ?_
          rotate_left
          · (intro v hS; go_simp; try with_reducible rfl)
          simp only [Act.put, List.setIfInBounds_toArray, List.set_cons_zero, List.set_cons_succ, List.getElem_toArray, List.getElem_cons_succ, List.getElem_cons_zero]
          refine wpAnyH_done (by kernel_rfl) ?_ _
          go_wp2
          go_roundw
          case rel => exact ⟨j + 1, R', by omega, by go_num, FY, by omega, by omega⟩
          case measure => simp [intOf]; omega
        · obtain rfl : j = l := by omega
          have E : Hid (w.grownBy wr none) := HR.out.1
          clear HR IN
          go_wp2
          go_ret
          exact ⟨rfl, E.out⟩

theorem eqLT (p : PL) (kids alts : GL) (a1 f1 : Option Addr) (l1 c1 g1 : Nat) (a2 f2 : Option Addr) (l2 c2 g2 : Nat) (a3 f3 : Option Addr) (l3 c3 g3 : Nat) (a4 f4 : Option Addr) (l4 c4 g4 : Nat) (a5 f5 : Option Addr) (l5 c5 g5 : Nat) (w : World) (h : NdL w p kids alts a1 l1 a2 l2 a3 l3 a4 l4 a5 l5) (h' : NdL w p kids alts f1 l1 f2 l2 f3 l3 f4 l4 f5 l5) (hs : szPL p + kids.size + alts.size ≤ 1048576) :
    Calls Try.prog 8 #[.agg #[.int .i64 p.k, .int .i64 p.n, .int .i64 p.m, .int .i64 p.c, .slice a1 l1 c1, .int .i64 p.tk, .int .i64 p.tn, .slice a2 l2 c2, .int .i64 p.uk, .int .i64 p.un, .slice a3 l3 c3, .slice a4 l4 c4, .slice a5 l5 c5], .agg #[.int .i64 p.k, .int .i64 p.n, .int .i64 p.m, .int .i64 p.c, .slice f1 l1 g1, .int .i64 p.tk, .int .i64 p.tn, .slice f2 l2 g2, .int .i64 p.uk, .int .i64 p.un, .slice f3 l3 g3, .slice f4 l4 g4, .slice f5 l5 g5]] w fun e u => e = .returned (.bool true) ∧ w.grownBy u none :=
  eqLT_of p kids alts a1 f1 l1 c1 g1 a2 f2 l2 c2 g2 a3 f3 l3 c3 g3 a4 f4 l4 c4 g4 a5 f5 l5 c5 g5 w h h' (by omega) (fun u hu => (eqLS kids.size (by omega)).1 kids a4 f4 l4 c4 g4 u (Nat.le_refl _) (h.2.2.2.1.none hu) (h'.2.2.2.1.none hu)) (fun u hu => (eqLS alts.size (by omega)).2 alts a5 f5 l5 c5 g5 u (Nat.le_refl _) (h.2.2.2.2.none hu) (h'.2.2.2.2.none hu))
end Go.Proofs.Ytbeejgacdcncgaa.By
