/-
  How great Low nodes are: the law's own helpers by their contracts. No statement is proved here.
-/
import Derived.Test.YtbeejgacdcncgaaGBL
import Derived.Test.YtbeejgacdcncgaaGS
namespace Go.Proofs.Ytbeejgacdcncgaa.By
open Go.RowKit
set_option linter.unusedVariables false
set_option linter.unusedSimpArgs false

theorem blkL {w : World} {g : Nat} {t : TypeId} {v0 v1 v2 v3 v4 v5 v6 v7 v8 v9 v10 v11 v12 : Value} (h : w.heap[g]? = some (.cells #[v0, v1, v2, v3, v4, v5, v6, v7, v8, v9, v10, v11, v12] t (0, 0))) : (w.cell? ⟨g, 0, none⟩ = some v0 ∧ w.cell? ⟨g, 1, none⟩ = some v1 ∧ w.cell? ⟨g, 2, none⟩ = some v2 ∧ w.cell? ⟨g, 3, none⟩ = some v3 ∧ w.cell? ⟨g, 4, none⟩ = some v4 ∧ w.cell? ⟨g, 5, none⟩ = some v5 ∧ w.cell? ⟨g, 6, none⟩ = some v6 ∧ w.cell? ⟨g, 7, none⟩ = some v7 ∧ w.cell? ⟨g, 8, none⟩ = some v8 ∧ w.cell? ⟨g, 9, none⟩ = some v9 ∧ w.cell? ⟨g, 10, none⟩ = some v10 ∧ w.cell? ⟨g, 11, none⟩ = some v11 ∧ w.cell? ⟨g, 12, none⟩ = some v12) ∧ ∀ j, w.frozen? ⟨g, j, none⟩ = false := by
  refine ⟨⟨?_, ?_, ?_, ?_, ?_, ?_, ?_, ?_, ?_, ?_, ?_, ?_, ?_⟩, fun j => frozen_of_row w g _ _ t h⟩ <;> (rw [cell_of_row w g _ _ t (0, 0) h]; rfl)
theorem blkLA {w : World} {g : Nat} {t : TypeId} {v0 v1 v2 v3 v4 v5 v6 v7 v8 v9 v10 v11 v12 v13 v14 : Value} (h : w.heap[g]? = some (.cells #[v0, v1, v2, v3, v4, v5, v6, v7, v8, v9, v10, v11, v12, v13, v14] t (0, 0))) : (w.cell? ⟨g, 0, none⟩ = some v0 ∧ w.cell? ⟨g, 1, none⟩ = some v1 ∧ w.cell? ⟨g, 2, none⟩ = some v2 ∧ w.cell? ⟨g, 3, none⟩ = some v3 ∧ w.cell? ⟨g, 4, none⟩ = some v4 ∧ w.cell? ⟨g, 5, none⟩ = some v5 ∧ w.cell? ⟨g, 6, none⟩ = some v6 ∧ w.cell? ⟨g, 7, none⟩ = some v7 ∧ w.cell? ⟨g, 8, none⟩ = some v8 ∧ w.cell? ⟨g, 9, none⟩ = some v9 ∧ w.cell? ⟨g, 10, none⟩ = some v10 ∧ w.cell? ⟨g, 11, none⟩ = some v11 ∧ w.cell? ⟨g, 12, none⟩ = some v12 ∧ w.cell? ⟨g, 13, none⟩ = some v13 ∧ w.cell? ⟨g, 14, none⟩ = some v14) ∧ ∀ j, w.frozen? ⟨g, j, none⟩ = false := by
  refine ⟨⟨?_, ?_, ?_, ?_, ?_, ?_, ?_, ?_, ?_, ?_, ?_, ?_, ?_, ?_, ?_⟩, fun j => frozen_of_row w g _ _ t h⟩ <;> (rw [cell_of_row w g _ _ t (0, 0) h]; rfl)

set_option maxRecDepth 4000 in
set_option maxHeartbeats 4000000 in
theorem szLT_of (p : PL) (kids alts : GL) (a1 : Option Addr) (l1 c1 : Nat) (a2 : Option Addr) (l2 c2 : Nat) (a3 : Option Addr) (l3 c3 : Nat) (a4 : Option Addr) (l4 c4 : Nat) (a5 : Option Addr) (l5 c5 : Nat) (L : Int) (w : World) (h : NdL w p kids alts a1 l1 a2 l2 a3 l3 a4 l4 a5 l5) (h0 : 0 ≤ L) (h1 : L ≤ 1048576)
    (Hk : ∀ u L, w.grownBy u none → 0 ≤ L → L ≤ 1048576 → Calls Try.prog 11 #[.slice a4 l4 c4, .int .i64 L] u fun e v => SzW L kids.size e ∧ u.grownBy v none)
    (Ha : ∀ u L, w.grownBy u none → 0 ≤ L → L ≤ 1048576 → Calls Try.prog 12 #[.slice a5 l5 c5, .int .i64 L] u fun e v => SzW L alts.size e ∧ u.grownBy v none) :
    Calls Try.prog 4 #[.agg #[.int .i64 p.k, .int .i64 p.n, .int .i64 p.m, .int .i64 p.c, .slice a1 l1 c1, .int .i64 p.tk, .int .i64 p.tn, .slice a2 l2 c2, .int .i64 p.uk, .int .i64 p.un, .slice a3 l3 c3, .slice a4 l4 c4, .slice a5 l5 c5], .int .i64 L] w fun e u => SzW L (szPL p + kids.size + alts.size) e ∧ w.grownBy u none := by
  have g0 := World.grownBy_alloc w (.cells #[.int .i64 p.k, .int .i64 p.n, .int .i64 p.m, .int .i64 p.c, .slice a1 l1 c1, .int .i64 p.tk, .int .i64 p.tn, .slice a2 l2 c2, .int .i64 p.uk, .int .i64 p.un, .slice a3 l3 c3, .slice a4 l4 c4, .slice a5 l5 c5] 29) none
  have b0 := heap_alloc_new w (.cells #[.int .i64 p.k, .int .i64 p.n, .int .i64 p.m, .int .i64 p.c, .slice a1 l1 c1, .int .i64 p.tk, .int .i64 p.tn, .slice a2 l2 c2, .int .i64 p.uk, .int .i64 p.un, .slice a3 l3 c3, .slice a4 l4 c4, .slice a5 l5 c5] 29)
  have HK : Hid _ := Hk
  have HA : Hid _ := Ha
  have HN : Hid (∀ u, w.grownBy u none → NdL u p kids alts a1 l1 a2 l2 a3 l3 a4 l4 a5 l5) := fun u hu => h.none hu
  clear Hk Ha h
  have L0 : Hid (w.grownBy _ none ∧ _ = some (Obj.cells #[.int .i64 p.k, .int .i64 p.n, .int .i64 p.m, .int .i64 p.c, .slice a1 l1 c1, .int .i64 p.tk, .int .i64 p.tn, .slice a2 l2 c2, .int .i64 p.uk, .int .i64 p.un, .slice a3 l3 c3, .slice a4 l4 c4, .slice a5 l5 c5] 29)) := ⟨g0, b0⟩
  have C0 : Hid _ := szByW a1 l1 c1 (p.lit) L _ ((HN.out _ g0).1) h0 h1
  obtain ⟨⟨y0, y1, y2, y3, y4, y5, y6, y7, y8, y9, y10, y11, y12⟩, -⟩ := blkL b0
  clear g0 b0
  go_enter Try.func4, Try.ntmps4
  go_wp2_with fail
  refine Calls.mono C0.out ?_
  rintro e u0 ⟨⟨r0, he, hr⟩, hg⟩
  subst he
  have L1 : Hid (w.grownBy u0 none ∧ u0.heap[w.heap.size]? = some (Obj.cells #[.int .i64 p.k, .int .i64 p.n, .int .i64 p.m, .int .i64 p.c, .slice a1 l1 c1, .int .i64 p.tk, .int .i64 p.tn, .slice a2 l2 c2, .int .i64 p.uk, .int .i64 p.un, .slice a3 l3 c3, .slice a4 l4 c4, .slice a5 l5 c5] 29)) := ⟨grown_trans L0.out.1 hg, (hg.block _ (lt_of_block L0.out.2) (by simp)).trans L0.out.2⟩
  clear C0 hg L0 y0 y1 y2 y3 y4 y5 y6 y7 y8 y9 y10 y11 y12
  simp only []
  rcases hr with rfl | ⟨hr0, hs0⟩
  · go_wp2
    go_ret
    exact ⟨⟨-1, rfl, .inl rfl⟩, L1.out.1⟩
  have C1 : Hid _ := szTrW (p.tf) p.tk p.tn a2 l2 c2 r0 u0 ((HN.out _ L1.out.1).2.1) hr0 (by omega)
  obtain ⟨⟨y0, y1, y2, y3, y4, y5, y6, y7, y8, y9, y10, y11, y12⟩, -⟩ := blkL L1.out.2
  go_wp2_with fail
  refine Calls.mono C1.out ?_
  rintro e u1 ⟨⟨r1, he, hr⟩, hg⟩
  subst he
  have L2 : Hid (w.grownBy u1 none ∧ u1.heap[w.heap.size]? = some (Obj.cells #[.int .i64 p.k, .int .i64 p.n, .int .i64 p.m, .int .i64 p.c, .slice a1 l1 c1, .int .i64 p.tk, .int .i64 p.tn, .slice a2 l2 c2, .int .i64 p.uk, .int .i64 p.un, .slice a3 l3 c3, .slice a4 l4 c4, .slice a5 l5 c5] 29)) := ⟨grown_trans L1.out.1 hg, (hg.block _ (lt_of_block L1.out.2) (by simp)).trans L1.out.2⟩
  clear C1 hg L1 y0 y1 y2 y3 y4 y5 y6 y7 y8 y9 y10 y11 y12
  simp only []
  rcases hr with rfl | ⟨hr1, hs1⟩
  · go_wp2
    go_ret
    exact ⟨⟨-1, rfl, .inl rfl⟩, L2.out.1⟩
  have C2 : Hid _ := szTrW (p.uf) p.uk p.un a3 l3 c3 r1 u1 ((HN.out _ L2.out.1).2.2.1) hr1 (by omega)
  obtain ⟨⟨y0, y1, y2, y3, y4, y5, y6, y7, y8, y9, y10, y11, y12⟩, -⟩ := blkL L2.out.2
  go_wp2_with fail
  refine Calls.mono C2.out ?_
  rintro e u2 ⟨⟨r2, he, hr⟩, hg⟩
  subst he
  have L3 : Hid (w.grownBy u2 none ∧ u2.heap[w.heap.size]? = some (Obj.cells #[.int .i64 p.k, .int .i64 p.n, .int .i64 p.m, .int .i64 p.c, .slice a1 l1 c1, .int .i64 p.tk, .int .i64 p.tn, .slice a2 l2 c2, .int .i64 p.uk, .int .i64 p.un, .slice a3 l3 c3, .slice a4 l4 c4, .slice a5 l5 c5] 29)) := ⟨grown_trans L2.out.1 hg, (hg.block _ (lt_of_block L2.out.2) (by simp)).trans L2.out.2⟩
  clear C2 hg L2 y0 y1 y2 y3 y4 y5 y6 y7 y8 y9 y10 y11 y12
  simp only []
  rcases hr with rfl | ⟨hr2, hs2⟩
  · go_wp2
    go_ret
    exact ⟨⟨-1, rfl, .inl rfl⟩, L3.out.1⟩
  have C3 : Hid _ := HK.out u2 r2 L3.out.1 hr2 (by omega)
  obtain ⟨⟨y0, y1, y2, y3, y4, y5, y6, y7, y8, y9, y10, y11, y12⟩, -⟩ := blkL L3.out.2
  go_wp2_with fail
  refine Calls.mono C3.out ?_
  rintro e u3 ⟨⟨r3, he, hr⟩, hg⟩
  subst he
  have L4 : Hid (w.grownBy u3 none ∧ u3.heap[w.heap.size]? = some (Obj.cells #[.int .i64 p.k, .int .i64 p.n, .int .i64 p.m, .int .i64 p.c, .slice a1 l1 c1, .int .i64 p.tk, .int .i64 p.tn, .slice a2 l2 c2, .int .i64 p.uk, .int .i64 p.un, .slice a3 l3 c3, .slice a4 l4 c4, .slice a5 l5 c5] 29)) := ⟨grown_trans L3.out.1 hg, (hg.block _ (lt_of_block L3.out.2) (by simp)).trans L3.out.2⟩
  clear C3 hg L3 y0 y1 y2 y3 y4 y5 y6 y7 y8 y9 y10 y11 y12
  simp only []
  rcases hr with rfl | ⟨hr3, hs3⟩
  · go_wp2
    go_ret
    exact ⟨⟨-1, rfl, .inl rfl⟩, L4.out.1⟩
  have C4 : Hid _ := HA.out u3 r3 L4.out.1 hr3 (by omega)
  obtain ⟨⟨y0, y1, y2, y3, y4, y5, y6, y7, y8, y9, y10, y11, y12⟩, -⟩ := blkL L4.out.2
  go_wp2_with fail
  refine Calls.mono C4.out ?_
  rintro e u4 ⟨⟨r4, he, hr⟩, hg⟩
  subst he
  have L5 : Hid (w.grownBy u4 none ∧ u4.heap[w.heap.size]? = some (Obj.cells #[.int .i64 p.k, .int .i64 p.n, .int .i64 p.m, .int .i64 p.c, .slice a1 l1 c1, .int .i64 p.tk, .int .i64 p.tn, .slice a2 l2 c2, .int .i64 p.uk, .int .i64 p.un, .slice a3 l3 c3, .slice a4 l4 c4, .slice a5 l5 c5] 29)) := ⟨grown_trans L4.out.1 hg, (hg.block _ (lt_of_block L4.out.2) (by simp)).trans L4.out.2⟩
  clear C4 hg L4 y0 y1 y2 y3 y4 y5 y6 y7 y8 y9 y10 y11 y12
  simp only []
  rcases hr with rfl | ⟨hr4, hs4⟩
  · go_wp2
    go_ret
    exact ⟨⟨-1, rfl, .inl rfl⟩, L5.out.1⟩
  go_wp2
  go_ret
  exact ⟨⟨r4, rfl, .inr ⟨hr4, by unfold szPL; omega⟩⟩, L5.out.1⟩

set_option maxRecDepth 4000 in
set_option maxHeartbeats 4000000 in
theorem szLA_of (hc : Int) (hv : List Int) (p : PL) (B : Nat) (e0 : Option Addr) (q0 d0 : Nat) (a1 : Option Addr) (l1 c1 : Nat) (a2 : Option Addr) (l2 c2 : Nat) (a3 : Option Addr) (l3 c3 : Nat) (a4 : Option Addr) (l4 c4 : Nat) (a5 : Option Addr) (l5 c5 : Nat) (L : Int) (w : World) (h : RdI w e0 q0 hv) (h0 : 0 ≤ L) (h1 : L ≤ 1048576)
    (Hb : ∀ u L, w.grownBy u none → 0 ≤ L → L ≤ 1048576 → Calls Try.prog 4 #[.agg #[.int .i64 p.k, .int .i64 p.n, .int .i64 p.m, .int .i64 p.c, .slice a1 l1 c1, .int .i64 p.tk, .int .i64 p.tn, .slice a2 l2 c2, .int .i64 p.uk, .int .i64 p.un, .slice a3 l3 c3, .slice a4 l4 c4, .slice a5 l5 c5], .int .i64 L] u fun e v => SzW L B e ∧ u.grownBy v none) :
    Calls Try.prog 24 #[.agg #[.int .i64 hc, .slice e0 q0 d0, .int .i64 p.k, .int .i64 p.n, .int .i64 p.m, .int .i64 p.c, .slice a1 l1 c1, .int .i64 p.tk, .int .i64 p.tn, .slice a2 l2 c2, .int .i64 p.uk, .int .i64 p.un, .slice a3 l3 c3, .slice a4 l4 c4, .slice a5 l5 c5], .int .i64 L] w fun e u => SzW L ((hv.length) + B) e ∧ w.grownBy u none := by
  have g0 := World.grownBy_alloc w (.cells #[.int .i64 hc, .slice e0 q0 d0, .int .i64 p.k, .int .i64 p.n, .int .i64 p.m, .int .i64 p.c, .slice a1 l1 c1, .int .i64 p.tk, .int .i64 p.tn, .slice a2 l2 c2, .int .i64 p.uk, .int .i64 p.un, .slice a3 l3 c3, .slice a4 l4 c4, .slice a5 l5 c5] 60) none
  have b0 := heap_alloc_new w (.cells #[.int .i64 hc, .slice e0 q0 d0, .int .i64 p.k, .int .i64 p.n, .int .i64 p.m, .int .i64 p.c, .slice a1 l1 c1, .int .i64 p.tk, .int .i64 p.tn, .slice a2 l2 c2, .int .i64 p.uk, .int .i64 p.un, .slice a3 l3 c3, .slice a4 l4 c4, .slice a5 l5 c5] 60)
  have HB : Hid _ := Hb
  have HN : Hid (∀ u, w.grownBy u none → RdI u e0 q0 hv) := fun u hu => h.none hu
  clear Hb h
  have L0 : Hid (w.grownBy _ none ∧ _ = some (Obj.cells #[.int .i64 hc, .slice e0 q0 d0, .int .i64 p.k, .int .i64 p.n, .int .i64 p.m, .int .i64 p.c, .slice a1 l1 c1, .int .i64 p.tk, .int .i64 p.tn, .slice a2 l2 c2, .int .i64 p.uk, .int .i64 p.un, .slice a3 l3 c3, .slice a4 l4 c4, .slice a5 l5 c5] 60)) := ⟨g0, b0⟩
  have C0 : Hid _ := szInW e0 q0 d0 hv L _ ((HN.out _ g0)) h0 h1
  obtain ⟨⟨y0, y1, y2, y3, y4, y5, y6, y7, y8, y9, y10, y11, y12, y13, y14⟩, -⟩ := blkLA b0
  clear g0 b0
  go_enter Try.func24, Try.ntmps24
  go_wp2_with fail
  refine Calls.mono C0.out ?_
  rintro e u0 ⟨⟨r0, he, hr⟩, hg⟩
  subst he
  have L1 : Hid (w.grownBy u0 none ∧ u0.heap[w.heap.size]? = some (Obj.cells #[.int .i64 hc, .slice e0 q0 d0, .int .i64 p.k, .int .i64 p.n, .int .i64 p.m, .int .i64 p.c, .slice a1 l1 c1, .int .i64 p.tk, .int .i64 p.tn, .slice a2 l2 c2, .int .i64 p.uk, .int .i64 p.un, .slice a3 l3 c3, .slice a4 l4 c4, .slice a5 l5 c5] 60)) := ⟨grown_trans L0.out.1 hg, (hg.block _ (lt_of_block L0.out.2) (by simp)).trans L0.out.2⟩
  clear C0 hg L0 y0 y1 y2 y3 y4 y5 y6 y7 y8 y9 y10 y11 y12 y13 y14
  simp only []
  rcases hr with rfl | ⟨hr0, hs0⟩
  · go_wp2
    go_ret
    exact ⟨⟨-1, rfl, .inl rfl⟩, L1.out.1⟩
  have C1 : Hid _ := HB.out u0 r0 L1.out.1 hr0 (by omega)
  obtain ⟨⟨y0, y1, y2, y3, y4, y5, y6, y7, y8, y9, y10, y11, y12, y13, y14⟩, -⟩ := blkLA L1.out.2
  go_wp2_with fail
  refine Calls.mono C1.out ?_
  rintro e u1 ⟨⟨r1, he, hr⟩, hg⟩
  subst he
  have L2 : Hid (w.grownBy u1 none ∧ u1.heap[w.heap.size]? = some (Obj.cells #[.int .i64 hc, .slice e0 q0 d0, .int .i64 p.k, .int .i64 p.n, .int .i64 p.m, .int .i64 p.c, .slice a1 l1 c1, .int .i64 p.tk, .int .i64 p.tn, .slice a2 l2 c2, .int .i64 p.uk, .int .i64 p.un, .slice a3 l3 c3, .slice a4 l4 c4, .slice a5 l5 c5] 60)) := ⟨grown_trans L1.out.1 hg, (hg.block _ (lt_of_block L1.out.2) (by simp)).trans L1.out.2⟩
  clear C1 hg L1 y0 y1 y2 y3 y4 y5 y6 y7 y8 y9 y10 y11 y12 y13 y14
  simp only []
  rcases hr with rfl | ⟨hr1, hs1⟩
  · go_wp2
    go_ret
    exact ⟨⟨-1, rfl, .inl rfl⟩, L2.out.1⟩
  go_wp2
  go_ret
  exact ⟨⟨r1, rfl, .inr ⟨hr1, by omega⟩⟩, L2.out.1⟩

set_option maxRecDepth 4000 in
set_option maxHeartbeats 8000000 in
theorem szLS (m : Nat) : (∀ (g : GL) (a : Option Addr) (l c : Nat) (L : Int) (w : World), g.size ≤ m → SlGL w false a l g → 0 ≤ L → L ≤ 1048576 → Calls Try.prog 11 #[.slice a l c, .int .i64 L] w fun e u => SzW L g.size e ∧ w.grownBy u none) ∧
    (∀ (g : GL) (a : Option Addr) (l c : Nat) (L : Int) (w : World), g.size ≤ m → SlGL w true a l g → 0 ≤ L → L ≤ 1048576 → Calls Try.prog 12 #[.slice a l c, .int .i64 L] w fun e u => SzW L g.size e ∧ w.grownBy u none) := by
  induction m with
  | zero =>
    constructor
    · intro g a l c L w hm h h0 h1
      have hlen := g.len_le
      have hl := h.2.1
      have hfl := h.1
      obtain rfl : l = 0 := by omega
      obtain rfl := GL.nil_of_len hfl
      clear h
      go_enter Try.func11, Try.ntmps11
      go_wp2
      refine wp_loop_rounds 1 ?_
      rw [rounds_succ]
      go_wp2
      go_ret
      exact ⟨⟨_, rfl, .inr ⟨by omega, by simp [GL.size]⟩⟩, World.grownBy.refl _ _⟩
    · intro g a l c L w hm h h0 h1
      have hlen := g.len_le
      have hl := h.2.1
      have hfl := h.1
      obtain rfl : l = 0 := by omega
      obtain rfl := GL.nil_of_len hfl
      clear h
      go_enter Try.func12, Try.ntmps12
      go_wp2
      refine wp_loop_rounds 1 ?_
      rw [rounds_succ]
      go_wp2
      go_ret
      exact ⟨⟨_, rfl, .inr ⟨by omega, by simp [GL.size]⟩⟩, World.grownBy.refl _ _⟩
  | succ m ih =>
    have IH : Hid _ := ih
    clear ih
    constructor
    · intro g a l c L w hm h h0 h1
      have hlen := g.len_le
      have hl := h.2.1
      have hfl := h.1
      by_cases hneg : L - (l : Int) < 0
      · go_enter Try.func11, Try.ntmps11
        go_wp2
        go_ret
        exact ⟨⟨-1, rfl, .inl rfl⟩, World.grownBy.refl _ _⟩
      rcases h.cases with ⟨rfl, rfl⟩ | ⟨b, o, rfl, hin, hpos⟩
      · go_enter Try.func11, Try.ntmps11
        go_wp2
        refine wp_loop_rounds 1 ?_
        rw [rounds_succ]
        go_wp2
        go_ret
        exact ⟨⟨_, rfl, .inr ⟨by omega, by simp [GL.size]⟩⟩, World.grownBy.refl _ _⟩
      have IN : Hid (InGL w w false g b o) := hin
      clear hin h
      go_enter Try.func11, Try.ntmps11
      go_wp2
      go_loopw [1, 5] (fun v i wr => ∃ (j : Nat) (R : GL) (Lj : Int), j ≤ l ∧ i = .int .i64 j ∧ v = .int .i64 Lj ∧ 0 ≤ Lj ∧ Lj ≤ 1048576 ∧ Hid (w.grownBy wr none ∧ InGL wr wr false R b (o + j * 13)) ∧ R.len + j = l ∧ R.size ≤ m + 1 ∧ Hid (Lj - (R.size - R.len : Int) ≤ L - g.size)) (fun _ i _ => l - (intOf i).toNat)
      case atStart =>
        refine ⟨0, g, _, Nat.zero_le _, rfl, rfl, by omega, by omega, ⟨World.grownBy.refl _ _, by simpa using IN.out⟩, by omega, hm, ?_⟩
        show (_ : Int) ≤ _
        omega
      case round =>
        obtain ⟨j, R, Lj, hj, rfl, rfl, hj0, hj1, HR, hRl, hRm, HV⟩ := hrel
        by_cases hlt : j < l
        · obtain ⟨q, hq⟩ : ∃ q, R.len = q + 1 := ⟨R.len - 1, by omega⟩
          obtain ⟨hc, hv, p, kids, alts, R', rfl, hR'⟩ := GL.cons_of_len hq
          have hg := HR.out.1
          obtain ⟨hhv, a1, l1, c1, a2, l2, c2, a3, l3, c3, a4, l4, c4, a5, l5, c5, ⟨k0, k1, k2, k3, k4, k5, k6, k7, k8, k9, k10, k11, k12⟩, hnd, hR2⟩ := HR.out.2.kid
          rw [show o + j * 13 + 13 = o + (j + 1) * 13 by omega] at hR2
          have hz0 : hv.length = 0 := by subst hhv; rfl
          clear hhv
          simp only [GL.size] at hRm
          have hks : kids.size ≤ m := by omega
          have has : alts.size ≤ m := by omega
          have CC : Hid _ := szLT_of p kids alts a1 l1 c1 a2 l2 c2 a3 l3 c3 a4 l4 c4 a5 l5 c5 Lj wr hnd hj0 hj1 (fun u2 L hu2 h0 h1 => IH.out.1 kids a4 l4 c4 L u2 hks (hnd.2.2.2.1.none hu2) h0 h1) (fun u2 L hu2 h0 h1 => IH.out.2 alts a5 l5 c5 L u2 has (hnd.2.2.2.2.none hu2) h0 h1)
          have FX : Hid (InGL wr wr false R' b (o + (j + 1) * 13) ∧ w.grownBy wr none) := ⟨hR2, hg⟩
          clear hnd hR2 hg IN HR 
          simp only [GL.len] at hRl
          go_wp2_with fail
          refine Calls.mono CC.out ?_
          rintro e u ⟨⟨r, he, hr⟩, hgu⟩
          subst he
          have FY : Hid (w.grownBy u none ∧ InGL u u false R' b (o + (j + 1) * 13)) := ⟨grown_trans FX.out.2 hgu, FX.out.1.le (CLe.grown hgu) (CLe.grown hgu)⟩
          have hl2 := R'.len_le
          have hv := HV.out
          simp only [GL.size, GL.len] at hv
          clear CC hgu FX k0 k1 k2 k3 k4 k5 k6 k7 k8 k9 k10 k11 k12 HV
          simp only []
          rcases hr with rfl | ⟨hr0, hr1⟩
          · go_wp2
            go_ret
            exact ⟨⟨-1, rfl, .inl rfl⟩, FY.out.1⟩
          · have HV2 : Hid (r - (R'.size - R'.len : Int) ≤ L - g.size) := by show (_ : Int) ≤ _; omega
            clear hv
            go_wp2
            go_roundw
            case rel => exact ⟨j + 1, R', r, by omega, by go_num, rfl, by omega, by omega, FY, by omega, by omega, HV2⟩
            case measure => simp [intOf]; omega
        · obtain rfl : j = l := by omega
          obtain rfl : R = .nil := GL.nil_of_len (by omega)
          have E : Hid ((Lj ≤ L - g.size) ∧ w.grownBy wr none) := ⟨by have := HV.out; simp [GL.size, GL.len] at this; omega, HR.out.1⟩
          clear HR IN HV
          go_wp2
          go_ret
          exact ⟨⟨Lj, rfl, .inr ⟨hj0, by have := E.out.1; omega⟩⟩, E.out.2⟩
    · intro g a l c L w hm h h0 h1
      have hlen := g.len_le
      have hl := h.2.1
      have hfl := h.1
      by_cases hneg : L - (l : Int) < 0
      · go_enter Try.func12, Try.ntmps12
        go_wp2
        go_ret
        exact ⟨⟨-1, rfl, .inl rfl⟩, World.grownBy.refl _ _⟩
      rcases h.cases with ⟨rfl, rfl⟩ | ⟨b, o, rfl, hin, hpos⟩
      · go_enter Try.func12, Try.ntmps12
        go_wp2
        refine wp_loop_rounds 1 ?_
        rw [rounds_succ]
        go_wp2
        go_ret
        exact ⟨⟨_, rfl, .inr ⟨by omega, by simp [GL.size]⟩⟩, World.grownBy.refl _ _⟩
      have IN : Hid (InGL w w true g b o) := hin
      clear hin h
      go_enter Try.func12, Try.ntmps12
      go_wp2
      go_loopw [1, 5] (fun v i wr => ∃ (j : Nat) (R : GL) (Lj : Int), j ≤ l ∧ i = .int .i64 j ∧ v = .int .i64 Lj ∧ 0 ≤ Lj ∧ Lj ≤ 1048576 ∧ Hid (w.grownBy wr none ∧ InGL wr wr true R b (o + j * 15)) ∧ R.len + j = l ∧ R.size ≤ m + 1 ∧ Hid (Lj - (R.size - R.len : Int) ≤ L - g.size)) (fun _ i _ => l - (intOf i).toNat)
      case atStart =>
        refine ⟨0, g, _, Nat.zero_le _, rfl, rfl, by omega, by omega, ⟨World.grownBy.refl _ _, by simpa using IN.out⟩, by omega, hm, ?_⟩
        show (_ : Int) ≤ _
        omega
      case round =>
        obtain ⟨j, R, Lj, hj, rfl, rfl, hj0, hj1, HR, hRl, hRm, HV⟩ := hrel
        by_cases hlt : j < l
        · obtain ⟨q, hq⟩ : ∃ q, R.len = q + 1 := ⟨R.len - 1, by omega⟩
          obtain ⟨hc, hv, p, kids, alts, R', rfl, hR'⟩ := GL.cons_of_len hq
          have hg := HR.out.1
          obtain ⟨e0, q0, d0, a1, l1, c1, a2, l2, c2, a3, l3, c3, a4, l4, c4, a5, l5, c5, ⟨m0, m1⟩, hgd, ⟨k0, k1, k2, k3, k4, k5, k6, k7, k8, k9, k10, k11, k12⟩, hnd, hR2⟩ := HR.out.2.alt
          rw [show o + j * 15 + 15 = o + (j + 1) * 15 by omega] at hR2
          simp only [GL.size] at hRm
          have hks : kids.size ≤ m := by omega
          have has : alts.size ≤ m := by omega
          have CC : Hid _ := szLA_of hc hv p _ e0 q0 d0 a1 l1 c1 a2 l2 c2 a3 l3 c3 a4 l4 c4 a5 l5 c5 Lj wr hgd hj0 hj1 (fun u L hu h0 h1 => szLT_of p kids alts a1 l1 c1 a2 l2 c2 a3 l3 c3 a4 l4 c4 a5 l5 c5 L u (hnd.none hu) h0 h1 (fun u2 L hu2 h0 h1 => IH.out.1 kids a4 l4 c4 L u2 hks ((hnd.2.2.2.1.none hu).none hu2) h0 h1) (fun u2 L hu2 h0 h1 => IH.out.2 alts a5 l5 c5 L u2 has ((hnd.2.2.2.2.none hu).none hu2) h0 h1))
          have FX : Hid (InGL wr wr true R' b (o + (j + 1) * 15) ∧ w.grownBy wr none) := ⟨hR2, hg⟩
          clear hnd hR2 hg IN HR hgd
          simp only [GL.len] at hRl
          go_wp2_with fail
          refine Calls.mono CC.out ?_
          rintro e u ⟨⟨r, he, hr⟩, hgu⟩
          subst he
          have FY : Hid (w.grownBy u none ∧ InGL u u true R' b (o + (j + 1) * 15)) := ⟨grown_trans FX.out.2 hgu, FX.out.1.le (CLe.grown hgu) (CLe.grown hgu)⟩
          have hl2 := R'.len_le
          have hv := HV.out
          simp only [GL.size, GL.len] at hv
          clear CC hgu FX m0 m1 k0 k1 k2 k3 k4 k5 k6 k7 k8 k9 k10 k11 k12 HV
          simp only []
          rcases hr with rfl | ⟨hr0, hr1⟩
          · go_wp2
            go_ret
            exact ⟨⟨-1, rfl, .inl rfl⟩, FY.out.1⟩
          · have HV2 : Hid (r - (R'.size - R'.len : Int) ≤ L - g.size) := by show (_ : Int) ≤ _; omega
            clear hv
            go_wp2
            go_roundw
            case rel => exact ⟨j + 1, R', r, by omega, by go_num, rfl, by omega, by omega, FY, by omega, by omega, HV2⟩
            case measure => simp [intOf]; omega
        · obtain rfl : j = l := by omega
          obtain rfl : R = .nil := GL.nil_of_len (by omega)
          have E : Hid ((Lj ≤ L - g.size) ∧ w.grownBy wr none) := ⟨by have := HV.out; simp [GL.size, GL.len] at this; omega, HR.out.1⟩
          clear HR IN HV
          go_wp2
          go_ret
          exact ⟨⟨Lj, rfl, .inr ⟨hj0, by have := E.out.1; omega⟩⟩, E.out.2⟩

theorem szLT (p : PL) (kids alts : GL) (a1 : Option Addr) (l1 c1 : Nat) (a2 : Option Addr) (l2 c2 : Nat) (a3 : Option Addr) (l3 c3 : Nat) (a4 : Option Addr) (l4 c4 : Nat) (a5 : Option Addr) (l5 c5 : Nat) (L : Int) (w : World) (h : NdL w p kids alts a1 l1 a2 l2 a3 l3 a4 l4 a5 l5) (h0 : 0 ≤ L) (h1 : L ≤ 1048576) :
    Calls Try.prog 4 #[.agg #[.int .i64 p.k, .int .i64 p.n, .int .i64 p.m, .int .i64 p.c, .slice a1 l1 c1, .int .i64 p.tk, .int .i64 p.tn, .slice a2 l2 c2, .int .i64 p.uk, .int .i64 p.un, .slice a3 l3 c3, .slice a4 l4 c4, .slice a5 l5 c5], .int .i64 L] w fun e u => SzW L (szPL p + kids.size + alts.size) e ∧ w.grownBy u none :=
  szLT_of p kids alts a1 l1 c1 a2 l2 c2 a3 l3 c3 a4 l4 c4 a5 l5 c5 L w h h0 h1 (fun u L hu h0 h1 => (szLS kids.size).1 kids a4 l4 c4 L u (Nat.le_refl _) (h.2.2.2.1.none hu) h0 h1) (fun u L hu h0 h1 => (szLS alts.size).2 alts a5 l5 c5 L u (Nat.le_refl _) (h.2.2.2.2.none hu) h0 h1)
end Go.Proofs.Ytbeejgacdcncgaa.By
