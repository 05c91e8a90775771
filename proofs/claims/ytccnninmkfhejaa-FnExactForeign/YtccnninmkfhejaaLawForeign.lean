/-
  The walk of laws.FnExactForeign. No statement is proved here.
-/
import Derived.Test.YtccnninmkfhejaaYLaAlso
namespace Go.Proofs.Ytccnninmkfhejaa.By
open Go.RowKit
set_option linter.unusedVariables false
set_option linter.unusedSimpArgs false

set_option maxRecDepth 8000 in
set_option maxHeartbeats 8000000 in
theorem lawForeign (x : RWorld) (a1 : Option Addr) (l1 c1 : Nat) (a2 : Option Addr) (l2 c2 : Nat) (a3 : Option Addr) (l3 c3 : Nat) (kind A C : Int) (a : Option Addr) (l c : Nat) (lit : List Int) (hb : Byt lit) (w : World) (h : RdWorld w x a1 l1 a2 l2 a3 l3) (hk : I64x kind) (hA : I64x A) (hC : I64x C) (hr : Reads w a l lit) (hn : l ≤ 9223372036854775807) :
    Calls Try.prog 4 #[.agg #[.int .i64 x.ticks, .slice a1 l1 c1, .slice a2 l2 c2, .slice a3 l3 c3], .int .i64 kind, .int .i64 A, .int .i64 C, .slice a l c] w fun e u => e = .returned (.bool true) ∧ w.grownBy u none := by
  have g0 := World.grownBy_alloc w (.cells #[.int .i64 x.ticks, .slice a1 l1 c1, .slice a2 l2 c2, .slice a3 l3 c3] 41) none
  have b0 := heap_alloc_new w (.cells #[.int .i64 x.ticks, .slice a1 l1 c1, .slice a2 l2 c2, .slice a3 l3 c3] 41)
  by_cases hll : l ≤ 1048576
  rotate_left
  · have hs' : (1048576 : Int) < l := by omega
    have G1 : Hid (w.grownBy _ none) := g0
    clear hr h b0 g0 hb hk hA hC hn
    go_enter Try.func4, Try.ntmps4
    go_wp2
    go_ret
    exact ⟨rfl, G1.out⟩
  have hs1 : ¬ ((1048576 : Int) < l) := by omega
  have HD : Hid (RdWorld w x a1 l1 a2 l2 a3 l3 ∧ RdB w a l lit ∧ I64x kind ∧ Byt lit ∧ lit.length = l) := ⟨h, ⟨hr, hb, hn⟩, hk, hb, hr.1⟩
  have C1 : Hid _ := szWorldT x a1 l1 c1 a2 l2 c2 a3 l3 c3 1048576 _ (h.none g0) (by omega) (by omega)
  have L0 : Hid (w.grownBy _ none ∧ _ = some (Obj.cells #[.int .i64 x.ticks, .slice a1 l1 c1, .slice a2 l2 c2, .slice a3 l3 c3] 41)) := ⟨g0, b0⟩
  obtain ⟨⟨y0, y1, y2, y3⟩, -⟩ := blkWorld b0
  obtain ⟨Y, hF⟩ : ∃ Y, forV x kind A C lit = Y := ⟨_, rfl⟩
  obtain ⟨y, R, b⟩ := Y
  have HF : Hid (forV x kind A C lit = (y, R, b)) := hF
  clear g0 b0 h hr hb hk hA hC hn hF
  go_enter Try.func4, Try.ntmps4
  go_wp2_with fail
  refine Calls.mono C1.out ?_
  rintro e w1 ⟨⟨r0, he, hr⟩, hg⟩
  subst he
  obtain ⟨g0, b0⟩ := L0.out
  have g1 := grown_trans g0 hg
  have b1 := (hg.block _ (lt_of_block b0) (by simp)).trans b0
  clear hg L0 C1 g0 b0 y0 y1 y2 y3
  simp only []
  rcases hr with rfl | ⟨hr0, hr1⟩
  · have G1 : Hid (w.grownBy w1 none) := g1
    clear g1 b1
    go_wp2
    go_ret
    exact ⟨rfl, G1.out⟩
  have hs' : szWorld x ≤ 1048576 := by omega
  have hneg : ¬ r0 < 0 := by omega
  have HM : Hid (szWorld y ≤ 1048700 ∧ markN y ≤ 4194304 ∧ (∀ v ∈ y.trace, v.lit.length ≤ 1048576)) := by
    have h9 := forV_sz x kind A C lit hs'
    rw [HF.out] at h9
    exact h9
  obtain ⟨m1, hm1⟩ : ∃ m, y.draws.length = m := ⟨_, rfl⟩
  obtain ⟨m2, hm2⟩ : ∃ m, y.store.length = m := ⟨_, rfl⟩
  obtain ⟨m3, hm3⟩ : ∃ m, y.trace.length = m := ⟨_, rfl⟩
  have HN : Hid (y.draws.length = m1 ∧ y.store.length = m2 ∧ y.trace.length = m3 ∧ m2 ≤ 4194304 ∧ m3 ≤ 4194304) := by
    have h9 := HM.out.1
    unfold szWorld at h9
    rw [szEntrys_eq] at h9
    have h8 := szEvents_len y.trace
    exact ⟨hm1, hm2, hm3, by omega, by omega⟩
  clear hm1 hm2 hm3
  generalize ep : w.heap.size = p at b1
  have EP : Hid (w.heap.size = p) := ep
  try simp only [ep]
  have L1 : Hid ((w.grownBy w1 none) ∧ (w1.heap[p]? = some (Obj.cells #[.int .i64 x.ticks, .slice a1 l1 c1, .slice a2 l2 c2, .slice a3 l3 c3] 41))) := ⟨g1, b1⟩
  clear g1 b1 ep
  obtain ⟨⟨x0_0, x0_1, x0_2, x0_3⟩, -⟩ := blkWorld (L1.out.2)
  go_wp2_with fail
  refine Calls.mono (toWorldT x a1 l1 c1 a2 l2 c2 a3 l3 c3 w1 (HD.out.1.none (L1.out.1)) hs') ?_
  rintro e w2 ⟨t1, v1, t2, v2, t3, v3, he, hg, hn⟩
  subst he
  have L2 : Hid ((w.grownBy w2 none) ∧ (w2.heap[p]? = some (Obj.cells #[.int .i64 x.ticks, .slice a1 l1 c1, .slice a2 l2 c2, .slice a3 l3 c3] 41)) ∧ (RdWorld w2 x t1 l1 t2 l2 t3 l3)) := ⟨grown_trans (L1.out.1) hg, (World.grownBy.block hg _ (lt_of_block (L1.out.2)) (by simp)).trans (L1.out.2), hn.le CLe.unhidz⟩
  clear L1 x0_0 x0_1 x0_2 x0_3
  clear hg
  simp only []
  clear hn
  go_wp2_with fail
  refine Calls.mono (toB a l c lit w2 (HD.out.2.1.none (L2.out.1)).1 hll) ?_
  rintro e w3 ⟨gl, rfl, hg, hb1, hrow⟩
  have L3 : Hid ((w.grownBy w3 none) ∧ (w3.heap[p]? = some (Obj.cells #[.int .i64 x.ticks, .slice a1 l1 c1, .slice a2 l2 c2, .slice a3 l3 c3] 41)) ∧ (RdWorld w3 x t1 l1 t2 l2 t3 l3) ∧ (RdB w3 (some ⟨gl, 0, none⟩) l lit)) := ⟨grown_trans (L2.out.1) hg, (World.grownBy.block hg _ (lt_of_block (L2.out.2.1)) (by simp)).trans (L2.out.2.1), RdWorld.none (L2.out.2.2) hg, (hrow.hiz HD.out.2.2.2.1 HD.out.2.2.2.2 hll (Nat.le_refl gl)).le CLe.unhidz⟩
  clear L2
  clear hg
  simp only []
  clear hb1 hrow
  go_wp2_with fail
  refine Calls.mono (specF x y kind A C R b lit HF.out m1 m2 m3 HN.out.1 HN.out.2.1 HN.out.2.2.1 t1 l1 v1 t2 l2 v2 t3 l3 v3 (some ⟨gl, 0, none⟩) l l w3 (L3.out.2.2.1) (L3.out.2.2.2) hs') ?_
  rintro e w4 ⟨d1, k1, d2, k2, d3, k3, vs, hi, he, ho, hg⟩
  subst he
  have ga := World.grownBy_alloc w4 (.cells #[.int .i64 y.ticks, .slice d1 m1 k1, .slice d2 m2 k2, .slice d3 m3 k3] 27) none
  have ba := heap_alloc_new w4 (.cells #[.int .i64 y.ticks, .slice d1 m1 k1, .slice d2 m2 k2, .slice d3 m3 k3] 27)
  have hgg := grown_trans hg ga
  have L4 : Hid ((w.grownBy (w4.alloc (.cells #[.int .i64 y.ticks, .slice d1 m1 k1, .slice d2 m2 k2, .slice d3 m3 k3] 27)) none) ∧ ((w4.alloc (.cells #[.int .i64 y.ticks, .slice d1 m1 k1, .slice d2 m2 k2, .slice d3 m3 k3] 27)).heap[p]? = some (Obj.cells #[.int .i64 x.ticks, .slice a1 l1 c1, .slice a2 l2 c2, .slice a3 l3 c3] 41)) ∧ ((w4.alloc (.cells #[.int .i64 y.ticks, .slice d1 m1 k1, .slice d2 m2 k2, .slice d3 m3 k3] 27)).heap[w4.heap.size]? = some (Obj.cells #[.int .i64 y.ticks, .slice d1 m1 k1, .slice d2 m2 k2, .slice d3 m3 k3] 27)) ∧ (RdWorld (hideR (w4.alloc (.cells #[.int .i64 y.ticks, .slice d1 m1 k1, .slice d2 m2 k2, .slice d3 m3 k3] 27)) w3.heap.size w4.heap.size) y d1 m1 d2 m2 d3 m3)) := ⟨grown_trans (L3.out.1) hgg, (World.grownBy.block hgg _ (lt_of_block (L3.out.2.1)) (by simp)).trans (L3.out.2.1), ba, (ow_rd ho HN.out.2.2.2.1 HN.out.2.2.2.2).le (CLe.toR ga)⟩
  clear L3
  clear hg ga ba hgg ho
  simp only []
  obtain ⟨⟨x1_0, x1_1, x1_2, x1_3⟩, -⟩ := blkWorld (L4.out.2.1)
  go_wp2_with fail
  generalize (w4.alloc (.cells #[.int .i64 y.ticks, .slice d1 m1 k1, .slice d2 m2 k2, .slice d3 m3 k3] 27)) = u5 at *
  generalize w4.heap.size = q at *
  generalize w3.heap.size = b0 at *
  obtain ⟨lo, hlo⟩ : ∃ lo, lo = u5.heap.size := ⟨_, rfl⟩
  have HLO : Hid (lo = u5.heap.size) := hlo
  have hL : w.heap.size ≤ lo ∧ p < lo ∧ q < lo := by rw [hlo]; exact ⟨(L4.out.1).size, lt_of_block (L4.out.2.1), lt_of_block (L4.out.2.2.1)⟩
  clear hlo
  refine Calls.mono (toWorldT x a1 l1 c1 a2 l2 c2 a3 l3 c3 u5 (HD.out.1.none (L4.out.1)) hs') ?_
  rintro e w6 ⟨s1, z1, s2, z2, s3, z3, he, hg, hn⟩
  subst he
  have ga := World.grownBy_alloc w6 (.cells #[.int .i64 x.ticks, .slice s1 l1 z1, .slice s2 l2 z2, .slice s3 l3 z3] 27) none
  have ba := heap_alloc_new w6 (.cells #[.int .i64 x.ticks, .slice s1 l1 z1, .slice s2 l2 z2, .slice s3 l3 z3] 27)
  have hgg := grown_trans hg ga
  have hR : lo ≤ w6.heap.size := by rw [HLO.out]; exact hg.size
  have L5 : Hid ((w.grownBy (w6.alloc (.cells #[.int .i64 x.ticks, .slice s1 l1 z1, .slice s2 l2 z2, .slice s3 l3 z3] 27)) none) ∧ ((w6.alloc (.cells #[.int .i64 x.ticks, .slice s1 l1 z1, .slice s2 l2 z2, .slice s3 l3 z3] 27)).heap[p]? = some (Obj.cells #[.int .i64 x.ticks, .slice a1 l1 c1, .slice a2 l2 c2, .slice a3 l3 c3] 41)) ∧ ((w6.alloc (.cells #[.int .i64 x.ticks, .slice s1 l1 z1, .slice s2 l2 z2, .slice s3 l3 z3] 27)).heap[q]? = some (Obj.cells #[.int .i64 y.ticks, .slice d1 m1 k1, .slice d2 m2 k2, .slice d3 m3 k3] 27)) ∧ (RdWorld (hideR (w6.alloc (.cells #[.int .i64 x.ticks, .slice s1 l1 z1, .slice s2 l2 z2, .slice s3 l3 z3] 27)) b0 q) y d1 m1 d2 m2 d3 m3) ∧ ((w6.alloc (.cells #[.int .i64 x.ticks, .slice s1 l1 z1, .slice s2 l2 z2, .slice s3 l3 z3] 27)).heap[w6.heap.size]? = some (Obj.cells #[.int .i64 x.ticks, .slice s1 l1 z1, .slice s2 l2 z2, .slice s3 l3 z3] 27)) ∧ (RdWorld (hideZ (w6.alloc (.cells #[.int .i64 x.ticks, .slice s1 l1 z1, .slice s2 l2 z2, .slice s3 l3 z3] 27)) lo) x s1 l1 s2 l2 s3 l3) ∧ ((w.heap.size ≤ lo ∧ p < lo ∧ q < lo)) ∧ (lo ≤ w6.heap.size)) := ⟨grown_trans (L4.out.1) hgg, (World.grownBy.block hgg _ (lt_of_block (L4.out.2.1)) (by simp)).trans (L4.out.2.1), (World.grownBy.block hgg _ (lt_of_block (L4.out.2.2.1)) (by simp)).trans (L4.out.2.2.1), RdWorld.le (L4.out.2.2.2) (hir_grown hgg), ba, (hn.le (hiz_low (Nat.le_of_eq HLO.out))).le (hiz_grown ga), hL, hR⟩
  clear L4 x1_0 x1_1 x1_2 x1_3
  clear hg ga ba hgg hn hL hR HLO
  simp only []
  go_wp2_with fail
  generalize (w6.alloc (.cells #[.int .i64 x.ticks, .slice s1 l1 z1, .slice s2 l2 z2, .slice s3 l3 z3] 27)) = u7 at *
  generalize w6.heap.size = r at *
  refine Calls.mono (toB a l c lit u7 (HD.out.2.1.none (L5.out.1)).1 hll) ?_
  rintro e w8 ⟨gx, rfl, hg, hb1, hrow⟩
  have L6 : Hid ((w.grownBy w8 none) ∧ (w8.heap[p]? = some (Obj.cells #[.int .i64 x.ticks, .slice a1 l1 c1, .slice a2 l2 c2, .slice a3 l3 c3] 41)) ∧ (w8.heap[q]? = some (Obj.cells #[.int .i64 y.ticks, .slice d1 m1 k1, .slice d2 m2 k2, .slice d3 m3 k3] 27)) ∧ (RdWorld (hideR w8 b0 q) y d1 m1 d2 m2 d3 m3) ∧ (w8.heap[r]? = some (Obj.cells #[.int .i64 x.ticks, .slice s1 l1 z1, .slice s2 l2 z2, .slice s3 l3 z3] 27)) ∧ (RdWorld (hideZ w8 lo) x s1 l1 s2 l2 s3 l3) ∧ ((w.heap.size ≤ lo ∧ p < lo ∧ q < lo)) ∧ (lo ≤ r) ∧ (RdB (hideZ w8 lo) (some ⟨gx, 0, none⟩) l lit)) := ⟨grown_trans (L5.out.1) hg, (World.grownBy.block hg _ (lt_of_block (L5.out.2.1)) (by simp)).trans (L5.out.2.1), (World.grownBy.block hg _ (lt_of_block (L5.out.2.2.1)) (by simp)).trans (L5.out.2.2.1), RdWorld.le (L5.out.2.2.2.1) (hir_grown hg), (World.grownBy.block hg _ (lt_of_block (L5.out.2.2.2.2.1)) (by simp)).trans (L5.out.2.2.2.2.1), RdWorld.le (L5.out.2.2.2.2.2.1) (hiz_grown hg), L5.out.2.2.2.2.2.2.1, L5.out.2.2.2.2.2.2.2, hrow.hiz HD.out.2.2.2.1 HD.out.2.2.2.2 hll (by have h1 := lt_of_block (L5.out.2.2.2.2.1); have h2 := L5.out.2.2.2.2.2.2.2; omega)⟩
  clear L5
  clear hg
  simp only []
  clear hb1 hrow
  obtain ⟨hI, hhI⟩ : ∃ hI, hI = w8.heap.size := ⟨_, rfl⟩
  have HHI : Hid (hI = w8.heap.size) := hhI
  have hI1 : lo ≤ hI := by have h1 := lt_of_block (L6.out.2.2.2.2.1); have h2 := L6.out.2.2.2.2.2.2.2.1; omega
  have HI1 : Hid (lo ≤ hI) := hI1
  clear hhI hI1
  obtain ⟨⟨x2_0, x2_1, x2_2, x2_3⟩, -⟩ := blkWorld (L6.out.2.2.2.2.1)
  go_wp2_with fail
  refine Calls.mono (implF x y kind A C R b lit HF.out m1 m2 m3 HN.out.1 HN.out.2.1 HN.out.2.2.1 s1 l1 z1 s2 l2 z2 s3 l3 z3 (some ⟨gx, 0, none⟩) l l w8 ((L6.out.2.2.2.2.2.1).le CLe.unhidz) ((L6.out.2.2.2.2.2.2.2.2).le CLe.unhidz) HD.out.2.2.1 hs') ?_
  rintro e w9 ⟨e1, f1, e2, f2, e3, f3, us, hj, he, ho, hg⟩
  subst he
  have ga := World.grownBy_alloc w9 (.cells #[.int .i64 y.ticks, .slice e1 m1 f1, .slice e2 m2 f2, .slice e3 m3 f3] 27) none
  have ba := heap_alloc_new w9 (.cells #[.int .i64 y.ticks, .slice e1 m1 f1, .slice e2 m2 f2, .slice e3 m3 f3] 27)
  have hgg := grown_trans hg ga
  have hS : hI ≤ w9.heap.size := by rw [HHI.out]; exact hg.size
  have hX0 : RdWorld (hideR w9 lo hI) x s1 l1 s2 l2 s3 l3 := by rw [HHI.out]; exact (L6.out.2.2.2.2.2.1).le (CLe.toR hg)
  have hX4 : RdB (hideR w9 lo hI) (some ⟨gx, 0, none⟩) l lit := by rw [HHI.out]; exact (L6.out.2.2.2.2.2.2.2.2).le (CLe.toR hg)
  have hGO : OwW w9 hI y e1 m1 e2 m2 f2 e3 m3 f3 us hj := by rw [HHI.out]; exact ho
  have L7 : Hid ((w.grownBy (w9.alloc (.cells #[.int .i64 y.ticks, .slice e1 m1 f1, .slice e2 m2 f2, .slice e3 m3 f3] 27)) none) ∧ ((w9.alloc (.cells #[.int .i64 y.ticks, .slice e1 m1 f1, .slice e2 m2 f2, .slice e3 m3 f3] 27)).heap[p]? = some (Obj.cells #[.int .i64 x.ticks, .slice a1 l1 c1, .slice a2 l2 c2, .slice a3 l3 c3] 41)) ∧ ((w9.alloc (.cells #[.int .i64 y.ticks, .slice e1 m1 f1, .slice e2 m2 f2, .slice e3 m3 f3] 27)).heap[q]? = some (Obj.cells #[.int .i64 y.ticks, .slice d1 m1 k1, .slice d2 m2 k2, .slice d3 m3 k3] 27)) ∧ (RdWorld (hideR (w9.alloc (.cells #[.int .i64 y.ticks, .slice e1 m1 f1, .slice e2 m2 f2, .slice e3 m3 f3] 27)) b0 q) y d1 m1 d2 m2 d3 m3) ∧ ((w9.alloc (.cells #[.int .i64 y.ticks, .slice e1 m1 f1, .slice e2 m2 f2, .slice e3 m3 f3] 27)).heap[r]? = some (Obj.cells #[.int .i64 x.ticks, .slice s1 l1 z1, .slice s2 l2 z2, .slice s3 l3 z3] 27)) ∧ ((w.heap.size ≤ lo ∧ p < lo ∧ q < lo)) ∧ (lo ≤ r) ∧ ((w9.alloc (.cells #[.int .i64 y.ticks, .slice e1 m1 f1, .slice e2 m2 f2, .slice e3 m3 f3] 27)).heap[w9.heap.size]? = some (Obj.cells #[.int .i64 y.ticks, .slice e1 m1 f1, .slice e2 m2 f2, .slice e3 m3 f3] 27)) ∧ (RdWorld (hideR (w9.alloc (.cells #[.int .i64 y.ticks, .slice e1 m1 f1, .slice e2 m2 f2, .slice e3 m3 f3] 27)) lo hI) x s1 l1 s2 l2 s3 l3) ∧ (RdB (hideR (w9.alloc (.cells #[.int .i64 y.ticks, .slice e1 m1 f1, .slice e2 m2 f2, .slice e3 m3 f3] 27)) lo hI) (some ⟨gx, 0, none⟩) l lit) ∧ (OwW (w9.alloc (.cells #[.int .i64 y.ticks, .slice e1 m1 f1, .slice e2 m2 f2, .slice e3 m3 f3] 27)) hI y e1 m1 e2 m2 f2 e3 m3 f3 us hj) ∧ (hI ≤ (w9.alloc (.cells #[.int .i64 y.ticks, .slice e1 m1 f1, .slice e2 m2 f2, .slice e3 m3 f3] 27)).heap.size) ∧ (hI ≤ w9.heap.size)) := ⟨grown_trans (L6.out.1) hgg, (World.grownBy.block hgg _ (lt_of_block (L6.out.2.1)) (by simp)).trans (L6.out.2.1), (World.grownBy.block hgg _ (lt_of_block (L6.out.2.2.1)) (by simp)).trans (L6.out.2.2.1), RdWorld.le (L6.out.2.2.2.1) (hir_grown hgg), (World.grownBy.block hgg _ (lt_of_block (L6.out.2.2.2.2.1)) (by simp)).trans (L6.out.2.2.2.2.1), L6.out.2.2.2.2.2.2.1, L6.out.2.2.2.2.2.2.2.1, ba, hX0.le (hir_grown ga), hX4.le (hir_grown ga), ow_none hGO ga, Nat.le_trans hS ga.size, hS⟩
  clear L6 x2_0 x2_1 x2_2 x2_3
  clear hg ga ba hgg ho hS hX0 hX4 hGO HHI
  simp only []
  obtain ⟨⟨x3_0, x3_1, x3_2, x3_3⟩, -⟩ := blkWorld (L7.out.2.2.2.2.2.2.2.1)
  obtain ⟨⟨x4_0, x4_1, x4_2, x4_3⟩, -⟩ := blkWorld (L7.out.2.2.1)
  go_wp2_with fail
  generalize (w9.alloc (.cells #[.int .i64 y.ticks, .slice e1 m1 f1, .slice e2 m2 f2, .slice e3 m3 f3] 27)) = u10 at *
  generalize w9.heap.size = s at *
  refine Calls.mono (eqWorldT y e1 d1 m1 f1 k1 e2 d2 m2 f2 k2 e3 d3 m3 f3 k3 u10 ((ow_rd (L7.out.2.2.2.2.2.2.2.2.2.2.1) HN.out.2.2.2.1 HN.out.2.2.2.2).le CLe.unhidz) ((L7.out.2.2.2.1).le CLe.unhir) (Nat.le_trans HM.out.1 (by omega))) ?_
  rintro e w11 ⟨he, hg⟩
  subst he
  have L8 : Hid ((w.grownBy w11 none) ∧ (w11.heap[p]? = some (Obj.cells #[.int .i64 x.ticks, .slice a1 l1 c1, .slice a2 l2 c2, .slice a3 l3 c3] 41)) ∧ (w11.heap[q]? = some (Obj.cells #[.int .i64 y.ticks, .slice d1 m1 k1, .slice d2 m2 k2, .slice d3 m3 k3] 27)) ∧ (RdWorld (hideR w11 b0 q) y d1 m1 d2 m2 d3 m3) ∧ (w11.heap[r]? = some (Obj.cells #[.int .i64 x.ticks, .slice s1 l1 z1, .slice s2 l2 z2, .slice s3 l3 z3] 27)) ∧ ((w.heap.size ≤ lo ∧ p < lo ∧ q < lo)) ∧ (lo ≤ r) ∧ (w11.heap[s]? = some (Obj.cells #[.int .i64 y.ticks, .slice e1 m1 f1, .slice e2 m2 f2, .slice e3 m3 f3] 27)) ∧ (RdWorld (hideR w11 lo hI) x s1 l1 s2 l2 s3 l3) ∧ (RdB (hideR w11 lo hI) (some ⟨gx, 0, none⟩) l lit) ∧ (OwW w11 hI y e1 m1 e2 m2 f2 e3 m3 f3 us hj) ∧ (hI ≤ w11.heap.size) ∧ (hI ≤ s)) := ⟨grown_trans (L7.out.1) hg, (World.grownBy.block hg _ (lt_of_block (L7.out.2.1)) (by simp)).trans (L7.out.2.1), (World.grownBy.block hg _ (lt_of_block (L7.out.2.2.1)) (by simp)).trans (L7.out.2.2.1), RdWorld.le (L7.out.2.2.2.1) (hir_grown hg), (World.grownBy.block hg _ (lt_of_block (L7.out.2.2.2.2.1)) (by simp)).trans (L7.out.2.2.2.2.1), L7.out.2.2.2.2.2.1, L7.out.2.2.2.2.2.2.1, (World.grownBy.block hg _ (lt_of_block (L7.out.2.2.2.2.2.2.2.1)) (by simp)).trans (L7.out.2.2.2.2.2.2.2.1), RdWorld.le (L7.out.2.2.2.2.2.2.2.2.1) (hir_grown hg), RdB.le (L7.out.2.2.2.2.2.2.2.2.2.1) (hir_grown hg), ow_none (L7.out.2.2.2.2.2.2.2.2.2.2.1) hg, Nat.le_trans (L7.out.2.2.2.2.2.2.2.2.2.2.2.1) hg.size, L7.out.2.2.2.2.2.2.2.2.2.2.2.2⟩
  clear L7 x3_0 x3_1 x3_2 x3_3 x4_0 x4_1 x4_2 x4_3
  clear hg
  simp only []
  go_wp2_with fail
  have L9 : Hid ((w.grownBy w11.drew none) ∧ (w11.drew.heap[p]? = some (Obj.cells #[.int .i64 x.ticks, .slice a1 l1 c1, .slice a2 l2 c2, .slice a3 l3 c3] 41)) ∧ (w11.drew.heap[q]? = some (Obj.cells #[.int .i64 y.ticks, .slice d1 m1 k1, .slice d2 m2 k2, .slice d3 m3 k3] 27)) ∧ (RdWorld (hideR w11.drew b0 q) y d1 m1 d2 m2 d3 m3) ∧ (w11.drew.heap[r]? = some (Obj.cells #[.int .i64 x.ticks, .slice s1 l1 z1, .slice s2 l2 z2, .slice s3 l3 z3] 27)) ∧ ((w.heap.size ≤ lo ∧ p < lo ∧ q < lo)) ∧ (lo ≤ r) ∧ (w11.drew.heap[s]? = some (Obj.cells #[.int .i64 y.ticks, .slice e1 m1 f1, .slice e2 m2 f2, .slice e3 m3 f3] 27)) ∧ (RdWorld (hideR w11.drew lo hI) x s1 l1 s2 l2 s3 l3) ∧ (RdB (hideR w11.drew lo hI) (some ⟨gx, 0, none⟩) l lit) ∧ (OwW w11.drew hI y e1 m1 e2 m2 f2 e3 m3 f3 us hj) ∧ (hI ≤ w11.drew.heap.size) ∧ (hI ≤ s)) := ⟨grown_trans (L8.out.1) (grown_drew (World.grownBy.refl w11 none)), (World.grownBy.block (grown_drew (World.grownBy.refl w11 none)) _ (lt_of_block (L8.out.2.1)) (by simp)).trans (L8.out.2.1), (World.grownBy.block (grown_drew (World.grownBy.refl w11 none)) _ (lt_of_block (L8.out.2.2.1)) (by simp)).trans (L8.out.2.2.1), RdWorld.le (L8.out.2.2.2.1) (hir_grown (grown_drew (World.grownBy.refl w11 none))), (World.grownBy.block (grown_drew (World.grownBy.refl w11 none)) _ (lt_of_block (L8.out.2.2.2.2.1)) (by simp)).trans (L8.out.2.2.2.2.1), L8.out.2.2.2.2.2.1, L8.out.2.2.2.2.2.2.1, (World.grownBy.block (grown_drew (World.grownBy.refl w11 none)) _ (lt_of_block (L8.out.2.2.2.2.2.2.2.1)) (by simp)).trans (L8.out.2.2.2.2.2.2.2.1), RdWorld.le (L8.out.2.2.2.2.2.2.2.2.1) (hir_grown (grown_drew (World.grownBy.refl w11 none))), RdB.le (L8.out.2.2.2.2.2.2.2.2.2.1) (hir_grown (grown_drew (World.grownBy.refl w11 none))), ow_none (L8.out.2.2.2.2.2.2.2.2.2.2.1) (grown_drew (World.grownBy.refl w11 none)), Nat.le_trans (L8.out.2.2.2.2.2.2.2.2.2.2.2.1) (grown_drew (World.grownBy.refl w11 none)).size, L8.out.2.2.2.2.2.2.2.2.2.2.2.2⟩
  clear L8
  refine wp_region_held_drew (S := (fun u0 => (u0.cell? ⟨r, 0, none⟩ = some (.int .i64 x.ticks) ∧ u0.cell? ⟨r, 1, none⟩ = some (.slice s1 l1 z1) ∧ u0.cell? ⟨r, 2, none⟩ = some (.slice s2 l2 z2) ∧ u0.cell? ⟨r, 3, none⟩ = some (.slice s3 l3 z3)) ∧ (u0.cell? ⟨p, 0, none⟩ = some (.int .i64 x.ticks) ∧ u0.cell? ⟨p, 1, none⟩ = some (.slice a1 l1 c1) ∧ u0.cell? ⟨p, 2, none⟩ = some (.slice a2 l2 c2) ∧ u0.cell? ⟨p, 3, none⟩ = some (.slice a3 l3 c3)))) (by kernel_rfl) ⟨(blkWorld (L9.out.2.2.2.2.1)).1, (blkWorld (L9.out.2.1)).1⟩ (fun hH => ?_)
  generalize w11.drew = u0 at *
  simp only [List.size_toArray, List.length_cons, List.length_nil, Nat.reduceAdd, Array.replicate, List.replicate]
  refine wpAnyH_take (i := 0) (v := ?_) rfl (by kernel_rfl) (by kernel_rfl) (by kernel_rfl) (fun _ _ _ h => h) (Or.inl ⟨by rfl, ?_⟩) hH ?_
  rotate_left
  · (intro v hS; obtain ⟨⟨s00, s01, s02, s03⟩, s10, s11, s12, s13⟩ := hS; go_simp; try with_reducible rfl)
  simp only [Act.put, List.setIfInBounds_toArray, List.set_cons_zero, List.set_cons_succ, List.getElem_toArray, List.getElem_cons_succ, List.getElem_cons_zero]
  refine wpAnyH_take (i := 1) (v := ?_) rfl (by kernel_rfl) (by kernel_rfl) (by kernel_rfl) (fun _ _ _ h => h) (Or.inl ⟨by rfl, ?_⟩) hH ?_
  rotate_left
  · (intro v hS; obtain ⟨⟨s00, s01, s02, s03⟩, s10, s11, s12, s13⟩ := hS; go_simp; try with_reducible rfl)
  simp only [Act.put, List.setIfInBounds_toArray, List.set_cons_zero, List.set_cons_succ, List.getElem_toArray, List.getElem_cons_succ, List.getElem_cons_zero]
  refine wpAnyH_ready (rs := [2]) (by kernel_rfl) (by simp) ?_
  refine AllReadyH.cons rfl (fun K hK => ?_) AllReadyH.nil
  go_simp
  refine Calls.mono (toWorldT x a1 l1 c1 a2 l2 c2 a3 l3 c3 u0 (HD.out.1.none (L9.out.1)) hs') ?_
  rintro e u1 ⟨o1, j1, o2, j2, o3, j3, he, hg, hn⟩
  subst he
  have L10 : Hid ((w.grownBy u1 none) ∧ (u1.heap[p]? = some (Obj.cells #[.int .i64 x.ticks, .slice a1 l1 c1, .slice a2 l2 c2, .slice a3 l3 c3] 41)) ∧ (u1.heap[q]? = some (Obj.cells #[.int .i64 y.ticks, .slice d1 m1 k1, .slice d2 m2 k2, .slice d3 m3 k3] 27)) ∧ (RdWorld (hideR u1 b0 q) y d1 m1 d2 m2 d3 m3) ∧ (u1.heap[r]? = some (Obj.cells #[.int .i64 x.ticks, .slice s1 l1 z1, .slice s2 l2 z2, .slice s3 l3 z3] 27)) ∧ ((w.heap.size ≤ lo ∧ p < lo ∧ q < lo)) ∧ (lo ≤ r) ∧ (u1.heap[s]? = some (Obj.cells #[.int .i64 y.ticks, .slice e1 m1 f1, .slice e2 m2 f2, .slice e3 m3 f3] 27)) ∧ (RdWorld (hideR u1 lo hI) x s1 l1 s2 l2 s3 l3) ∧ (RdB (hideR u1 lo hI) (some ⟨gx, 0, none⟩) l lit) ∧ (OwW u1 hI y e1 m1 e2 m2 f2 e3 m3 f3 us hj) ∧ (hI ≤ u1.heap.size) ∧ (hI ≤ s) ∧ (RdWorld u1 x o1 l1 o2 l2 o3 l3)) := ⟨grown_trans (L9.out.1) hg, (World.grownBy.block hg _ (lt_of_block (L9.out.2.1)) (by simp)).trans (L9.out.2.1), (World.grownBy.block hg _ (lt_of_block (L9.out.2.2.1)) (by simp)).trans (L9.out.2.2.1), RdWorld.le (L9.out.2.2.2.1) (hir_grown hg), (World.grownBy.block hg _ (lt_of_block (L9.out.2.2.2.2.1)) (by simp)).trans (L9.out.2.2.2.2.1), L9.out.2.2.2.2.2.1, L9.out.2.2.2.2.2.2.1, (World.grownBy.block hg _ (lt_of_block (L9.out.2.2.2.2.2.2.2.1)) (by simp)).trans (L9.out.2.2.2.2.2.2.2.1), RdWorld.le (L9.out.2.2.2.2.2.2.2.2.1) (hir_grown hg), RdB.le (L9.out.2.2.2.2.2.2.2.2.2.1) (hir_grown hg), ow_none (L9.out.2.2.2.2.2.2.2.2.2.2.1) hg, Nat.le_trans (L9.out.2.2.2.2.2.2.2.2.2.2.2.1) hg.size, L9.out.2.2.2.2.2.2.2.2.2.2.2.2, hn.le CLe.unhidz⟩
  clear L9
  refine hK.out _ _ ⟨(blkWorld (L10.out.2.2.2.2.1)).1, (blkWorld (L10.out.2.1)).1⟩ (fun hH2 => ?_)
  clear hK K hH
  have hH := hH2
  clear hH2 hg
  simp only [Act.put, List.setIfInBounds_toArray, List.set_cons_zero, List.set_cons_succ, List.getElem_toArray, List.getElem_cons_succ, List.getElem_cons_zero]
  clear hn
  refine wpAnyH_ready (rs := [3]) (by kernel_rfl) (by simp) ?_
  refine AllReadyH.cons rfl (fun K hK => ?_) AllReadyH.nil
  go_simp
  refine Calls.mono (eqWorldT x s1 o1 l1 z1 j1 s2 o2 l2 z2 j2 s3 o3 l3 z3 j3 u1 ((L10.out.2.2.2.2.2.2.2.2.1).le CLe.unhir) (L10.out.2.2.2.2.2.2.2.2.2.2.2.2.2) (by omega)) ?_
  rintro e u2 ⟨he, hg⟩
  subst he
  have L11 : Hid ((w.grownBy u2 none) ∧ (u2.heap[p]? = some (Obj.cells #[.int .i64 x.ticks, .slice a1 l1 c1, .slice a2 l2 c2, .slice a3 l3 c3] 41)) ∧ (u2.heap[q]? = some (Obj.cells #[.int .i64 y.ticks, .slice d1 m1 k1, .slice d2 m2 k2, .slice d3 m3 k3] 27)) ∧ (RdWorld (hideR u2 b0 q) y d1 m1 d2 m2 d3 m3) ∧ (u2.heap[r]? = some (Obj.cells #[.int .i64 x.ticks, .slice s1 l1 z1, .slice s2 l2 z2, .slice s3 l3 z3] 27)) ∧ ((w.heap.size ≤ lo ∧ p < lo ∧ q < lo)) ∧ (lo ≤ r) ∧ (u2.heap[s]? = some (Obj.cells #[.int .i64 y.ticks, .slice e1 m1 f1, .slice e2 m2 f2, .slice e3 m3 f3] 27)) ∧ (RdWorld (hideR u2 lo hI) x s1 l1 s2 l2 s3 l3) ∧ (RdB (hideR u2 lo hI) (some ⟨gx, 0, none⟩) l lit) ∧ (OwW u2 hI y e1 m1 e2 m2 f2 e3 m3 f3 us hj) ∧ (hI ≤ u2.heap.size) ∧ (hI ≤ s)) := ⟨grown_trans (L10.out.1) hg, (World.grownBy.block hg _ (lt_of_block (L10.out.2.1)) (by simp)).trans (L10.out.2.1), (World.grownBy.block hg _ (lt_of_block (L10.out.2.2.1)) (by simp)).trans (L10.out.2.2.1), RdWorld.le (L10.out.2.2.2.1) (hir_grown hg), (World.grownBy.block hg _ (lt_of_block (L10.out.2.2.2.2.1)) (by simp)).trans (L10.out.2.2.2.2.1), L10.out.2.2.2.2.2.1, L10.out.2.2.2.2.2.2.1, (World.grownBy.block hg _ (lt_of_block (L10.out.2.2.2.2.2.2.2.1)) (by simp)).trans (L10.out.2.2.2.2.2.2.2.1), RdWorld.le (L10.out.2.2.2.2.2.2.2.2.1) (hir_grown hg), RdB.le (L10.out.2.2.2.2.2.2.2.2.2.1) (hir_grown hg), ow_none (L10.out.2.2.2.2.2.2.2.2.2.2.1) hg, Nat.le_trans (L10.out.2.2.2.2.2.2.2.2.2.2.2.1) hg.size, L10.out.2.2.2.2.2.2.2.2.2.2.2.2.1⟩
  clear L10
  refine hK.out _ _ ⟨(blkWorld (L11.out.2.2.2.2.1)).1, (blkWorld (L11.out.2.1)).1⟩ (fun hH2 => ?_)
  clear hK K hH
  have hH := hH2
  clear hH2 hg
  simp only [Act.put, List.setIfInBounds_toArray, List.set_cons_zero, List.set_cons_succ, List.getElem_toArray, List.getElem_cons_succ, List.getElem_cons_zero]
  refine wpAnyH_take (i := 4) (v := ?_) rfl (by kernel_rfl) (by kernel_rfl) (by kernel_rfl) (fun _ _ _ h => h) (Or.inl ⟨by rfl, ?_⟩) hH ?_
  rotate_left
  · (intro v hS; go_simp; try with_reducible rfl)
  simp only [Act.put, List.setIfInBounds_toArray, List.set_cons_zero, List.set_cons_succ, List.getElem_toArray, List.getElem_cons_succ, List.getElem_cons_zero]
  refine wpAnyH_done (by kernel_rfl) ?_ _
  go_wp2_with fail
  refine Calls.mono (toB a l c lit u2 (HD.out.2.1.none (L11.out.1)).1 hll) ?_
  rintro e w12 ⟨gc, rfl, hg, hb1, hrow⟩
  have L12 : Hid ((w.grownBy w12 none) ∧ (w12.heap[p]? = some (Obj.cells #[.int .i64 x.ticks, .slice a1 l1 c1, .slice a2 l2 c2, .slice a3 l3 c3] 41)) ∧ (w12.heap[q]? = some (Obj.cells #[.int .i64 y.ticks, .slice d1 m1 k1, .slice d2 m2 k2, .slice d3 m3 k3] 27)) ∧ (RdWorld (hideR w12 b0 q) y d1 m1 d2 m2 d3 m3) ∧ (w12.heap[r]? = some (Obj.cells #[.int .i64 x.ticks, .slice s1 l1 z1, .slice s2 l2 z2, .slice s3 l3 z3] 27)) ∧ ((w.heap.size ≤ lo ∧ p < lo ∧ q < lo)) ∧ (lo ≤ r) ∧ (w12.heap[s]? = some (Obj.cells #[.int .i64 y.ticks, .slice e1 m1 f1, .slice e2 m2 f2, .slice e3 m3 f3] 27)) ∧ (RdWorld (hideR w12 lo hI) x s1 l1 s2 l2 s3 l3) ∧ (RdB (hideR w12 lo hI) (some ⟨gx, 0, none⟩) l lit) ∧ (OwW w12 hI y e1 m1 e2 m2 f2 e3 m3 f3 us hj) ∧ (hI ≤ w12.heap.size) ∧ (hI ≤ s) ∧ (RdB w12 (some ⟨gc, 0, none⟩) l lit)) := ⟨grown_trans (L11.out.1) hg, (World.grownBy.block hg _ (lt_of_block (L11.out.2.1)) (by simp)).trans (L11.out.2.1), (World.grownBy.block hg _ (lt_of_block (L11.out.2.2.1)) (by simp)).trans (L11.out.2.2.1), RdWorld.le (L11.out.2.2.2.1) (hir_grown hg), (World.grownBy.block hg _ (lt_of_block (L11.out.2.2.2.2.1)) (by simp)).trans (L11.out.2.2.2.2.1), L11.out.2.2.2.2.2.1, L11.out.2.2.2.2.2.2.1, (World.grownBy.block hg _ (lt_of_block (L11.out.2.2.2.2.2.2.2.1)) (by simp)).trans (L11.out.2.2.2.2.2.2.2.1), RdWorld.le (L11.out.2.2.2.2.2.2.2.2.1) (hir_grown hg), RdB.le (L11.out.2.2.2.2.2.2.2.2.2.1) (hir_grown hg), ow_none (L11.out.2.2.2.2.2.2.2.2.2.2.1) hg, Nat.le_trans (L11.out.2.2.2.2.2.2.2.2.2.2.2.1) hg.size, L11.out.2.2.2.2.2.2.2.2.2.2.2.2, (hrow.hiz HD.out.2.2.2.1 HD.out.2.2.2.2 hll (Nat.le_refl gc)).le CLe.unhidz⟩
  clear L11
  clear hg
  simp only []
  clear hb1 hrow
  go_wp2_with fail
  refine Calls.mono (eqB3 (some ⟨gx, 0, none⟩) (some ⟨gc, 0, none⟩) l l l lit w12 ((L12.out.2.2.2.2.2.2.2.2.2.1).le CLe.unhir).1 (L12.out.2.2.2.2.2.2.2.2.2.2.2.2.2).1 (by omega)) ?_
  rintro e w13 ⟨rfl, hg⟩
  have L13 : Hid ((w.grownBy w13 none) ∧ (w13.heap[p]? = some (Obj.cells #[.int .i64 x.ticks, .slice a1 l1 c1, .slice a2 l2 c2, .slice a3 l3 c3] 41)) ∧ (w13.heap[q]? = some (Obj.cells #[.int .i64 y.ticks, .slice d1 m1 k1, .slice d2 m2 k2, .slice d3 m3 k3] 27)) ∧ (RdWorld (hideR w13 b0 q) y d1 m1 d2 m2 d3 m3) ∧ (w13.heap[r]? = some (Obj.cells #[.int .i64 x.ticks, .slice s1 l1 z1, .slice s2 l2 z2, .slice s3 l3 z3] 27)) ∧ ((w.heap.size ≤ lo ∧ p < lo ∧ q < lo)) ∧ (lo ≤ r) ∧ (w13.heap[s]? = some (Obj.cells #[.int .i64 y.ticks, .slice e1 m1 f1, .slice e2 m2 f2, .slice e3 m3 f3] 27)) ∧ (RdWorld (hideR w13 lo hI) x s1 l1 s2 l2 s3 l3) ∧ (RdB (hideR w13 lo hI) (some ⟨gx, 0, none⟩) l lit) ∧ (OwW w13 hI y e1 m1 e2 m2 f2 e3 m3 f3 us hj) ∧ (hI ≤ w13.heap.size) ∧ (hI ≤ s)) := ⟨grown_trans (L12.out.1) hg, (World.grownBy.block hg _ (lt_of_block (L12.out.2.1)) (by simp)).trans (L12.out.2.1), (World.grownBy.block hg _ (lt_of_block (L12.out.2.2.1)) (by simp)).trans (L12.out.2.2.1), RdWorld.le (L12.out.2.2.2.1) (hir_grown hg), (World.grownBy.block hg _ (lt_of_block (L12.out.2.2.2.2.1)) (by simp)).trans (L12.out.2.2.2.2.1), L12.out.2.2.2.2.2.1, L12.out.2.2.2.2.2.2.1, (World.grownBy.block hg _ (lt_of_block (L12.out.2.2.2.2.2.2.2.1)) (by simp)).trans (L12.out.2.2.2.2.2.2.2.1), RdWorld.le (L12.out.2.2.2.2.2.2.2.2.1) (hir_grown hg), RdB.le (L12.out.2.2.2.2.2.2.2.2.2.1) (hir_grown hg), ow_none (L12.out.2.2.2.2.2.2.2.2.2.2.1) hg, Nat.le_trans (L12.out.2.2.2.2.2.2.2.2.2.2.2.1) hg.size, L12.out.2.2.2.2.2.2.2.2.2.2.2.2.1⟩
  clear L12
  clear hg
  simp only []
  obtain ⟨⟨x5_0, x5_1, x5_2, x5_3⟩, -⟩ := blkWorld (L13.out.2.2.2.2.1)
  go_wp2_with fail
  refine Calls.mono (mrWo lo hI x s1 l1 z1 s2 l2 z2 s3 l3 z3 1 w13 (L13.out.2.2.2.2.2.2.2.2.1) (L13.out.2.2.2.2.2.2.2.2.2.2.2.1) hs' (by omega) (by omega)) ?_
  rintro e w14 ⟨k9, he, hk9, hk8, ht⟩
  subst he
  have L14 : Hid ((w.grownBy w14 none) ∧ (w14.heap[p]? = some (Obj.cells #[.int .i64 x.ticks, .slice a1 l1 c1, .slice a2 l2 c2, .slice a3 l3 c3] 41)) ∧ (w14.heap[q]? = some (Obj.cells #[.int .i64 y.ticks, .slice d1 m1 k1, .slice d2 m2 k2, .slice d3 m3 k3] 27)) ∧ (RdWorld (hideR w14 b0 q) y d1 m1 d2 m2 d3 m3) ∧ ((w.heap.size ≤ lo ∧ p < lo ∧ q < lo)) ∧ (w14.heap[s]? = some (Obj.cells #[.int .i64 y.ticks, .slice e1 m1 f1, .slice e2 m2 f2, .slice e3 m3 f3] 27)) ∧ (ShI (hideR w14 lo hI) .u8 (some ⟨gx, 0, none⟩) l) ∧ (OwW w14 hI y e1 m1 e2 m2 f2 e3 m3 f3 us hj) ∧ (hI ≤ w14.heap.size) ∧ (hI ≤ s)) := ⟨Mk.fresh (L13.out.1) ht (L13.out.2.2.2.2.2.1).1, (ht.block p (lt_of_block (L13.out.2.1)) (.inl (L13.out.2.2.2.2.2.1).2.1)).trans (L13.out.2.1), (ht.block q (lt_of_block (L13.out.2.2.1)) (.inl (L13.out.2.2.2.2.2.1).2.2)).trans (L13.out.2.2.1), RdWorld.le (L13.out.2.2.2.1) (hir_same fun m h1 h2 h3 => ht.block m h3 (.inl (Nat.lt_trans h2 (L13.out.2.2.2.2.2.1).2.2))), L13.out.2.2.2.2.2.1, (ht.block s (lt_of_block (L13.out.2.2.2.2.2.2.2.1)) (.inr (L13.out.2.2.2.2.2.2.2.2.2.2.2.2))).trans (L13.out.2.2.2.2.2.2.2.1), (L13.out.2.2.2.2.2.2.2.2.2.1).sh.like ht.like, ow_same (L13.out.2.2.2.2.2.2.2.2.2.2.1) (fun m h1 h2 => ht.block m h2 (.inr h1)) ht.size, Nat.le_trans (L13.out.2.2.2.2.2.2.2.2.2.2.2.1) ht.size, L13.out.2.2.2.2.2.2.2.2.2.2.2.2⟩
  clear L13 x5_0 x5_1 x5_2 x5_3
  clear ht
  simp only []
  go_wp2_with fail
  refine Calls.mono (mrB lo hI (some ⟨gx, 0, none⟩) l l k9 w14 (L14.out.2.2.2.2.2.2.1) (by omega) (by omega)) ?_
  rintro e w15 ⟨k7, he, hk7, hk6, ht⟩
  subst he
  have L15 : Hid ((w.grownBy w15 none) ∧ (w15.heap[p]? = some (Obj.cells #[.int .i64 x.ticks, .slice a1 l1 c1, .slice a2 l2 c2, .slice a3 l3 c3] 41)) ∧ (w15.heap[q]? = some (Obj.cells #[.int .i64 y.ticks, .slice d1 m1 k1, .slice d2 m2 k2, .slice d3 m3 k3] 27)) ∧ (RdWorld (hideR w15 b0 q) y d1 m1 d2 m2 d3 m3) ∧ ((w.heap.size ≤ lo ∧ p < lo ∧ q < lo)) ∧ (w15.heap[s]? = some (Obj.cells #[.int .i64 y.ticks, .slice e1 m1 f1, .slice e2 m2 f2, .slice e3 m3 f3] 27)) ∧ (OwW w15 hI y e1 m1 e2 m2 f2 e3 m3 f3 us hj) ∧ (hI ≤ w15.heap.size) ∧ (hI ≤ s)) := ⟨Mk.fresh (L14.out.1) ht (L14.out.2.2.2.2.1).1, (ht.block p (lt_of_block (L14.out.2.1)) (.inl (L14.out.2.2.2.2.1).2.1)).trans (L14.out.2.1), (ht.block q (lt_of_block (L14.out.2.2.1)) (.inl (L14.out.2.2.2.2.1).2.2)).trans (L14.out.2.2.1), RdWorld.le (L14.out.2.2.2.1) (hir_same fun m h1 h2 h3 => ht.block m h3 (.inl (Nat.lt_trans h2 (L14.out.2.2.2.2.1).2.2))), L14.out.2.2.2.2.1, (ht.block s (lt_of_block (L14.out.2.2.2.2.2.1)) (.inr (L14.out.2.2.2.2.2.2.2.2.2))).trans (L14.out.2.2.2.2.2.1), ow_same (L14.out.2.2.2.2.2.2.2.1) (fun m h1 h2 => ht.block m h2 (.inr h1)) ht.size, Nat.le_trans (L14.out.2.2.2.2.2.2.2.2.1) ht.size, L14.out.2.2.2.2.2.2.2.2.2⟩
  clear L14
  clear ht
  simp only []
  have hk1 : decide (k7 < 0) = false := by simp; omega
  have hk2 : ¬ k7 < 0 := by omega
  obtain ⟨⟨x6_0, x6_1, x6_2, x6_3⟩, -⟩ := blkWorld (L15.out.2.2.2.2.2.1)
  obtain ⟨⟨x7_0, x7_1, x7_2, x7_3⟩, -⟩ := blkWorld (L15.out.2.2.1)
  go_wp2_with fail
  refine Calls.mono (eqWorldT y e1 d1 m1 f1 k1 e2 d2 m2 f2 k2 e3 d3 m3 f3 k3 w15 ((ow_rd (L15.out.2.2.2.2.2.2.1) HN.out.2.2.2.1 HN.out.2.2.2.2).le CLe.unhidz) ((L15.out.2.2.2.1).le CLe.unhir) (Nat.le_trans HM.out.1 (by omega))) ?_
  rintro e w16 ⟨he, hg⟩
  subst he
  have L16 : Hid ((w.grownBy w16 none) ∧ (w16.heap[p]? = some (Obj.cells #[.int .i64 x.ticks, .slice a1 l1 c1, .slice a2 l2 c2, .slice a3 l3 c3] 41)) ∧ (w16.heap[q]? = some (Obj.cells #[.int .i64 y.ticks, .slice d1 m1 k1, .slice d2 m2 k2, .slice d3 m3 k3] 27)) ∧ (RdWorld (hideR w16 b0 q) y d1 m1 d2 m2 d3 m3) ∧ ((w.heap.size ≤ lo ∧ p < lo ∧ q < lo)) ∧ (w16.heap[s]? = some (Obj.cells #[.int .i64 y.ticks, .slice e1 m1 f1, .slice e2 m2 f2, .slice e3 m3 f3] 27)) ∧ (OwW w16 hI y e1 m1 e2 m2 f2 e3 m3 f3 us hj) ∧ (hI ≤ w16.heap.size) ∧ (hI ≤ s)) := ⟨grown_trans (L15.out.1) hg, (World.grownBy.block hg _ (lt_of_block (L15.out.2.1)) (by simp)).trans (L15.out.2.1), (World.grownBy.block hg _ (lt_of_block (L15.out.2.2.1)) (by simp)).trans (L15.out.2.2.1), RdWorld.le (L15.out.2.2.2.1) (hir_grown hg), L15.out.2.2.2.2.1, (World.grownBy.block hg _ (lt_of_block (L15.out.2.2.2.2.2.1)) (by simp)).trans (L15.out.2.2.2.2.2.1), ow_none (L15.out.2.2.2.2.2.2.1) hg, Nat.le_trans (L15.out.2.2.2.2.2.2.2.1) hg.size, L15.out.2.2.2.2.2.2.2.2⟩
  clear L15 x6_0 x6_1 x6_2 x6_3 x7_0 x7_1 x7_2 x7_3
  clear hg
  simp only []
  clear hk1 hk2 hk9 hk8 hk7 hk6
  obtain ⟨⟨x8_0, x8_1, x8_2, x8_3⟩, -⟩ := blkWorld (L16.out.2.2.2.2.2.1)
  go_wp2_with fail
  refine Calls.mono (markWo y hI e1 m1 f1 e2 m2 f2 e3 m3 f3 us hj 1 w16 (L16.out.2.2.2.2.2.2.1) (L16.out.2.2.2.2.2.2.2.1) HM.out.2.1 (by omega) (by omega)) ?_
  rintro e w17 ⟨he, ⟨us2, hm⟩, hbl, hws⟩
  subst he
  have hI1 := HI1.out
  have L17 : Hid ((w.grownBy w17 none) ∧ (w17.heap[p]? = some (Obj.cells #[.int .i64 x.ticks, .slice a1 l1 c1, .slice a2 l2 c2, .slice a3 l3 c3] 41)) ∧ (w17.heap[q]? = some (Obj.cells #[.int .i64 y.ticks, .slice d1 m1 k1, .slice d2 m2 k2, .slice d3 m3 k3] 27)) ∧ (RdWorld (hideR w17 b0 q) y d1 m1 d2 m2 d3 m3) ∧ (w17.heap[s]? = some (Obj.cells #[.int .i64 y.ticks, .slice e1 m1 f1, .slice e2 m2 f2, .slice e3 m3 f3] 27)) ∧ (OwW w17 hI (markX 1 y) e1 m1 e2 m2 f2 e3 m3 f3 us2 hj)) := ⟨below_fresh (L16.out.1) hbl (Nat.le_trans (L16.out.2.2.2.2.1).1 hI1), (hbl.block p (Nat.lt_of_lt_of_le (L16.out.2.2.2.2.1).2.1 hI1)).trans (L16.out.2.1), (hbl.block q (Nat.lt_of_lt_of_le (L16.out.2.2.2.2.1).2.2 hI1)).trans (L16.out.2.2.1), RdWorld.le (L16.out.2.2.2.1) (hir_same fun m h1 h2 h3 => hbl.block m (Nat.lt_of_lt_of_le (Nat.lt_trans h2 (L16.out.2.2.2.2.1).2.2) hI1)), hws s _ (L16.out.2.2.2.2.2.1), hm⟩
  clear L16 x8_0 x8_1 x8_2 x8_3
  clear hbl hws hm hI1
  simp only []
  have hq1 : ¬ ((1 : Int) + (markN y : Nat) < 0) := by omega
  obtain ⟨⟨x9_0, x9_1, x9_2, x9_3⟩, -⟩ := blkWorld (L17.out.2.2.2.2.1)
  go_wp2_with fail
  refine Calls.mono (heldWo y y.ticks e1 m1 f1 e2 m2 f2 e3 m3 f3 1 w17 ((ow_rd (L17.out.2.2.2.2.2) HN.out.2.2.2.1 HN.out.2.2.2.2).le CLe.unhidz) HM.out.2.1 HM.out.2.2 (by omega) (by omega)) ?_
  rintro e w18 ⟨he, hg⟩
  subst he
  have L18 : Hid ((w.grownBy w18 none) ∧ (w18.heap[p]? = some (Obj.cells #[.int .i64 x.ticks, .slice a1 l1 c1, .slice a2 l2 c2, .slice a3 l3 c3] 41)) ∧ (w18.heap[q]? = some (Obj.cells #[.int .i64 y.ticks, .slice d1 m1 k1, .slice d2 m2 k2, .slice d3 m3 k3] 27)) ∧ (RdWorld (hideR w18 b0 q) y d1 m1 d2 m2 d3 m3) ∧ (w18.heap[s]? = some (Obj.cells #[.int .i64 y.ticks, .slice e1 m1 f1, .slice e2 m2 f2, .slice e3 m3 f3] 27)) ∧ (OwW w18 hI (markX 1 y) e1 m1 e2 m2 f2 e3 m3 f3 us2 hj)) := ⟨grown_trans (L17.out.1) hg, (World.grownBy.block hg _ (lt_of_block (L17.out.2.1)) (by simp)).trans (L17.out.2.1), (World.grownBy.block hg _ (lt_of_block (L17.out.2.2.1)) (by simp)).trans (L17.out.2.2.1), RdWorld.le (L17.out.2.2.2.1) (hir_grown hg), (World.grownBy.block hg _ (lt_of_block (L17.out.2.2.2.2.1)) (by simp)).trans (L17.out.2.2.2.2.1), ow_none (L17.out.2.2.2.2.2) hg⟩
  clear L17 x9_0 x9_1 x9_2 x9_3
  clear hg
  simp only []
  obtain ⟨⟨x10_0, x10_1, x10_2, x10_3⟩, -⟩ := blkWorld (L18.out.2.1)
  go_wp2_with fail
  refine Calls.mono (toWorldT x a1 l1 c1 a2 l2 c2 a3 l3 c3 w18 (HD.out.1.none (L18.out.1)) hs') ?_
  rintro e w19 ⟨i1, j1, i2, j2, i3, j3, he, hg, hn⟩
  subst he
  have L19 : Hid ((w.grownBy w19 none) ∧ (w19.heap[p]? = some (Obj.cells #[.int .i64 x.ticks, .slice a1 l1 c1, .slice a2 l2 c2, .slice a3 l3 c3] 41)) ∧ (w19.heap[q]? = some (Obj.cells #[.int .i64 y.ticks, .slice d1 m1 k1, .slice d2 m2 k2, .slice d3 m3 k3] 27)) ∧ (RdWorld (hideR w19 b0 q) y d1 m1 d2 m2 d3 m3) ∧ (w19.heap[s]? = some (Obj.cells #[.int .i64 y.ticks, .slice e1 m1 f1, .slice e2 m2 f2, .slice e3 m3 f3] 27)) ∧ (OwW w19 hI (markX 1 y) e1 m1 e2 m2 f2 e3 m3 f3 us2 hj) ∧ (RdWorld w19 x i1 l1 i2 l2 i3 l3)) := ⟨grown_trans (L18.out.1) hg, (World.grownBy.block hg _ (lt_of_block (L18.out.2.1)) (by simp)).trans (L18.out.2.1), (World.grownBy.block hg _ (lt_of_block (L18.out.2.2.1)) (by simp)).trans (L18.out.2.2.1), RdWorld.le (L18.out.2.2.2.1) (hir_grown hg), (World.grownBy.block hg _ (lt_of_block (L18.out.2.2.2.2.1)) (by simp)).trans (L18.out.2.2.2.2.1), ow_none (L18.out.2.2.2.2.2) hg, hn.le CLe.unhidz⟩
  clear L18 x10_0 x10_1 x10_2 x10_3
  clear hg
  simp only []
  clear hn
  go_wp2_with fail
  refine Calls.mono (toB a l c lit w19 (HD.out.2.1.none (L19.out.1)).1 hll) ?_
  rintro e w20 ⟨gy, rfl, hg, hb1, hrow⟩
  have L20 : Hid ((w.grownBy w20 none) ∧ (w20.heap[p]? = some (Obj.cells #[.int .i64 x.ticks, .slice a1 l1 c1, .slice a2 l2 c2, .slice a3 l3 c3] 41)) ∧ (w20.heap[q]? = some (Obj.cells #[.int .i64 y.ticks, .slice d1 m1 k1, .slice d2 m2 k2, .slice d3 m3 k3] 27)) ∧ (RdWorld (hideR w20 b0 q) y d1 m1 d2 m2 d3 m3) ∧ (w20.heap[s]? = some (Obj.cells #[.int .i64 y.ticks, .slice e1 m1 f1, .slice e2 m2 f2, .slice e3 m3 f3] 27)) ∧ (OwW w20 hI (markX 1 y) e1 m1 e2 m2 f2 e3 m3 f3 us2 hj) ∧ (RdWorld w20 x i1 l1 i2 l2 i3 l3) ∧ (RdB w20 (some ⟨gy, 0, none⟩) l lit)) := ⟨grown_trans (L19.out.1) hg, (World.grownBy.block hg _ (lt_of_block (L19.out.2.1)) (by simp)).trans (L19.out.2.1), (World.grownBy.block hg _ (lt_of_block (L19.out.2.2.1)) (by simp)).trans (L19.out.2.2.1), RdWorld.le (L19.out.2.2.2.1) (hir_grown hg), (World.grownBy.block hg _ (lt_of_block (L19.out.2.2.2.2.1)) (by simp)).trans (L19.out.2.2.2.2.1), ow_none (L19.out.2.2.2.2.2.1) hg, RdWorld.none (L19.out.2.2.2.2.2.2) hg, (hrow.hiz HD.out.2.2.2.1 HD.out.2.2.2.2 hll (Nat.le_refl gy)).le CLe.unhidz⟩
  clear L19
  clear hg
  simp only []
  clear hb1 hrow
  go_wp2_with fail
  refine Calls.mono (implF x y kind A C R b lit HF.out m1 m2 m3 HN.out.1 HN.out.2.1 HN.out.2.2.1 i1 l1 j1 i2 l2 j2 i3 l3 j3 (some ⟨gy, 0, none⟩) l l w20 (L20.out.2.2.2.2.2.2.1) (L20.out.2.2.2.2.2.2.2) HD.out.2.2.1 hs') ?_
  rintro e w21 ⟨h1, n1, h2, n2, h3, n3, vs3, hk3, he, ho, hg⟩
  subst he
  have ga := World.grownBy_alloc w21 (.cells #[.int .i64 y.ticks, .slice h1 m1 n1, .slice h2 m2 n2, .slice h3 m3 n3] 27) none
  have ba := heap_alloc_new w21 (.cells #[.int .i64 y.ticks, .slice h1 m1 n1, .slice h2 m2 n2, .slice h3 m3 n3] 27)
  have hgg := grown_trans hg ga
  have L21 : Hid ((w.grownBy (w21.alloc (.cells #[.int .i64 y.ticks, .slice h1 m1 n1, .slice h2 m2 n2, .slice h3 m3 n3] 27)) none) ∧ ((w21.alloc (.cells #[.int .i64 y.ticks, .slice h1 m1 n1, .slice h2 m2 n2, .slice h3 m3 n3] 27)).heap[p]? = some (Obj.cells #[.int .i64 x.ticks, .slice a1 l1 c1, .slice a2 l2 c2, .slice a3 l3 c3] 41)) ∧ ((w21.alloc (.cells #[.int .i64 y.ticks, .slice h1 m1 n1, .slice h2 m2 n2, .slice h3 m3 n3] 27)).heap[q]? = some (Obj.cells #[.int .i64 y.ticks, .slice d1 m1 k1, .slice d2 m2 k2, .slice d3 m3 k3] 27)) ∧ (RdWorld (hideR (w21.alloc (.cells #[.int .i64 y.ticks, .slice h1 m1 n1, .slice h2 m2 n2, .slice h3 m3 n3] 27)) b0 q) y d1 m1 d2 m2 d3 m3) ∧ ((w21.alloc (.cells #[.int .i64 y.ticks, .slice h1 m1 n1, .slice h2 m2 n2, .slice h3 m3 n3] 27)).heap[s]? = some (Obj.cells #[.int .i64 y.ticks, .slice e1 m1 f1, .slice e2 m2 f2, .slice e3 m3 f3] 27)) ∧ (OwW (w21.alloc (.cells #[.int .i64 y.ticks, .slice h1 m1 n1, .slice h2 m2 n2, .slice h3 m3 n3] 27)) hI (markX 1 y) e1 m1 e2 m2 f2 e3 m3 f3 us2 hj) ∧ ((w21.alloc (.cells #[.int .i64 y.ticks, .slice h1 m1 n1, .slice h2 m2 n2, .slice h3 m3 n3] 27)).heap[w21.heap.size]? = some (Obj.cells #[.int .i64 y.ticks, .slice h1 m1 n1, .slice h2 m2 n2, .slice h3 m3 n3] 27)) ∧ (RdWorld (w21.alloc (.cells #[.int .i64 y.ticks, .slice h1 m1 n1, .slice h2 m2 n2, .slice h3 m3 n3] 27)) y h1 m1 h2 m2 h3 m3)) := ⟨grown_trans (L20.out.1) hgg, (World.grownBy.block hgg _ (lt_of_block (L20.out.2.1)) (by simp)).trans (L20.out.2.1), (World.grownBy.block hgg _ (lt_of_block (L20.out.2.2.1)) (by simp)).trans (L20.out.2.2.1), RdWorld.le (L20.out.2.2.2.1) (hir_grown hgg), (World.grownBy.block hgg _ (lt_of_block (L20.out.2.2.2.2.1)) (by simp)).trans (L20.out.2.2.2.2.1), ow_none (L20.out.2.2.2.2.2.1) hgg, ba, ((ow_rd ho HN.out.2.2.2.1 HN.out.2.2.2.2).le CLe.unhidz).none ga⟩
  clear L20
  clear hg ga ba hgg ho
  simp only []
  obtain ⟨⟨x11_0, x11_1, x11_2, x11_3⟩, -⟩ := blkWorld (L21.out.2.2.2.2.2.2.1)
  obtain ⟨⟨x12_0, x12_1, x12_2, x12_3⟩, -⟩ := blkWorld (L21.out.2.2.1)
  go_wp2_with fail
  generalize (w21.alloc (.cells #[.int .i64 y.ticks, .slice h1 m1 n1, .slice h2 m2 n2, .slice h3 m3 n3] 27)) = u22 at *
  generalize w21.heap.size = t at *
  refine Calls.mono (eqWorldT y h1 d1 m1 n1 k1 h2 d2 m2 n2 k2 h3 d3 m3 n3 k3 u22 (L21.out.2.2.2.2.2.2.2) ((L21.out.2.2.2.1).le CLe.unhir) (Nat.le_trans HM.out.1 (by omega))) ?_
  rintro e w23 ⟨he, hg⟩
  subst he
  have L22 : Hid ((w.grownBy w23 none) ∧ (w23.heap[p]? = some (Obj.cells #[.int .i64 x.ticks, .slice a1 l1 c1, .slice a2 l2 c2, .slice a3 l3 c3] 41)) ∧ (w23.heap[q]? = some (Obj.cells #[.int .i64 y.ticks, .slice d1 m1 k1, .slice d2 m2 k2, .slice d3 m3 k3] 27)) ∧ (RdWorld (hideR w23 b0 q) y d1 m1 d2 m2 d3 m3) ∧ (w23.heap[s]? = some (Obj.cells #[.int .i64 y.ticks, .slice e1 m1 f1, .slice e2 m2 f2, .slice e3 m3 f3] 27)) ∧ (OwW w23 hI (markX 1 y) e1 m1 e2 m2 f2 e3 m3 f3 us2 hj) ∧ (w23.heap[t]? = some (Obj.cells #[.int .i64 y.ticks, .slice h1 m1 n1, .slice h2 m2 n2, .slice h3 m3 n3] 27)) ∧ (RdWorld w23 y h1 m1 h2 m2 h3 m3)) := ⟨grown_trans (L21.out.1) hg, (World.grownBy.block hg _ (lt_of_block (L21.out.2.1)) (by simp)).trans (L21.out.2.1), (World.grownBy.block hg _ (lt_of_block (L21.out.2.2.1)) (by simp)).trans (L21.out.2.2.1), RdWorld.le (L21.out.2.2.2.1) (hir_grown hg), (World.grownBy.block hg _ (lt_of_block (L21.out.2.2.2.2.1)) (by simp)).trans (L21.out.2.2.2.2.1), ow_none (L21.out.2.2.2.2.2.1) hg, (World.grownBy.block hg _ (lt_of_block (L21.out.2.2.2.2.2.2.1)) (by simp)).trans (L21.out.2.2.2.2.2.2.1), RdWorld.none (L21.out.2.2.2.2.2.2.2) hg⟩
  clear L21 x11_0 x11_1 x11_2 x11_3 x12_0 x12_1 x12_2 x12_3
  clear hg
  simp only []
  obtain ⟨⟨x13_0, x13_1, x13_2, x13_3⟩, -⟩ := blkWorld (L22.out.2.2.2.2.1)
  go_wp2_with fail
  refine Calls.mono (heldWo y y.ticks e1 m1 f1 e2 m2 f2 e3 m3 f3 1 w23 ((ow_rd (L22.out.2.2.2.2.2.1) HN.out.2.2.2.1 HN.out.2.2.2.2).le CLe.unhidz) HM.out.2.1 HM.out.2.2 (by omega) (by omega)) ?_
  rintro e w24 ⟨he, hg⟩
  subst he
  have L23 : Hid ((w.grownBy w24 none) ∧ (w24.heap[p]? = some (Obj.cells #[.int .i64 x.ticks, .slice a1 l1 c1, .slice a2 l2 c2, .slice a3 l3 c3] 41)) ∧ (w24.heap[q]? = some (Obj.cells #[.int .i64 y.ticks, .slice d1 m1 k1, .slice d2 m2 k2, .slice d3 m3 k3] 27)) ∧ (RdWorld (hideR w24 b0 q) y d1 m1 d2 m2 d3 m3) ∧ (w24.heap[s]? = some (Obj.cells #[.int .i64 y.ticks, .slice e1 m1 f1, .slice e2 m2 f2, .slice e3 m3 f3] 27)) ∧ (OwW w24 hI (markX 1 y) e1 m1 e2 m2 f2 e3 m3 f3 us2 hj) ∧ (w24.heap[t]? = some (Obj.cells #[.int .i64 y.ticks, .slice h1 m1 n1, .slice h2 m2 n2, .slice h3 m3 n3] 27)) ∧ (RdWorld w24 y h1 m1 h2 m2 h3 m3)) := ⟨grown_trans (L22.out.1) hg, (World.grownBy.block hg _ (lt_of_block (L22.out.2.1)) (by simp)).trans (L22.out.2.1), (World.grownBy.block hg _ (lt_of_block (L22.out.2.2.1)) (by simp)).trans (L22.out.2.2.1), RdWorld.le (L22.out.2.2.2.1) (hir_grown hg), (World.grownBy.block hg _ (lt_of_block (L22.out.2.2.2.2.1)) (by simp)).trans (L22.out.2.2.2.2.1), ow_none (L22.out.2.2.2.2.2.1) hg, (World.grownBy.block hg _ (lt_of_block (L22.out.2.2.2.2.2.2.1)) (by simp)).trans (L22.out.2.2.2.2.2.2.1), RdWorld.none (L22.out.2.2.2.2.2.2.2) hg⟩
  clear L22 x13_0 x13_1 x13_2 x13_3
  clear hg
  simp only []
  go_wp2
  go_ret
  exact ⟨rfl, L23.out.1⟩
end Go.Proofs.Ytccnninmkfhejaa.By
