/-
  The walk of the exact law of FnExactWorldOk. No statement is proved here.
-/
import Derived.Test.YtiioeondidhckaaSWorld
import Derived.Test.YtiioeondidhckaaWV
namespace Go.Proofs.Ytiioeondidhckaa.By
open Go.RowKit
set_option linter.unusedVariables false
set_option linter.unusedSimpArgs false

set_option maxRecDepth 8000 in
set_option maxHeartbeats 4000000 in
theorem lawWorldOk (x : RWorld) (a1 : Option Addr) (l1 c1 : Nat) (a2 : Option Addr) (l2 c2 : Nat) (a3 : Option Addr) (l3 c3 : Nat) (w : World) (h : RdWorld w x a1 l1 a2 l2 a3 l3) :
    Calls Try.prog 4 #[.agg #[.int .i64 x.ticks, .slice a1 l1 c1, .slice a2 l2 c2, .slice a3 l3 c3]] w fun e u => e = .returned (.bool true) ∧ w.grownBy u none := by
  have g0 := World.grownBy_alloc w (.cells #[.int .i64 x.ticks, .slice a1 l1 c1, .slice a2 l2 c2, .slice a3 l3 c3] 41) none
  have b0 := heap_alloc_new w (.cells #[.int .i64 x.ticks, .slice a1 l1 c1, .slice a2 l2 c2, .slice a3 l3 c3] 41)
  have HS : Hid (∀ u, w.grownBy u none → RdWorld u x a1 l1 a2 l2 a3 l3) := fun u hu => h.none hu
  have C0 : Hid _ := szWorldT x a1 l1 c1 a2 l2 c2 a3 l3 c3 1048576 _ (h.none g0) (by omega) (by omega)
  have L0 : Hid (w.grownBy _ none ∧ _ = some (Obj.cells #[.int .i64 x.ticks, .slice a1 l1 c1, .slice a2 l2 c2, .slice a3 l3 c3] 41)) := ⟨g0, b0⟩
  obtain ⟨⟨y0, y1, y2, y3⟩, -⟩ := blkWorld b0
  clear h g0 b0
  go_enter Try.func4, Try.ntmps4
  go_wp2_with fail
  refine Calls.mono C0.out ?_
  rintro e w1 ⟨⟨r, he, hr⟩, hg⟩
  subst he
  have L1 : Hid (w.grownBy w1 none ∧ w1.heap[w.heap.size]? = some (Obj.cells #[.int .i64 x.ticks, .slice a1 l1 c1, .slice a2 l2 c2, .slice a3 l3 c3] 41)) := ⟨grown_trans L0.out.1 hg, (hg.block _ (lt_of_block L0.out.2) (by simp)).trans L0.out.2⟩
  clear C0 L0 hg y0 y1 y2 y3
  simp only []
  rcases hr with rfl | ⟨hr0, hr1⟩
  · go_wp2
    go_ret
    exact ⟨rfl, L1.out.1⟩
  have hs' : szWorld x ≤ 1048576 := by omega
  have hneg : ¬ r < 0 := by omega
  have C1 : Hid _ := toWorldT x a1 l1 c1 a2 l2 c2 a3 l3 c3 w1 (HS.out _ L1.out.1) hs'
  obtain ⟨⟨y0, y1, y2, y3⟩, -⟩ := blkWorld L1.out.2
  go_wp2_with fail
  refine Calls.mono C1.out ?_
  rintro e w2 ⟨t1, v1, t2, v2, t3, v3, he, hg, hn⟩
  subst he
  have L2 : Hid (w.grownBy w2 none ∧ w2.heap[w.heap.size]? = some (Obj.cells #[.int .i64 x.ticks, .slice a1 l1 c1, .slice a2 l2 c2, .slice a3 l3 c3] 41)) := ⟨grown_trans L1.out.1 hg, (hg.block _ (lt_of_block L1.out.2) (by simp)).trans L1.out.2⟩
  have C2 : Hid _ := specWorldOkT x t1 l1 v1 t2 l2 v2 t3 l3 v3 w2 (hn.le CLe.unhidz)
  clear C1 L1 hg hn y0 y1 y2 y3
  simp only []
  go_wp2_with fail
  refine Calls.mono C2.out ?_
  rintro e w3 ⟨he, hg⟩
  subst he
  have L3 : Hid (w.grownBy w3 none ∧ w3.heap[w.heap.size]? = some (Obj.cells #[.int .i64 x.ticks, .slice a1 l1 c1, .slice a2 l2 c2, .slice a3 l3 c3] 41)) := ⟨grown_trans L2.out.1 hg, (hg.block _ (lt_of_block L2.out.2) (by simp)).trans L2.out.2⟩
  clear C2 L2 hg
  have C3 : Hid _ := toWorldT x a1 l1 c1 a2 l2 c2 a3 l3 c3 w3 (HS.out _ L3.out.1) hs'
  obtain ⟨⟨y0, y1, y2, y3⟩, -⟩ := blkWorld L3.out.2
  simp only []
  go_wp2_with fail
  refine Calls.mono C3.out ?_
  rintro e w4 ⟨s1, z1, s2, z2, s3, z3, he, hg, hn⟩
  subst he
  have L4 : Hid (w.grownBy w4 none ∧ w4.heap[w.heap.size]? = some (Obj.cells #[.int .i64 x.ticks, .slice a1 l1 c1, .slice a2 l2 c2, .slice a3 l3 c3] 41) ∧ RdWorld w4 x s1 l1 s2 l2 s3 l3) := ⟨grown_trans L3.out.1 hg, (hg.block _ (lt_of_block L3.out.2) (by simp)).trans L3.out.2, hn.le CLe.unhidz⟩
  clear C3 L3 hg hn y0 y1 y2 y3
  have ga := World.grownBy_alloc w4 (.cells #[.int .i64 x.ticks, .slice s1 l1 z1, .slice s2 l2 z2, .slice s3 l3 z3] 27) none
  have ba := heap_alloc_new w4 (.cells #[.int .i64 x.ticks, .slice s1 l1 z1, .slice s2 l2 z2, .slice s3 l3 z3] 27)
  have C4 : Hid _ := implWorldOkT x s1 l1 z1 s2 l2 z2 s3 l3 z3 _ (L4.out.2.2.none ga)
  have L5 : Hid (w.grownBy _ none ∧ _ = some (Obj.cells #[.int .i64 x.ticks, .slice a1 l1 c1, .slice a2 l2 c2, .slice a3 l3 c3] 41) ∧ RdWorld _ x s1 l1 s2 l2 s3 l3 ∧ _ = some (Obj.cells #[.int .i64 x.ticks, .slice s1 l1 z1, .slice s2 l2 z2, .slice s3 l3 z3] 27)) := ⟨grown_trans L4.out.1 ga, (ga.block _ (lt_of_block L4.out.2.1) (by simp)).trans L4.out.2.1, L4.out.2.2.none ga, ba⟩
  clear L4 ga ba
  simp only []
  go_wp2_with fail
  refine Calls.mono C4.out ?_
  rintro e w5 ⟨he, hg⟩
  subst he
  generalize w4.heap.size = p4 at *
  have L6 : Hid (w.grownBy w5 none ∧ w5.heap[w.heap.size]? = some (Obj.cells #[.int .i64 x.ticks, .slice a1 l1 c1, .slice a2 l2 c2, .slice a3 l3 c3] 41) ∧ RdWorld w5 x s1 l1 s2 l2 s3 l3 ∧ w5.heap[p4]? = some (Obj.cells #[.int .i64 x.ticks, .slice s1 l1 z1, .slice s2 l2 z2, .slice s3 l3 z3] 27)) := ⟨grown_trans L5.out.1 hg, (hg.block _ (lt_of_block L5.out.2.1) (by simp)).trans L5.out.2.1, L5.out.2.2.1.none hg, (hg.block _ (lt_of_block L5.out.2.2.2) (by simp)).trans L5.out.2.2.2⟩
  clear L5 C4 hg
  generalize w.heap.size = p0 at *
  have gd := grown_drew (World.grownBy.refl w5 none)
  have C6 : Hid _ := toWorldT x a1 l1 c1 a2 l2 c2 a3 l3 c3 w5.drew (HS.out _ (grown_trans L6.out.1 gd)) hs'
  have TT : Hid (∀ u, w5.drew.grownBy u none → ((u.cell? ⟨p4, 0, none⟩ = some (.int .i64 x.ticks) ∧ u.cell? ⟨p4, 1, none⟩ = some (.slice s1 l1 z1) ∧ u.cell? ⟨p4, 2, none⟩ = some (.slice s2 l2 z2) ∧ u.cell? ⟨p4, 3, none⟩ = some (.slice s3 l3 z3)) ∧ (u.cell? ⟨p0, 0, none⟩ = some (.int .i64 x.ticks) ∧ u.cell? ⟨p0, 1, none⟩ = some (.slice a1 l1 c1) ∧ u.cell? ⟨p0, 2, none⟩ = some (.slice a2 l2 c2) ∧ u.cell? ⟨p0, 3, none⟩ = some (.slice a3 l3 c3)))) := fun u hu => by
    have hgu := grown_trans gd hu
    exact ⟨(blkWorld ((hgu.block _ (lt_of_block L6.out.2.2.2) (by simp)).trans L6.out.2.2.2)).1, (blkWorld ((hgu.block _ (lt_of_block L6.out.2.1) (by simp)).trans L6.out.2.1)).1⟩
  have L7 : Hid (w.grownBy w5.drew none ∧ RdWorld w5.drew x s1 l1 s2 l2 s3 l3) := ⟨grown_trans L6.out.1 gd, L6.out.2.2.1.none gd⟩
  clear gd L6
  generalize wokV x = bb at *
  simp only []
  go_wp2_with fail
  refine wp_region_held_drew (S := (fun u => ((u.cell? ⟨p4, 0, none⟩ = some (.int .i64 x.ticks) ∧ u.cell? ⟨p4, 1, none⟩ = some (.slice s1 l1 z1) ∧ u.cell? ⟨p4, 2, none⟩ = some (.slice s2 l2 z2) ∧ u.cell? ⟨p4, 3, none⟩ = some (.slice s3 l3 z3)) ∧ (u.cell? ⟨p0, 0, none⟩ = some (.int .i64 x.ticks) ∧ u.cell? ⟨p0, 1, none⟩ = some (.slice a1 l1 c1) ∧ u.cell? ⟨p0, 2, none⟩ = some (.slice a2 l2 c2) ∧ u.cell? ⟨p0, 3, none⟩ = some (.slice a3 l3 c3))))) (by kernel_rfl) (TT.out _ (World.grownBy.refl _ _)) (fun hH => ?_)
  generalize w5.drew = u at *
  simp only [List.size_toArray, List.length_cons, List.length_nil, Nat.reduceAdd, Array.replicate, List.replicate]
  refine wpAnyH_take (i := 0) (v := ?_) rfl (by kernel_rfl) (by kernel_rfl) (by kernel_rfl) (fun _ _ _ h => h) (Or.inl ⟨by rfl, ?_⟩) hH ?_
  rotate_left
  · (intro v hS; obtain ⟨⟨x0, x1, x2, x3⟩, y0, y1, y2, y3⟩ := hS; go_simp; try with_reducible rfl)
  simp only [Act.put, List.setIfInBounds_toArray, List.set_cons_zero, List.set_cons_succ, List.getElem_toArray, List.getElem_cons_succ, List.getElem_cons_zero]
  refine wpAnyH_take (i := 1) (v := ?_) rfl (by kernel_rfl) (by kernel_rfl) (by kernel_rfl) (fun _ _ _ h => h) (Or.inl ⟨by rfl, ?_⟩) hH ?_
  rotate_left
  · (intro v hS; obtain ⟨⟨x0, x1, x2, x3⟩, y0, y1, y2, y3⟩ := hS; go_simp; try with_reducible rfl)
  simp only [Act.put, List.setIfInBounds_toArray, List.set_cons_zero, List.set_cons_succ, List.getElem_toArray, List.getElem_cons_succ, List.getElem_cons_zero]
  refine wpAnyH_ready (rs := [2]) (by kernel_rfl) (by simp) ?_
  refine AllReadyH.cons rfl (fun K hK => ?_) AllReadyH.nil
  go_simp
  refine Calls.mono C6.out ?_
  rintro e w6 ⟨q1, r1, q2, r2, q3, r3, he, hg, hn⟩
  subst he
  refine hK.out _ _ (TT.out _ hg) (fun hH2 => ?_)
  clear hK K hH
  have hH := hH2
  clear hH2
  have C7 : Hid _ := eqWorldT x s1 q1 l1 z1 r1 s2 q2 l2 z2 r2 s3 q3 l3 z3 r3 w6 (L7.out.2.none hg) (hn.le CLe.unhidz) hs'
  have L8 : Hid (w.grownBy w6 none ∧ u.grownBy w6 none) := ⟨grown_trans L7.out.1 hg, hg⟩
  clear L7 C6 hn hg
  simp only [Act.put, List.setIfInBounds_toArray, List.set_cons_zero, List.set_cons_succ, List.getElem_toArray, List.getElem_cons_succ, List.getElem_cons_zero]
  refine wpAnyH_ready (rs := [3]) (by kernel_rfl) (by simp) ?_
  refine AllReadyH.cons rfl (fun K hK => ?_) AllReadyH.nil
  go_simp
  refine Calls.mono C7.out ?_
  rintro e w7 ⟨he, hg⟩
  subst he
  refine hK.out _ _ (TT.out _ (grown_trans L8.out.2 hg)) (fun hH2 => ?_)
  clear hK K hH
  have hH := hH2
  clear hH2
  have L9 : Hid (w.grownBy w7 none) := grown_trans L8.out.1 hg
  clear L8 C7 hg TT
  simp only [Act.put, List.setIfInBounds_toArray, List.set_cons_zero, List.set_cons_succ, List.getElem_toArray, List.getElem_cons_succ, List.getElem_cons_zero]
  refine wpAnyH_take (i := 4) (v := ?_) rfl (by kernel_rfl) (by kernel_rfl) (by kernel_rfl) (fun _ _ _ h => h) (Or.inl ⟨by rfl, ?_⟩) hH ?_
  rotate_left
  · (intro v hS; go_simp; try with_reducible rfl)
  simp only [Act.put, List.setIfInBounds_toArray, List.set_cons_zero, List.set_cons_succ, List.getElem_toArray, List.getElem_cons_succ, List.getElem_cons_zero]
  refine wpAnyH_done (by kernel_rfl) ?_ _
  go_wp2
  go_ret
  exact ⟨rfl, L9.out⟩
end Go.Proofs.Ytiioeondidhckaa.By
