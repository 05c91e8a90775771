/-
  The walk of laws.FnExactCapsOf. No statement is proved here.
-/
import Derived.Test.YtpdkgmagjhibkaaGreatDoorXCAlso
import Derived.Test.YtpdkgmagjhibkaaGreatDoorXAAlso
namespace Go.Proofs.YtpdkgmagjhibkaaGreatDoor.By
open Go.RowKit
set_option linter.unusedVariables false
set_option linter.unusedSimpArgs false

set_option maxRecDepth 8000 in
set_option maxHeartbeats 8000000 in
theorem lawCapsOf (x : RProg) (a1 : Option Addr) (l1 c1 : Nat) (a2 : Option Addr) (l2 c2 : Nat) (a3 : Option Addr) (l3 c3 : Nat) (w : World) (h : RdProg w x a1 l1 a2 l2 a3 l3) (hF : OpsIn w) :
    Calls Tryz.prog 5 #[.agg #[.slice a1 l1 c1, .slice a2 l2 c2, .slice a3 l3 c3]] w fun e u => e = .returned (.bool true) ∧ w.grownBy u none := by
  have g0 := World.grownBy_alloc w (.cells #[.slice a1 l1 c1, .slice a2 l2 c2, .slice a3 l3 c3] 26) none
  have b0 := heap_alloc_new w (.cells #[.slice a1 l1 c1, .slice a2 l2 c2, .slice a3 l3 c3] 26)
  have C1 : Hid _ := szProgT x a1 l1 c1 a2 l2 c2 a3 l3 c3 1048576 _ (h.none g0) (by omega) (by omega)
  have HD : Hid (RdProg w x a1 l1 a2 l2 a3 l3) := h
  have HF : Hid (∀ u, w.grownBy u none → OpsIn u) := fun u hu => hF.none hu
  have L0 : Hid (w.grownBy _ none ∧ _ = some (Obj.cells #[.slice a1 l1 c1, .slice a2 l2 c2, .slice a3 l3 c3] 26)) := ⟨g0, b0⟩
  have hM : szProg x ≤ 1048576 → l1 ≤ 4194304 := fun hs => by have h9 := szLayouts_len x.lays; have h8 : x.lays.length = l1 := h.1.1; unfold szProg at hs; omega
  obtain ⟨⟨y0, y1, y2⟩, -⟩ := blkProg b0
  clear g0 b0 h hF
  go_enter Tryz.func5, Tryz.ntmps5
  go_wp2_with fail
  refine Calls.mono C1.out ?_
  rintro e w1 ⟨⟨r0, he, hr⟩, hg⟩
  subst he
  obtain ⟨g0, b0⟩ := L0.out
  have g1 := grown_trans g0 hg
  have b1 := (hg.block _ (lt_of_block b0) (by simp)).trans b0
  clear hg L0 C1 g0 b0 y0 y1 y2
  simp only []
  rcases hr with rfl | ⟨hr0, hr1⟩
  · have G1 : Hid (w.grownBy w1 none) := g1
    clear g1 b1
    go_wp2
    go_ret
    exact ⟨rfl, G1.out⟩
  have hs' : szProg x ≤ 1048576 := by omega
  have hM := hM hs'
  have hneg : ¬ r0 < 0 := by omega
  have hbase : w.heap.size ≤ w.heap.size := Nat.le_refl _
  generalize ep : w.heap.size = p at b1
  have EP : Hid (w.heap.size = p) := ep
  try simp only [ep]
  have L1 : Hid ((w.grownBy w1 none) ∧ (w1.heap[p]? = some (Obj.cells #[.slice a1 l1 c1, .slice a2 l2 c2, .slice a3 l3 c3] 26))) := ⟨g1, b1⟩
  clear g1 b1 ep hbase
  have HN : (capsOfV x).length ≤ 4194304 := (by unfold capsOfV; split; (rename_i h9; have := capK_len2 h9; have := insL_len (capK x.blks) []; simp only [List.length_nil] at this; omega); simp)
  obtain ⟨⟨x0_0, x0_1, x0_2⟩, -⟩ := three (L1.out.2)
  go_wp2_with fail
  refine Calls.mono (toProgT x a1 l1 c1 a2 l2 c2 a3 l3 c3 w1 (HD.out.none (L1.out.1)) hs') ?_
  rintro e w2 ⟨t1, v1, t2, v2, t3, v3, he, hg, hn⟩
  subst he
  have L2 : Hid ((w.grownBy w2 none) ∧ (w2.heap[p]? = some (Obj.cells #[.slice a1 l1 c1, .slice a2 l2 c2, .slice a3 l3 c3] 26)) ∧ (RdProg w2 x t1 l1 t2 l2 t3 l3)) := ⟨grown_trans (L1.out.1) hg, (World.grownBy.block hg _ (lt_of_block (L1.out.2)) (by simp)).trans (L1.out.2), hn.le CLe.unhidz⟩
  clear L1 x0_0 x0_1 x0_2
  clear hg
  simp only []
  clear hn
  go_wp2_with fail
  refine Calls.mono (specCapsT x t1 l1 v1 t2 l2 v2 t3 l3 v3 w2 (L2.out.2.2)) ?_
  rintro e w3 ⟨aw, cw, he, hg, hw⟩
  subst he
  have L3 : Hid ((w.grownBy w3 none) ∧ (w3.heap[p]? = some (Obj.cells #[.slice a1 l1 c1, .slice a2 l2 c2, .slice a3 l3 c3] 26)) ∧ (OwI w2.heap.size w3 aw (capsOfV x).length cw ((capsOfV x)))) := ⟨grown_trans (L2.out.1) hg, (World.grownBy.block hg _ (lt_of_block (L2.out.2.1)) (by simp)).trans (L2.out.2.1), hw⟩
  clear L2
  clear hg
  simp only []
  clear hw
  generalize hZS : (capsOfV x) = ZS at *
  generalize hNN : ZS.length = N at *
  have HZN : Hid (ZS.length = N) := hNN
  obtain ⟨⟨x1_0, x1_1, x1_2⟩, -⟩ := three (L3.out.2.1)
  go_wp2_with fail
  refine Calls.mono (toProgT x a1 l1 c1 a2 l2 c2 a3 l3 c3 w3 (HD.out.none (L3.out.1)) hs') ?_
  rintro e w4 ⟨s1, z1, s2, z2, s3, z3, he, hg, hn⟩
  subst he
  have ga := World.grownBy_alloc w4 (.cells #[.slice s1 l1 z1, .slice s2 l2 z2, .slice s3 l3 z3] 32) none
  have ba := heap_alloc_new w4 (.cells #[.slice s1 l1 z1, .slice s2 l2 z2, .slice s3 l3 z3] 32)
  have hgg := grown_trans hg ga
  have hlw : ∀ y, (Value.slice aw N cw).ownBlock = some y → y < w3.heap.size := fun y hy => ((L3.out.2.2).lt y hy).2
  have hpr : (w.heap.size ≤ w3.heap.size ∧ p < w3.heap.size) ∧ w3.heap.size ≤ w4.heap.size := ⟨⟨(L3.out.1).size, lt_of_block (L3.out.2.1)⟩, hg.size⟩
  have L4 : Hid ((w.grownBy (w4.alloc (.cells #[.slice s1 l1 z1, .slice s2 l2 z2, .slice s3 l3 z3] 32)) none) ∧ ((w4.alloc (.cells #[.slice s1 l1 z1, .slice s2 l2 z2, .slice s3 l3 z3] 32)).heap[p]? = some (Obj.cells #[.slice a1 l1 c1, .slice a2 l2 c2, .slice a3 l3 c3] 26)) ∧ (OwI w2.heap.size (w4.alloc (.cells #[.slice s1 l1 z1, .slice s2 l2 z2, .slice s3 l3 z3] 32)) aw N cw ZS) ∧ ((w4.alloc (.cells #[.slice s1 l1 z1, .slice s2 l2 z2, .slice s3 l3 z3] 32)).heap[w4.heap.size]? = some (Obj.cells #[.slice s1 l1 z1, .slice s2 l2 z2, .slice s3 l3 z3] 32)) ∧ (RdProg (hideR (w4.alloc (.cells #[.slice s1 l1 z1, .slice s2 l2 z2, .slice s3 l3 z3] 32)) w3.heap.size w4.heap.size) x s1 l1 s2 l2 s3 l3) ∧ (∀ y, (Value.slice aw N cw).ownBlock = some y → y < w3.heap.size) ∧ ((w.heap.size ≤ w3.heap.size ∧ p < w3.heap.size) ∧ w3.heap.size ≤ w4.heap.size) ∧ (w4.heap.size < (w4.alloc (.cells #[.slice s1 l1 z1, .slice s2 l2 z2, .slice s3 l3 z3] 32)).heap.size)) := ⟨grown_trans (L3.out.1) hgg, (World.grownBy.block hgg _ (lt_of_block (L3.out.2.1)) (by simp)).trans (L3.out.2.1), OwI.kept (L3.out.2.2) hgg, ba, hn.le (CLe.toR ga), hlw, hpr, lt_of_block ba⟩
  clear L3 x1_0 x1_1 x1_2
  clear hg ga ba hgg hn hlw hpr
  simp only []
  obtain ⟨⟨x2_0, x2_1, x2_2⟩, -⟩ := three (L4.out.2.2.2.1)
  go_wp2_with fail
  generalize er : w4.heap.size = r at *
  generalize el : w3.heap.size = lo at *
  refine Calls.mono (implCapsT x s1 l1 z1 s2 l2 z2 s3 l3 z3 _ ((L4.out.2.2.2.2.1).le CLe.unhir) (HF.out _ (L4.out.1)) hM) ?_
  rintro e w5 ⟨ag, cg, he, hg, hw⟩
  rw [hZS, hNN] at he hw
  subst he
  have L5 : Hid ((w.grownBy w5 none) ∧ (w5.heap[p]? = some (Obj.cells #[.slice a1 l1 c1, .slice a2 l2 c2, .slice a3 l3 c3] 26)) ∧ (OwI w2.heap.size w5 aw N cw ZS) ∧ (w5.heap[r]? = some (Obj.cells #[.slice s1 l1 z1, .slice s2 l2 z2, .slice s3 l3 z3] 32)) ∧ (RdProg (hideR w5 lo r) x s1 l1 s2 l2 s3 l3) ∧ (∀ y, (Value.slice aw N cw).ownBlock = some y → y < lo) ∧ ((w.heap.size ≤ lo ∧ p < lo) ∧ lo ≤ r) ∧ (r < w5.heap.size) ∧ (OwI r w5 ag N cg (ZS))) := ⟨grown_trans (L4.out.1) hg, (World.grownBy.block hg _ (lt_of_block (L4.out.2.1)) (by simp)).trans (L4.out.2.1), OwI.kept (L4.out.2.2.1) hg, (World.grownBy.block hg _ (lt_of_block (L4.out.2.2.2.1)) (by simp)).trans (L4.out.2.2.2.1), RdProg.le (L4.out.2.2.2.2.1) (hir_grown hg), L4.out.2.2.2.2.2.1, L4.out.2.2.2.2.2.2.1, Nat.lt_of_lt_of_le (L4.out.2.2.2.2.2.2.2) hg.size, OwI.mono hw (by have := L4.out.2.2.2.2.2.2.2; omega)⟩
  clear L4 x2_0 x2_1 x2_2
  clear hg
  simp only []
  clear hw er el
  have hN : N ≤ 4194304 := by omega
  go_wp2_with fail
  refine Calls.mono (eqI2 ag aw N cg cw ZS w5 (L5.out.2.2.2.2.2.2.2.2).reads (L5.out.2.2.1).reads hN) ?_
  rintro e w6 ⟨rfl, hg⟩
  have L6 : Hid ((w.grownBy w6 none) ∧ (w6.heap[p]? = some (Obj.cells #[.slice a1 l1 c1, .slice a2 l2 c2, .slice a3 l3 c3] 26)) ∧ (OwI w2.heap.size w6 aw N cw ZS) ∧ (w6.heap[r]? = some (Obj.cells #[.slice s1 l1 z1, .slice s2 l2 z2, .slice s3 l3 z3] 32)) ∧ (RdProg (hideR w6 lo r) x s1 l1 s2 l2 s3 l3) ∧ (∀ y, (Value.slice aw N cw).ownBlock = some y → y < lo) ∧ ((w.heap.size ≤ lo ∧ p < lo) ∧ lo ≤ r) ∧ (r < w6.heap.size) ∧ (OwI r w6 ag N cg (ZS))) := ⟨grown_trans (L5.out.1) hg, (World.grownBy.block hg _ (lt_of_block (L5.out.2.1)) (by simp)).trans (L5.out.2.1), OwI.kept (L5.out.2.2.1) hg, (World.grownBy.block hg _ (lt_of_block (L5.out.2.2.2.1)) (by simp)).trans (L5.out.2.2.2.1), RdProg.le (L5.out.2.2.2.2.1) (hir_grown hg), L5.out.2.2.2.2.2.1, L5.out.2.2.2.2.2.2.1, Nat.lt_of_lt_of_le (L5.out.2.2.2.2.2.2.2.1) hg.size, OwI.kept (L5.out.2.2.2.2.2.2.2.2) hg⟩
  clear L5
  clear hg
  simp only []
  go_wp2_with fail
  have L7 : Hid ((w.grownBy w6.drew none) ∧ (w6.drew.heap[p]? = some (Obj.cells #[.slice a1 l1 c1, .slice a2 l2 c2, .slice a3 l3 c3] 26)) ∧ (OwI w2.heap.size w6.drew aw N cw ZS) ∧ (w6.drew.heap[r]? = some (Obj.cells #[.slice s1 l1 z1, .slice s2 l2 z2, .slice s3 l3 z3] 32)) ∧ (RdProg (hideR w6.drew lo r) x s1 l1 s2 l2 s3 l3) ∧ (∀ y, (Value.slice aw N cw).ownBlock = some y → y < lo) ∧ ((w.heap.size ≤ lo ∧ p < lo) ∧ lo ≤ r) ∧ (r < w6.drew.heap.size) ∧ (OwI r w6.drew ag N cg (ZS))) := ⟨grown_trans (L6.out.1) (grown_drew (World.grownBy.refl w6 none)), (World.grownBy.block (grown_drew (World.grownBy.refl w6 none)) _ (lt_of_block (L6.out.2.1)) (by simp)).trans (L6.out.2.1), OwI.kept (L6.out.2.2.1) (grown_drew (World.grownBy.refl w6 none)), (World.grownBy.block (grown_drew (World.grownBy.refl w6 none)) _ (lt_of_block (L6.out.2.2.2.1)) (by simp)).trans (L6.out.2.2.2.1), RdProg.le (L6.out.2.2.2.2.1) (hir_grown (grown_drew (World.grownBy.refl w6 none))), L6.out.2.2.2.2.2.1, L6.out.2.2.2.2.2.2.1, Nat.lt_of_lt_of_le (L6.out.2.2.2.2.2.2.2.1) (grown_drew (World.grownBy.refl w6 none)).size, OwI.kept (L6.out.2.2.2.2.2.2.2.2) (grown_drew (World.grownBy.refl w6 none))⟩
  clear L6
  refine wp_region_held_drew (S := (fun u0 => Tri p 0 (.slice a1 l1 c1) (.slice a2 l2 c2) (.slice a3 l3 c3) u0 ∧ Tri r 0 (.slice s1 l1 z1) (.slice s2 l2 z2) (.slice s3 l3 z3) u0)) (by kernel_rfl) ⟨(three (L7.out.2.1)).1, (three (L7.out.2.2.2.1)).1⟩ (fun hH => ?_)
  generalize w6.drew = u0 at *
  simp only [List.size_toArray, List.length_cons, List.length_nil, Nat.reduceAdd, Array.replicate, List.replicate]
  refine wpAnyH_take (i := 0) (v := ?_) rfl (by kernel_rfl) (by kernel_rfl) (by kernel_rfl) (fun _ _ _ h => h) (Or.inl ⟨by rfl, ?_⟩) hH ?_
  rotate_left
  · (intro v hS; obtain ⟨⟨s00, s01, s02⟩, ⟨s10, s11, s12⟩⟩ := hS; go_simp; try with_reducible rfl)
  simp only [Act.put, List.setIfInBounds_toArray, List.set_cons_zero, List.set_cons_succ, List.getElem_toArray, List.getElem_cons_succ, List.getElem_cons_zero]
  refine wpAnyH_take (i := 1) (v := ?_) rfl (by kernel_rfl) (by kernel_rfl) (by kernel_rfl) (fun _ _ _ h => h) (Or.inl ⟨by rfl, ?_⟩) hH ?_
  rotate_left
  · (intro v hS; obtain ⟨⟨s00, s01, s02⟩, ⟨s10, s11, s12⟩⟩ := hS; go_simp; try with_reducible rfl)
  simp only [Act.put, List.setIfInBounds_toArray, List.set_cons_zero, List.set_cons_succ, List.getElem_toArray, List.getElem_cons_succ, List.getElem_cons_zero]
  refine wpAnyH_ready (rs := [2]) (by kernel_rfl) (by simp) ?_
  refine AllReadyH.cons rfl (fun K hK => ?_) AllReadyH.nil
  go_simp
  refine Calls.mono (toProgT x a1 l1 c1 a2 l2 c2 a3 l3 c3 u0 (HD.out.none (L7.out.1)) hs') ?_
  rintro e u1 ⟨q1, d1, q2, d2, q3, d3, he, hg, hn⟩
  subst he
  have L8 : Hid ((w.grownBy u1 none) ∧ (u1.heap[p]? = some (Obj.cells #[.slice a1 l1 c1, .slice a2 l2 c2, .slice a3 l3 c3] 26)) ∧ (OwI w2.heap.size u1 aw N cw ZS) ∧ (u1.heap[r]? = some (Obj.cells #[.slice s1 l1 z1, .slice s2 l2 z2, .slice s3 l3 z3] 32)) ∧ (RdProg (hideR u1 lo r) x s1 l1 s2 l2 s3 l3) ∧ (∀ y, (Value.slice aw N cw).ownBlock = some y → y < lo) ∧ ((w.heap.size ≤ lo ∧ p < lo) ∧ lo ≤ r) ∧ (r < u1.heap.size) ∧ (OwI r u1 ag N cg (ZS)) ∧ (RdProg u1 x q1 l1 q2 l2 q3 l3)) := ⟨grown_trans (L7.out.1) hg, (World.grownBy.block hg _ (lt_of_block (L7.out.2.1)) (by simp)).trans (L7.out.2.1), OwI.kept (L7.out.2.2.1) hg, (World.grownBy.block hg _ (lt_of_block (L7.out.2.2.2.1)) (by simp)).trans (L7.out.2.2.2.1), RdProg.le (L7.out.2.2.2.2.1) (hir_grown hg), L7.out.2.2.2.2.2.1, L7.out.2.2.2.2.2.2.1, Nat.lt_of_lt_of_le (L7.out.2.2.2.2.2.2.2.1) hg.size, OwI.kept (L7.out.2.2.2.2.2.2.2.2) hg, hn.le CLe.unhidz⟩
  clear L7
  refine hK.out _ _ ⟨(three (L8.out.2.1)).1, (three (L8.out.2.2.2.1)).1⟩ (fun hH2 => ?_)
  clear hK K hH
  have hH := hH2
  clear hH2 hg
  simp only [Act.put, List.setIfInBounds_toArray, List.set_cons_zero, List.set_cons_succ, List.getElem_toArray, List.getElem_cons_succ, List.getElem_cons_zero]
  clear hn
  refine wpAnyH_ready (rs := [3]) (by kernel_rfl) (by simp) ?_
  refine AllReadyH.cons rfl (fun K hK => ?_) AllReadyH.nil
  go_simp
  refine Calls.mono (eqProgT x s1 q1 l1 z1 d1 s2 q2 l2 z2 d2 s3 q3 l3 z3 d3 u1 ((L8.out.2.2.2.2.1).le CLe.unhir) (L8.out.2.2.2.2.2.2.2.2.2) hs') ?_
  rintro e u2 ⟨he, hg⟩
  subst he
  have L9 : Hid ((w.grownBy u2 none) ∧ (u2.heap[p]? = some (Obj.cells #[.slice a1 l1 c1, .slice a2 l2 c2, .slice a3 l3 c3] 26)) ∧ (OwI w2.heap.size u2 aw N cw ZS) ∧ (u2.heap[r]? = some (Obj.cells #[.slice s1 l1 z1, .slice s2 l2 z2, .slice s3 l3 z3] 32)) ∧ (RdProg (hideR u2 lo r) x s1 l1 s2 l2 s3 l3) ∧ (∀ y, (Value.slice aw N cw).ownBlock = some y → y < lo) ∧ ((w.heap.size ≤ lo ∧ p < lo) ∧ lo ≤ r) ∧ (r < u2.heap.size) ∧ (OwI r u2 ag N cg (ZS))) := ⟨grown_trans (L8.out.1) hg, (World.grownBy.block hg _ (lt_of_block (L8.out.2.1)) (by simp)).trans (L8.out.2.1), OwI.kept (L8.out.2.2.1) hg, (World.grownBy.block hg _ (lt_of_block (L8.out.2.2.2.1)) (by simp)).trans (L8.out.2.2.2.1), RdProg.le (L8.out.2.2.2.2.1) (hir_grown hg), L8.out.2.2.2.2.2.1, L8.out.2.2.2.2.2.2.1, Nat.lt_of_lt_of_le (L8.out.2.2.2.2.2.2.2.1) hg.size, OwI.kept (L8.out.2.2.2.2.2.2.2.2.1) hg⟩
  clear L8
  refine hK.out _ _ ⟨(three (L9.out.2.1)).1, (three (L9.out.2.2.2.1)).1⟩ (fun hH2 => ?_)
  clear hK K hH
  have hH := hH2
  clear hH2 hg
  simp only [Act.put, List.setIfInBounds_toArray, List.set_cons_zero, List.set_cons_succ, List.getElem_toArray, List.getElem_cons_succ, List.getElem_cons_zero]
  refine wpAnyH_take (i := 4) (v := ?_) rfl (by kernel_rfl) (by kernel_rfl) (by kernel_rfl) (fun _ _ _ h => h) (Or.inl ⟨by rfl, ?_⟩) hH ?_
  rotate_left
  · (intro v hS; go_simp; try with_reducible rfl)
  simp only [Act.put, List.setIfInBounds_toArray, List.set_cons_zero, List.set_cons_succ, List.getElem_toArray, List.getElem_cons_succ, List.getElem_cons_zero]
  refine wpAnyH_done (by kernel_rfl) ?_ _
  obtain ⟨⟨x3_0, x3_1, x3_2⟩, -⟩ := three (L9.out.2.2.2.1)
  have hd1 : (1 : Int) + 4 * (szProg x : Nat) ≤ 4611686018427387904 := by omega
  go_wp2_with fail
  refine Calls.mono (mkProg lo r x s1 l1 z1 s2 l2 z2 s3 l3 z3 1 u2 (L9.out.2.2.2.2.1) (Nat.le_of_lt (L9.out.2.2.2.2.2.2.2.1)) (by omega) hd1) ?_
  rintro e u3 ⟨k9, he, hk9, hk8, ht⟩
  subst he
  have L10 : Hid ((w.grownBy u3 none) ∧ (u3.heap[p]? = some (Obj.cells #[.slice a1 l1 c1, .slice a2 l2 c2, .slice a3 l3 c3] 26)) ∧ (OwI w2.heap.size u3 aw N cw (ZS)) ∧ (OwI r u3 ag N cg (ZS)) ∧ (∀ y, (Value.slice aw N cw).ownBlock = some y → y < lo) ∧ ((w.heap.size ≤ lo ∧ p < lo) ∧ lo ≤ r)) := ⟨Mk.fresh (L9.out.1) ht (L9.out.2.2.2.2.2.2.1).1.1, (ht.block p (lt_of_block (L9.out.2.1)) (.inl (L9.out.2.2.2.2.2.2.1).1.2)).trans (L9.out.2.1), OwI.mk (L9.out.2.2.1) ht (fun y hy => .inl ((L9.out.2.2.2.2.2.1) y hy)), OwI.mk (L9.out.2.2.2.2.2.2.2.2) ht (fun y hy => .inr ((L9.out.2.2.2.2.2.2.2.2).lt y hy).1), L9.out.2.2.2.2.2.1, L9.out.2.2.2.2.2.2.1⟩
  clear L9 x3_0 x3_1 x3_2
  clear ht
  simp only []
  have hk1 : decide (k9 < 0) = false := by simp; omega
  have hk2 : ¬ k9 < 0 := by omega
  go_wp2_with fail
  refine Calls.mono (eqI2 ag aw N cg cw ZS u3 (L10.out.2.2.2.1).reads (L10.out.2.2.1).reads hN) ?_
  rintro e u4 ⟨rfl, hg⟩
  have L11 : Hid ((w.grownBy u4 none) ∧ (u4.heap[p]? = some (Obj.cells #[.slice a1 l1 c1, .slice a2 l2 c2, .slice a3 l3 c3] 26)) ∧ (OwI w2.heap.size u4 aw N cw (ZS)) ∧ (OwI r u4 ag N cg (ZS)) ∧ (∀ y, (Value.slice aw N cw).ownBlock = some y → y < lo) ∧ ((w.heap.size ≤ lo ∧ p < lo) ∧ lo ≤ r)) := ⟨grown_trans (L10.out.1) hg, (World.grownBy.block hg _ (lt_of_block (L10.out.2.1)) (by simp)).trans (L10.out.2.1), OwI.kept (L10.out.2.2.1) hg, OwI.kept (L10.out.2.2.2.1) hg, L10.out.2.2.2.2.1, L10.out.2.2.2.2.2⟩
  clear L10
  clear hg
  simp only []
  clear hk1 hk2
  go_wp2_with fail
  refine Calls.mono (markI2 r N cg ag ZS 1 u4 (L11.out.2.2.2.1) hN (by omega) (by omega)) ?_
  rintro e u5 ⟨rfl, hg, hm⟩
  have L12 : Hid ((w.grownBy u5 none) ∧ (u5.heap[p]? = some (Obj.cells #[.slice a1 l1 c1, .slice a2 l2 c2, .slice a3 l3 c3] 26)) ∧ (OwI w2.heap.size u5 aw N cw (ZS)) ∧ (OwI r u5 ag N cg (marksI 1 N))) := ⟨(L11.out.2.2.2.1).grown (A := 0) hg (L11.out.1) (Nat.le_trans (L11.out.2.2.2.2.2).1.1 (L11.out.2.2.2.2.2).2), (L11.out.2.2.2.1).box hg (L11.out.2.1) (by decide), (L11.out.2.2.1).far (B' := 0) hg (fun y hy e => by have h1 := (L11.out.2.2.2.2.1) y hy; have h2 := ((L11.out.2.2.2.1).lt y e).1; have h3 := (L11.out.2.2.2.2.2).2; omega), hm⟩
  clear L11
  clear hg hm
  simp only []
  have hq1 : ¬ ((1 : Int) + N < 0) := by omega
  go_wp2_with fail
  refine Calls.mono (heldI2 ag N cg 1 u5 (L12.out.2.2.2).reads hN (by omega) (by omega)) ?_
  rintro e u6 ⟨rfl, hg⟩
  have L13 : Hid ((w.grownBy u6 none) ∧ (u6.heap[p]? = some (Obj.cells #[.slice a1 l1 c1, .slice a2 l2 c2, .slice a3 l3 c3] 26)) ∧ (OwI w2.heap.size u6 aw N cw (ZS)) ∧ (OwI r u6 ag N cg (marksI 1 N))) := ⟨grown_trans (L12.out.1) hg, (World.grownBy.block hg _ (lt_of_block (L12.out.2.1)) (by simp)).trans (L12.out.2.1), OwI.kept (L12.out.2.2.1) hg, OwI.kept (L12.out.2.2.2) hg⟩
  clear L12
  clear hg
  simp only []
  obtain ⟨⟨x4_0, x4_1, x4_2⟩, -⟩ := three (L13.out.2.1)
  go_wp2_with fail
  refine Calls.mono (toProgT x a1 l1 c1 a2 l2 c2 a3 l3 c3 u6 (HD.out.none (L13.out.1)) hs') ?_
  rintro e u7 ⟨j1, k1, j2, k2, j3, k3, he, hg, hn⟩
  subst he
  have L14 : Hid ((w.grownBy u7 none) ∧ (u7.heap[p]? = some (Obj.cells #[.slice a1 l1 c1, .slice a2 l2 c2, .slice a3 l3 c3] 26)) ∧ (OwI w2.heap.size u7 aw N cw (ZS)) ∧ (OwI r u7 ag N cg (marksI 1 N)) ∧ (RdProg u7 x j1 l1 j2 l2 j3 l3)) := ⟨grown_trans (L13.out.1) hg, (World.grownBy.block hg _ (lt_of_block (L13.out.2.1)) (by simp)).trans (L13.out.2.1), OwI.kept (L13.out.2.2.1) hg, OwI.kept (L13.out.2.2.2) hg, hn.le CLe.unhidz⟩
  clear L13 x4_0 x4_1 x4_2
  clear hg
  simp only []
  clear hn
  go_wp2_with fail
  refine Calls.mono (implCapsT x j1 l1 k1 j2 l2 k2 j3 l3 k3 u7 (L14.out.2.2.2.2) (HF.out _ (L14.out.1)) hM) ?_
  rintro e u8 ⟨ah, ch, he, hg, hw⟩
  rw [hZS, hNN] at he hw
  subst he
  have L15 : Hid ((w.grownBy u8 none) ∧ (u8.heap[p]? = some (Obj.cells #[.slice a1 l1 c1, .slice a2 l2 c2, .slice a3 l3 c3] 26)) ∧ (OwI w2.heap.size u8 aw N cw (ZS)) ∧ (OwI r u8 ag N cg (marksI 1 N)) ∧ (OwI u7.heap.size u8 ah N ch (ZS))) := ⟨grown_trans (L14.out.1) hg, (World.grownBy.block hg _ (lt_of_block (L14.out.2.1)) (by simp)).trans (L14.out.2.1), OwI.kept (L14.out.2.2.1) hg, OwI.kept (L14.out.2.2.2.1) hg, hw⟩
  clear L14
  clear hg
  simp only []
  clear hw
  go_wp2_with fail
  refine Calls.mono (eqI2 ah aw N ch cw ZS u8 (L15.out.2.2.2.2).reads (L15.out.2.2.1).reads hN) ?_
  rintro e u9 ⟨rfl, hg⟩
  have L16 : Hid ((w.grownBy u9 none) ∧ (u9.heap[p]? = some (Obj.cells #[.slice a1 l1 c1, .slice a2 l2 c2, .slice a3 l3 c3] 26)) ∧ (OwI w2.heap.size u9 aw N cw (ZS)) ∧ (OwI r u9 ag N cg (marksI 1 N)) ∧ (OwI u7.heap.size u9 ah N ch (ZS))) := ⟨grown_trans (L15.out.1) hg, (World.grownBy.block hg _ (lt_of_block (L15.out.2.1)) (by simp)).trans (L15.out.2.1), OwI.kept (L15.out.2.2.1) hg, OwI.kept (L15.out.2.2.2.1) hg, OwI.kept (L15.out.2.2.2.2) hg⟩
  clear L15
  clear hg
  simp only []
  go_wp2_with fail
  refine Calls.mono (heldI2 ag N cg 1 u9 (L16.out.2.2.2.1).reads hN (by omega) (by omega)) ?_
  rintro e u10 ⟨rfl, hg⟩
  have L17 : Hid ((w.grownBy u10 none) ∧ (u10.heap[p]? = some (Obj.cells #[.slice a1 l1 c1, .slice a2 l2 c2, .slice a3 l3 c3] 26)) ∧ (OwI w2.heap.size u10 aw N cw (ZS)) ∧ (OwI r u10 ag N cg (marksI 1 N)) ∧ (OwI u7.heap.size u10 ah N ch (ZS))) := ⟨grown_trans (L16.out.1) hg, (World.grownBy.block hg _ (lt_of_block (L16.out.2.1)) (by simp)).trans (L16.out.2.1), OwI.kept (L16.out.2.2.1) hg, OwI.kept (L16.out.2.2.2.1) hg, OwI.kept (L16.out.2.2.2.2) hg⟩
  clear L16
  clear hg
  simp only []
  go_wp2
  go_ret
  exact ⟨rfl, L17.out.1⟩
end Go.Proofs.YtpdkgmagjhibkaaGreatDoor.By
