/-
  Several texts in one (WD, LawProgramOk). No statement is proved here.
-/
import Derived.Test.YtpdkgmagjhibkaaGreatDoorWC
import Derived.Test.YtpdkgmagjhibkaaGreatDoorSOpLayoutsAlso
namespace Go.Proofs.YtpdkgmagjhibkaaGreatDoor.By
open Go.RowKit
set_option linter.unusedVariables false
set_option linter.unusedSimpArgs false

set_option maxRecDepth 8000 in
set_option maxHeartbeats 2000000 in
theorem specProgT (x : RProg) (a1 : Option Addr) (l1 c1 : Nat) (a2 : Option Addr) (l2 c2 : Nat) (a3 : Option Addr) (l3 c3 : Nat) (w : World) (h : RdProg w x a1 l1 a2 l2 a3 l3) :
    Calls Tryz.prog 7 #[.agg #[.slice a1 l1 c1, .slice a2 l2 c2, .slice a3 l3 c3]] w fun e u => e = .returned (.bool (okP x)) ∧ w.grownBy u none := by
  have g0 := World.grownBy_alloc w (.cells #[.slice a1 l1 c1, .slice a2 l2 c2, .slice a3 l3 c3] 32) none
  have b0 := heap_alloc_new w (.cells #[.slice a1 l1 c1, .slice a2 l2 c2, .slice a3 l3 c3] 32)
  have C0 : Hid _ := l8programOkT x a1 l1 c1 a2 l2 c2 a3 l3 c3 (w.alloc (.cells #[.slice a1 l1 c1, .slice a2 l2 c2, .slice a3 l3 c3] 32)) (h.none g0)
  have L0 : Hid (w.grownBy _ none ∧ _ = some (Obj.cells #[.slice a1 l1 c1, .slice a2 l2 c2, .slice a3 l3 c3] 32)) := ⟨g0, b0⟩
  have HS : Hid (∀ u, w.grownBy u none → RdProg u x a1 l1 a2 l2 a3 l3) := fun u hu => h.none hu
  obtain ⟨⟨y0, y1, y2⟩, -⟩ := blkProg b0
  clear h g0 b0
  go_enter Tryz.func7, Tryz.ntmps7
  go_wp2_with fail
  refine Calls.mono C0.out ?_
  rintro e u0 ⟨he, hg⟩
  subst he
  have L1 : Hid (w.grownBy u0 none ∧ u0.heap[w.heap.size]? = some (Obj.cells #[.slice a1 l1 c1, .slice a2 l2 c2, .slice a3 l3 c3] 32)) := ⟨grown_trans L0.out.1 hg, (hg.block _ (lt_of_block L0.out.2) (by simp)).trans L0.out.2⟩
  clear C0 L0 hg y0 y1 y2
  generalize w.heap.size = p0 at *
  obtain ⟨⟨y0, y1, y2⟩, -⟩ := blkProg L1.out.2
  simp only []
  cases hst : standsV x with
  | false =>
    have E : Hid (okP x = false) := by show _ = _; unfold okP; rw [hst]; rfl
    go_wp2
    go_ret
    exact ⟨by rw [E.out]; rfl, L1.out.1⟩
  | true =>
    have C1 : Hid _ := l8bytesT x a1 l1 c1 a2 l2 c2 a3 l3 c3 u0 (HS.out _ L1.out.1) hst
    have hpl := (progB_len hst).1
    have E : Hid (okP x = decide (([76, 75] ++ progB x).length ≤ 30000)) := by show _ = _; unfold okP; rw [hst]; rfl
    have E3 : Hid (([76, 75] ++ progB x).length = (progB x).length + 2) := by show _ = _; simp
    clear hst
    go_wp2_with fail
    refine Calls.mono C1.out ?_
    rintro e u1 ⟨v, rfl, hA, hg⟩
    obtain ⟨a', c', rfl, -⟩ := hA.owB
    have G : Hid (w.grownBy u1 none) := grown_trans L1.out.1 hg
    rw [E3.out]
    clear C1 hA hg y0 y1 y2
    generalize hn : (progB x).length + 2 = n at *
    have E2 : Hid (okP x = decide (n ≤ 30000)) := by show _ = _; rw [E.out, E3.out]
    simp only []
    by_cases hle : n ≤ 30000
    · have hle' : (n : Int) ≤ 30000 := by omega
      go_wp2
      go_ret
      exact ⟨by rw [E2.out, decide_eq_true hle]; rfl, G.out⟩
    · have hle' : ¬ (n : Int) ≤ 30000 := by omega
      go_wp2
      go_ret
      exact ⟨by rw [E2.out, decide_eq_false hle]; rfl, G.out⟩

set_option maxRecDepth 8000 in
set_option maxHeartbeats 2000000 in
theorem specCodeT (x : RProg) (a1 : Option Addr) (l1 c1 : Nat) (a2 : Option Addr) (l2 c2 : Nat) (a3 : Option Addr) (l3 c3 : Nat) (w : World) (h : RdProg w x a1 l1 a2 l2 a3 l3) :
    Calls Tryz.prog 11 #[.agg #[.slice a1 l1 c1, .slice a2 l2 c2, .slice a3 l3 c3]] w fun e u => ∃ a' c', e = .returned (.tuple #[.slice a' (codeV x).length c', .bool (okP x)]) ∧ w.grownBy u none ∧ OwB w.heap.size u a' (codeV x).length c' (codeV x) := by
  have g0 := World.grownBy_alloc w (.cells #[.slice a1 l1 c1, .slice a2 l2 c2, .slice a3 l3 c3] 32) none
  have b0 := heap_alloc_new w (.cells #[.slice a1 l1 c1, .slice a2 l2 c2, .slice a3 l3 c3] 32)
  have C0 : Hid _ := specProgT x a1 l1 c1 a2 l2 c2 a3 l3 c3 (w.alloc (.cells #[.slice a1 l1 c1, .slice a2 l2 c2, .slice a3 l3 c3] 32)) (h.none g0)
  have L0 : Hid (w.grownBy _ none ∧ _ = some (Obj.cells #[.slice a1 l1 c1, .slice a2 l2 c2, .slice a3 l3 c3] 32)) := ⟨g0, b0⟩
  have HS : Hid (∀ u, w.grownBy u none → RdProg u x a1 l1 a2 l2 a3 l3) := fun u hu => h.none hu
  obtain ⟨⟨y0, y1, y2⟩, -⟩ := blkProg b0
  clear h g0 b0
  go_enter Tryz.func11, Tryz.ntmps11
  go_wp2_with fail
  refine Calls.mono C0.out ?_
  rintro e u0 ⟨he, hg⟩
  subst he
  have L1 : Hid (w.grownBy u0 none ∧ u0.heap[w.heap.size]? = some (Obj.cells #[.slice a1 l1 c1, .slice a2 l2 c2, .slice a3 l3 c3] 32)) := ⟨grown_trans L0.out.1 hg, (hg.block _ (lt_of_block L0.out.2) (by simp)).trans L0.out.2⟩
  clear C0 L0 hg y0 y1 y2
  generalize hp0 : w.heap.size = p0 at *
  have HP0 : Hid (w.heap.size = p0) := hp0
  clear hp0
  obtain ⟨⟨y0, y1, y2⟩, -⟩ := blkProg L1.out.2
  simp only []
  cases hst : okP x with
  | false =>
    have E : Hid (codeV x = []) := by show _ = _; unfold codeV; rw [hst]; rfl
    go_wp2
    go_ret2
    refine ⟨none, 0, ?_, L1.out.1, ?_⟩
    · rw [E.out, hst]; rfl
    · rw [E.out]; exact OwB.nil _ _
  | true =>
    have hsv : standsV x = true := by
      have := hst
      unfold okP at this
      rw [Bool.and_eq_true] at this
      exact this.1
    have C1 : Hid _ := l8bytesT x a1 l1 c1 a2 l2 c2 a3 l3 c3 u0 (HS.out _ L1.out.1) hsv
    have E : Hid (codeV x = [76, 75] ++ progB x) := by show _ = _; unfold codeV; rw [hst]; rfl
    clear hsv
    go_wp2_with fail
    refine Calls.mono C1.out ?_
    rintro e u1 ⟨v, rfl, hA, hg⟩
    obtain ⟨a', c', rfl, ho⟩ := hA.owB
    have G : Hid (w.grownBy u1 none ∧ OwB p0 u1 a' ([76, 75] ++ progB x).length c' ([76, 75] ++ progB x)) := ⟨grown_trans L1.out.1 hg, OwB.mono ho (by rw [← HP0.out]; exact L1.out.1.size)⟩
    clear C1 hA hg y0 y1 y2 ho
    simp only []
    go_wp2
    go_ret2
    refine ⟨a', c', ?_, G.out.1, ?_⟩
    · rw [E.out, hst]; rfl
    · rw [E.out, HP0.out]; exact G.out.2

end Go.Proofs.YtpdkgmagjhibkaaGreatDoor.By

namespace Go.Proofs.YtpdkgmagjhibkaaGreatDoor.By
open Go.RowKit
set_option linter.unusedVariables false
set_option linter.unusedSimpArgs false

set_option maxRecDepth 8000 in
set_option maxHeartbeats 4000000 in
theorem lawProgramOk (x : RProg) (a1 : Option Addr) (l1 c1 : Nat) (a2 : Option Addr) (l2 c2 : Nat) (a3 : Option Addr) (l3 c3 : Nat) (w : World) (h : RdProg w x a1 l1 a2 l2 a3 l3) (hF : OpsIn w) :
    Calls Tryz.prog 3 #[.agg #[.slice a1 l1 c1, .slice a2 l2 c2, .slice a3 l3 c3]] w fun e u => e = .returned (.bool true) ∧ w.grownBy u none := by
  have g0 := World.grownBy_alloc w (.cells #[.slice a1 l1 c1, .slice a2 l2 c2, .slice a3 l3 c3] 26) none
  have b0 := heap_alloc_new w (.cells #[.slice a1 l1 c1, .slice a2 l2 c2, .slice a3 l3 c3] 26)
  have HF : Hid (∀ u, w.grownBy u none → OpsIn u) := fun u hu => hF.none hu
  clear hF
  have HS : Hid (∀ u, w.grownBy u none → RdProg u x a1 l1 a2 l2 a3 l3) := fun u hu => h.none hu
  have C0 : Hid _ := szProgT x a1 l1 c1 a2 l2 c2 a3 l3 c3 1048576 _ (h.none g0) (by omega) (by omega)
  have L0 : Hid (w.grownBy _ none ∧ _ = some (Obj.cells #[.slice a1 l1 c1, .slice a2 l2 c2, .slice a3 l3 c3] 26)) := ⟨g0, b0⟩
  obtain ⟨⟨y0, y1, y2⟩, -⟩ := blkProg b0
  clear h g0 b0
  go_enter Tryz.func3, Tryz.ntmps3
  go_wp2_with fail
  refine Calls.mono C0.out ?_
  rintro e w1 ⟨⟨r, he, hr⟩, hg⟩
  subst he
  have L1 : Hid (w.grownBy w1 none ∧ w1.heap[w.heap.size]? = some (Obj.cells #[.slice a1 l1 c1, .slice a2 l2 c2, .slice a3 l3 c3] 26)) := ⟨grown_trans L0.out.1 hg, (hg.block _ (lt_of_block L0.out.2) (by simp)).trans L0.out.2⟩
  clear C0 L0 hg y0 y1 y2
  simp only []
  rcases hr with rfl | ⟨hr0, hr1⟩
  · go_wp2
    go_ret
    exact ⟨rfl, L1.out.1⟩
  have hs' : szProg x ≤ 1048576 := by omega
  have hneg : ¬ r < 0 := by omega
  have C1 : Hid _ := toProgT x a1 l1 c1 a2 l2 c2 a3 l3 c3 w1 (HS.out _ L1.out.1) hs'
  obtain ⟨⟨y0, y1, y2⟩, -⟩ := blkProg L1.out.2
  go_wp2_with fail
  refine Calls.mono C1.out ?_
  rintro e w2 ⟨t1, v1, t2, v2, t3, v3, he, hg, hn⟩
  subst he
  have L2 : Hid (w.grownBy w2 none ∧ w2.heap[w.heap.size]? = some (Obj.cells #[.slice a1 l1 c1, .slice a2 l2 c2, .slice a3 l3 c3] 26)) := ⟨grown_trans L1.out.1 hg, (hg.block _ (lt_of_block L1.out.2) (by simp)).trans L1.out.2⟩
  have C2 : Hid _ := specProgT x t1 l1 v1 t2 l2 v2 t3 l3 v3 w2 (hn.le CLe.unhide)
  clear C1 L1 hg hn y0 y1 y2
  simp only []
  go_wp2_with fail
  refine Calls.mono C2.out ?_
  rintro e w3 ⟨he, hg⟩
  subst he
  have L3 : Hid (w.grownBy w3 none ∧ w3.heap[w.heap.size]? = some (Obj.cells #[.slice a1 l1 c1, .slice a2 l2 c2, .slice a3 l3 c3] 26)) := ⟨grown_trans L2.out.1 hg, (hg.block _ (lt_of_block L2.out.2) (by simp)).trans L2.out.2⟩
  clear C2 L2 hg
  have C3 : Hid _ := toProgT x a1 l1 c1 a2 l2 c2 a3 l3 c3 w3 (HS.out _ L3.out.1) hs'
  obtain ⟨⟨y0, y1, y2⟩, -⟩ := blkProg L3.out.2
  simp only []
  go_wp2_with fail
  refine Calls.mono C3.out ?_
  rintro e w4 ⟨s1, z1, s2, z2, s3, z3, he, hg, hn⟩
  subst he
  have L4 : Hid (w.grownBy w4 none ∧ w4.heap[w.heap.size]? = some (Obj.cells #[.slice a1 l1 c1, .slice a2 l2 c2, .slice a3 l3 c3] 26) ∧ RdProg w4 x s1 l1 s2 l2 s3 l3) := ⟨grown_trans L3.out.1 hg, (hg.block _ (lt_of_block L3.out.2) (by simp)).trans L3.out.2, hn.le CLe.unhide⟩
  clear C3 L3 hg hn y0 y1 y2
  have ga := World.grownBy_alloc w4 (.cells #[.slice s1 l1 z1, .slice s2 l2 z2, .slice s3 l3 z3] 32) none
  have ba := heap_alloc_new w4 (.cells #[.slice s1 l1 z1, .slice s2 l2 z2, .slice s3 l3 z3] 32)
  have C4 : Hid _ := implProgT x s1 l1 z1 s2 l2 z2 s3 l3 z3 _ (L4.out.2.2.none ga) (HF.out _ (grown_trans L4.out.1 ga)) (by have h9 := szLayouts_len x.lays; have h8 : x.lays.length = l1 := L4.out.2.2.1.1; unfold szProg at hs'; omega)
  have L5 : Hid (w.grownBy _ none ∧ _ = some (Obj.cells #[.slice a1 l1 c1, .slice a2 l2 c2, .slice a3 l3 c3] 26) ∧ RdProg _ x s1 l1 s2 l2 s3 l3 ∧ _ = some (Obj.cells #[.slice s1 l1 z1, .slice s2 l2 z2, .slice s3 l3 z3] 32)) := ⟨grown_trans L4.out.1 ga, (ga.block _ (lt_of_block L4.out.2.1) (by simp)).trans L4.out.2.1, L4.out.2.2.none ga, ba⟩
  clear L4 ga ba
  simp only []
  go_wp2_with fail
  refine Calls.mono C4.out ?_
  rintro e w5 ⟨he, hg⟩
  subst he
  generalize w4.heap.size = p4 at *
  have L6 : Hid (w.grownBy w5 none ∧ w5.heap[w.heap.size]? = some (Obj.cells #[.slice a1 l1 c1, .slice a2 l2 c2, .slice a3 l3 c3] 26) ∧ RdProg w5 x s1 l1 s2 l2 s3 l3 ∧ w5.heap[p4]? = some (Obj.cells #[.slice s1 l1 z1, .slice s2 l2 z2, .slice s3 l3 z3] 32)) := ⟨grown_trans L5.out.1 hg, (hg.block _ (lt_of_block L5.out.2.1) (by simp)).trans L5.out.2.1, L5.out.2.2.1.none hg, (hg.block _ (lt_of_block L5.out.2.2.2) (by simp)).trans L5.out.2.2.2⟩
  clear L5 C4 hg
  generalize w.heap.size = p0 at *
  have gd := grown_drew (World.grownBy.refl w5 none)
  have C6 : Hid _ := toProgT x a1 l1 c1 a2 l2 c2 a3 l3 c3 w5.drew (HS.out _ (grown_trans L6.out.1 gd)) hs'
  have TT : Hid (∀ u, w5.drew.grownBy u none → ((u.cell? ⟨p4, 0, none⟩ = some (.slice s1 l1 z1) ∧ u.cell? ⟨p4, 1, none⟩ = some (.slice s2 l2 z2) ∧ u.cell? ⟨p4, 2, none⟩ = some (.slice s3 l3 z3)) ∧ (u.cell? ⟨p0, 0, none⟩ = some (.slice a1 l1 c1) ∧ u.cell? ⟨p0, 1, none⟩ = some (.slice a2 l2 c2) ∧ u.cell? ⟨p0, 2, none⟩ = some (.slice a3 l3 c3)))) := fun u hu => by
    have hgu := grown_trans gd hu
    exact ⟨(blkProg ((hgu.block _ (lt_of_block L6.out.2.2.2) (by simp)).trans L6.out.2.2.2)).1, (blkProg ((hgu.block _ (lt_of_block L6.out.2.1) (by simp)).trans L6.out.2.1)).1⟩
  have L7 : Hid (w.grownBy w5.drew none ∧ RdProg w5.drew x s1 l1 s2 l2 s3 l3) := ⟨grown_trans L6.out.1 gd, L6.out.2.2.1.none gd⟩
  clear gd L6
  generalize okP x = bv at *
  simp only []
  go_wp2_with fail
  refine wp_region_held_drew (S := (fun u => ((u.cell? ⟨p4, 0, none⟩ = some (.slice s1 l1 z1) ∧ u.cell? ⟨p4, 1, none⟩ = some (.slice s2 l2 z2) ∧ u.cell? ⟨p4, 2, none⟩ = some (.slice s3 l3 z3)) ∧ (u.cell? ⟨p0, 0, none⟩ = some (.slice a1 l1 c1) ∧ u.cell? ⟨p0, 1, none⟩ = some (.slice a2 l2 c2) ∧ u.cell? ⟨p0, 2, none⟩ = some (.slice a3 l3 c3))))) (by kernel_rfl) (TT.out _ (World.grownBy.refl _ _)) (fun hH => ?_)
  generalize w5.drew = u at *
  simp only [List.size_toArray, List.length_cons, List.length_nil, Nat.reduceAdd, Array.replicate, List.replicate]
  refine wpAnyH_take (i := 0) (v := ?_) rfl (by kernel_rfl) (by kernel_rfl) (by kernel_rfl) (fun _ _ _ h => h) (Or.inl ⟨by rfl, ?_⟩) hH ?_
  rotate_left
  · (intro v hS; obtain ⟨⟨x0, x1, x2⟩, y0, y1, y2⟩ := hS; go_simp; try with_reducible rfl)
  simp only [Act.put, List.setIfInBounds_toArray, List.set_cons_zero, List.set_cons_succ, List.getElem_toArray, List.getElem_cons_succ, List.getElem_cons_zero]
  refine wpAnyH_take (i := 1) (v := ?_) rfl (by kernel_rfl) (by kernel_rfl) (by kernel_rfl) (fun _ _ _ h => h) (Or.inl ⟨by rfl, ?_⟩) hH ?_
  rotate_left
  · (intro v hS; obtain ⟨⟨x0, x1, x2⟩, y0, y1, y2⟩ := hS; go_simp; try with_reducible rfl)
  simp only [Act.put, List.setIfInBounds_toArray, List.set_cons_zero, List.set_cons_succ, List.getElem_toArray, List.getElem_cons_succ, List.getElem_cons_zero]
  refine wpAnyH_ready (rs := [2]) (by kernel_rfl) (by simp) ?_
  refine AllReadyH.cons rfl (fun K hK => ?_) AllReadyH.nil
  go_simp
  refine Calls.mono C6.out ?_
  rintro e w6 ⟨q1, r1, q2, r2, q3, r3, he, hg, hn⟩
  subst he
  refine hK.out _ _ (TT.out _ hg) (fun hH2 => ?_)
  clear hK K hH
  have hH := hH2
  clear hH2
  have C7 : Hid _ := eqProgT x s1 q1 l1 z1 r1 s2 q2 l2 z2 r2 s3 q3 l3 z3 r3 w6 (L7.out.2.none hg) (hn.le CLe.unhide) hs'
  have L8 : Hid (w.grownBy w6 none ∧ u.grownBy w6 none) := ⟨grown_trans L7.out.1 hg, hg⟩
  clear L7 C6 hn hg
  simp only [Act.put, List.setIfInBounds_toArray, List.set_cons_zero, List.set_cons_succ, List.getElem_toArray, List.getElem_cons_succ, List.getElem_cons_zero]
  refine wpAnyH_ready (rs := [3]) (by kernel_rfl) (by simp) ?_
  refine AllReadyH.cons rfl (fun K hK => ?_) AllReadyH.nil
  go_simp
  refine Calls.mono C7.out ?_
  rintro e w7 ⟨he, hg⟩
  subst he
  refine hK.out _ _ (TT.out _ (grown_trans L8.out.2 hg)) (fun hH2 => ?_)
  clear hK K hH
  have hH := hH2
  clear hH2
  have L9 : Hid (w.grownBy w7 none) := grown_trans L8.out.1 hg
  clear L8 C7 hg TT
  simp only [Act.put, List.setIfInBounds_toArray, List.set_cons_zero, List.set_cons_succ, List.getElem_toArray, List.getElem_cons_succ, List.getElem_cons_zero]
  refine wpAnyH_take (i := 4) (v := ?_) rfl (by kernel_rfl) (by kernel_rfl) (by kernel_rfl) (fun _ _ _ h => h) (Or.inl ⟨by rfl, ?_⟩) hH ?_
  rotate_left
  · (intro v hS; go_simp; try with_reducible rfl)
  simp only [Act.put, List.setIfInBounds_toArray, List.set_cons_zero, List.set_cons_succ, List.getElem_toArray, List.getElem_cons_succ, List.getElem_cons_zero]
  refine wpAnyH_done (by kernel_rfl) ?_ _
  go_wp2
  go_ret
  exact ⟨rfl, L9.out⟩
end Go.Proofs.YtpdkgmagjhibkaaGreatDoor.By
