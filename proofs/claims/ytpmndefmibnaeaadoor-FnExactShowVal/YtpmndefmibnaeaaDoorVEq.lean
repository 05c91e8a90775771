/-
  Two trees of values that read the same, compared. No statement is proved here.
-/
import Derived.Test.YtpmndefmibnaeaaDoorVB
import Derived.Deep.RegionHeld
namespace Go.Proofs.YtpmndefmibnaeaaDoor.By
open Go.RowKit
set_option linter.unusedVariables false
set_option linter.unusedSimpArgs false

def EqS (m : Nat) : Prop := ∀ (xs : V) (a a' : Option Addr) (l c c' : Nat) (w : World), xs.size ≤ m → SlVal w a l xs → SlVal w a' l xs → xs.size ≤ 2097152 →
  Calls Tryd.prog 13 #[.slice a l c, .slice a' l c'] w fun e u => e = .returned (.bool true) ∧ w.grownBy u none
def EqT (m : Nat) : Prop := ∀ (x : RVal) (a1 f1 : Option Addr) (l1 c1 g1 : Nat) (a2 f2 : Option Addr) (l2 c2 g2 : Nat) (w : World), x.list.size ≤ m → RdVal w x a1 l1 a2 l2 → RdVal w x f1 l1 f2 l2 → szVal x ≤ 2097152 →
  Calls Tryd.prog 12 #[.agg #[.int .i64 x.k, .int .i64 x.n, .slice a1 l1 c1, .slice a2 l2 c2], .agg #[.int .i64 x.k, .int .i64 x.n, .slice f1 l1 g1, .slice f2 l2 g2]] w fun e u => e = .returned (.bool true) ∧ w.grownBy u none

set_option maxRecDepth 4000 in
set_option maxHeartbeats 4000000 in
theorem eqT_of (m : Nat) (hS : EqS m) : EqT m := by
  intro x a1 f1 l1 c1 g1 a2 f2 l2 c2 g2 w hm h h' hs
  have HS : Hid (EqS m) := hS
  clear hS
  have hb1 : l1 ≤ 4194304 := by have := h.1.1.1; unfold szVal at hs; omega
  have hb2 : x.list.size ≤ 2097152 := by unfold szVal at hs; omega
  have HN : Hid (∀ u, w.grownBy u none → RdVal u x a1 l1 a2 l2 ∧ RdVal u x f1 l1 f2 l2) := fun u hu => ⟨h.none hu, h'.none hu⟩
  clear h h'
  obtain ⟨b0, b1, bsz⟩ := alloc2_blocks w (.cells #[.int .i64 x.k, .int .i64 x.n, .slice a1 l1 c1, .slice a2 l2 c2] 31) (.cells #[.int .i64 x.k, .int .i64 x.n, .slice f1 l1 g1, .slice f2 l2 g2] 31)
  have g0 := grown_alloc (grown_alloc (World.grownBy.refl w none) (.cells #[.int .i64 x.k, .int .i64 x.n, .slice a1 l1 c1, .slice a2 l2 c2] 31)) (.cells #[.int .i64 x.k, .int .i64 x.n, .slice f1 l1 g1, .slice f2 l2 g2] 31)
  have L0 : Hid (w.grownBy _ none ∧ _ = some (Obj.cells #[.int .i64 x.k, .int .i64 x.n, .slice a1 l1 c1, .slice a2 l2 c2] 31) ∧ _ = some (Obj.cells #[.int .i64 x.k, .int .i64 x.n, .slice f1 l1 g1, .slice f2 l2 g2] 31)) := ⟨g0, b0, b1⟩
  have C0 : Hid _ := eqBy a1 f1 l1 c1 g1 (x.text) _ ((HN.out _ g0).1.1).1 ((HN.out _ g0).2.1).1 (hb1)
  obtain ⟨⟨y0, y1, y2, y3⟩, -⟩ := blkVal b0
  obtain ⟨⟨yy0, yy1, yy2, yy3⟩, -⟩ := blkVal b1
  clear g0 b0 b1 bsz
  go_enter Tryd.func12, Tryd.ntmps12
  go_wp2_with fail
  refine Calls.mono C0.out ?_
  rintro e u0 ⟨he, hg⟩
  subst he
  have L1 : Hid (w.grownBy u0 none ∧ u0.heap[w.heap.size]? = some (Obj.cells #[.int .i64 x.k, .int .i64 x.n, .slice a1 l1 c1, .slice a2 l2 c2] 31) ∧ u0.heap[w.heap.size + 1]? = some (Obj.cells #[.int .i64 x.k, .int .i64 x.n, .slice f1 l1 g1, .slice f2 l2 g2] 31)) := ⟨grown_trans L0.out.1 hg, (hg.block _ (lt_of_block L0.out.2.1) (by simp)).trans L0.out.2.1, (hg.block _ (lt_of_block L0.out.2.2) (by simp)).trans L0.out.2.2⟩
  clear C0 hg L0 y0 y1 y2 y3 yy0 yy1 yy2 yy3
  simp only []
  have C1 : Hid _ := HS.out (x.list) a2 f2 l2 c2 g2 u0 hm ((HN.out u0 L1.out.1).1.2) ((HN.out u0 L1.out.1).2.2) (hb2)
  obtain ⟨⟨y0, y1, y2, y3⟩, -⟩ := blkVal L1.out.2.1
  obtain ⟨⟨yy0, yy1, yy2, yy3⟩, -⟩ := blkVal L1.out.2.2
  go_wp2_with fail
  refine Calls.mono C1.out ?_
  rintro e u1 ⟨he, hg⟩
  subst he
  have L2 : Hid (w.grownBy u1 none ∧ u1.heap[w.heap.size]? = some (Obj.cells #[.int .i64 x.k, .int .i64 x.n, .slice a1 l1 c1, .slice a2 l2 c2] 31) ∧ u1.heap[w.heap.size + 1]? = some (Obj.cells #[.int .i64 x.k, .int .i64 x.n, .slice f1 l1 g1, .slice f2 l2 g2] 31)) := ⟨grown_trans L1.out.1 hg, (hg.block _ (lt_of_block L1.out.2.1) (by simp)).trans L1.out.2.1, (hg.block _ (lt_of_block L1.out.2.2) (by simp)).trans L1.out.2.2⟩
  clear C1 hg L1 y0 y1 y2 y3 yy0 yy1 yy2 yy3
  simp only []
  go_wp2
  go_ret
  exact ⟨rfl, L2.out.1⟩

set_option maxRecDepth 4000 in
set_option maxHeartbeats 4000000 in
theorem eqS_of (m : Nat) (hT : ∀ k, k < m → EqT k) : EqS m := by
  intro xs a a' l c c' w hm h h' hs
  have HT : Hid (∀ k, k < m → EqT k) := hT
  clear hT
  have hl := h.2.1
  have hfl := h.1
  rcases h.cases with ⟨rfl, rfl⟩ | ⟨b, o, rfl, hin, hpos⟩
  · go_enter Tryd.func13, Tryd.ntmps13
    go_wp2
    refine wp_loop_rounds 1 ?_
    rw [rounds_succ]
    go_wp2
    go_ret
    exact ⟨rfl, World.grownBy.refl _ _⟩
  rcases h'.cases with ⟨rfl, rfl⟩ | ⟨b', o', rfl, hin', -⟩
  · exact absurd hpos (by omega)
  have IN : Hid (InVal w w xs b o ∧ InVal w w xs b' o') := ⟨hin, hin'⟩
  clear hin hin' h h'
  go_enter Tryd.func13, Tryd.ntmps13
  go_wp2
  go_loopw [5] (fun i wr => ∃ (j : Nat) (R : V), j ≤ l ∧ i = .int .i64 j ∧ Hid (w.grownBy wr none ∧ InVal wr wr R b (o + j * 4) ∧ InVal wr wr R b' (o' + j * 4)) ∧ R.size ≤ m ∧ R.size ≤ 2097152 ∧ R.len + j = l) (fun i _ => l - (intOf i).toNat)
  case atStart => exact ⟨0, xs, Nat.zero_le _, rfl, ⟨World.grownBy.refl _ _, by simpa using IN.out.1, by simpa using IN.out.2⟩, hm, hs, by omega⟩
  case round =>
    obtain ⟨j, R, hj, rfl, HR, hRm, hRs, hRl⟩ := hrel
    by_cases hlt : j < l
    · obtain ⟨x, R', rfl⟩ : ∃ x R', R = V.cn x R' := by
        cases R with
        | nil => simp only [V.len] at hRl; omega
        | cons k n t d R' => exact ⟨⟨k, n, t, d⟩, R', rfl⟩
      obtain ⟨hg, hRa, hRb⟩ := HR.out
      obtain ⟨a1, l1, c1, a2, l2, c2, ⟨k0, k1, k2, k3⟩, hd, hR2⟩ := hRa.cn
      obtain ⟨f1, n1, g1, f2, n2, g2, ⟨m0, m1, m2, m3⟩, hd2, hR3⟩ := hRb.cn
      clear hRa hRb
      rw [show o + j * 4 + 4 = o + (j + 1) * 4 by omega] at hR2
      rw [show o' + j * 4 + 4 = o' + (j + 1) * 4 by omega] at hR3
      obtain rfl : l1 = n1 := by have := hd.1.1.1; have := hd2.1.1.1; omega
      obtain rfl : l2 = n2 := by have := hd.2.1; have := hd2.2.1; omega
      simp only [V.size_cn] at hRs hRm
      have gd := grown_drew (World.grownBy.refl wr none)
      have gc := CLe.grown gd
      have hRm2 : R'.size ≤ m := by omega
      have CC : Hid _ := HT.out x.list.size (by simp only [szVal] at hRm; omega) x a1 f1 l1 c1 g1 a2 f2 l2 c2 g2 wr.drew (Nat.le_refl _) (hd.none gd) (hd2.none gd) (by omega)
      skip
      have TT : Hid (∀ u, wr.grownBy u none → ((u.cell? ⟨b, o + j * 4, none⟩ = some (.int .i64 x.k) ∧ u.cell? ⟨b, o + j * 4 + 1, none⟩ = some (.int .i64 x.n) ∧ u.cell? ⟨b, o + j * 4 + 2, none⟩ = some (.slice a1 l1 c1) ∧ u.cell? ⟨b, o + j * 4 + 3, none⟩ = some (.slice a2 l2 c2)) ∧ u.cell? ⟨b', o' + j * 4, none⟩ = some (.int .i64 x.k) ∧ u.cell? ⟨b', o' + j * 4 + 1, none⟩ = some (.int .i64 x.n) ∧ u.cell? ⟨b', o' + j * 4 + 2, none⟩ = some (.slice f1 l1 g1) ∧ u.cell? ⟨b', o' + j * 4 + 3, none⟩ = some (.slice f2 l2 g2))) := fun u hu => ⟨⟨hu.cell k0 (by simp), hu.cell k1 (by simp), hu.cell k2 (by simp), hu.cell k3 (by simp)⟩, hu.cell m0 (by simp), hu.cell m1 (by simp), hu.cell m2 (by simp), hu.cell m3 (by simp)⟩
      have FX : Hid (w.grownBy wr.drew none ∧ InVal wr.drew wr.drew R' b (o + (j + 1) * 4) ∧ InVal wr.drew wr.drew R' b' (o' + (j + 1) * 4) ∧ wr.grownBy wr.drew none) := ⟨grown_trans hg gd, hR2.le gc gc, hR3.le gc gc, gd⟩
      clear hd hd2 hR2 hR3 hg IN HR gd gc k0 k1 k2 k3 m0 m1 m2 m3
      simp only [V.len_cn] at hRl
      go_wp2_with fail
      refine wp_region_held_drew (S := (fun u => ((u.cell? ⟨b, o + j * 4, none⟩ = some (.int .i64 x.k) ∧ u.cell? ⟨b, o + j * 4 + 1, none⟩ = some (.int .i64 x.n) ∧ u.cell? ⟨b, o + j * 4 + 2, none⟩ = some (.slice a1 l1 c1) ∧ u.cell? ⟨b, o + j * 4 + 3, none⟩ = some (.slice a2 l2 c2)) ∧ u.cell? ⟨b', o' + j * 4, none⟩ = some (.int .i64 x.k) ∧ u.cell? ⟨b', o' + j * 4 + 1, none⟩ = some (.int .i64 x.n) ∧ u.cell? ⟨b', o' + j * 4 + 2, none⟩ = some (.slice f1 l1 g1) ∧ u.cell? ⟨b', o' + j * 4 + 3, none⟩ = some (.slice f2 l2 g2)))) (by kernel_rfl) (TT.out _ FX.out.2.2.2) (fun hH => ?_)
      generalize wr.drew = u at *
      simp only [List.size_toArray, List.length_cons, List.length_nil, Nat.reduceAdd, Array.replicate, List.replicate]
      refine wpAnyH_take (i := 0) (v := ?_) rfl (by kernel_rfl) (by kernel_rfl) (by kernel_rfl) (fun _ _ _ h => h) (Or.inl ⟨by rfl, ?_⟩) hH ?_
      rotate_left
      · (intro v hS; obtain ⟨⟨s0, s1, s2, s3⟩, t0, t1, t2, t3⟩ := hS; go_simp; try with_reducible rfl)
      simp only [Act.put, List.setIfInBounds_toArray, List.set_cons_zero, List.set_cons_succ, List.getElem_toArray, List.getElem_cons_succ, List.getElem_cons_zero]
      refine wpAnyH_take (i := 1) (v := ?_) rfl (by kernel_rfl) (by kernel_rfl) (by kernel_rfl) (fun _ _ _ h => h) (Or.inl ⟨by rfl, ?_⟩) hH ?_
      rotate_left
      · (intro v hS; obtain ⟨⟨s0, s1, s2, s3⟩, t0, t1, t2, t3⟩ := hS; go_simp; try with_reducible rfl)
      simp only [Act.put, List.setIfInBounds_toArray, List.set_cons_zero, List.set_cons_succ, List.getElem_toArray, List.getElem_cons_succ, List.getElem_cons_zero]
      refine wpAnyH_take (i := 2) (v := ?_) rfl (by kernel_rfl) (by kernel_rfl) (by kernel_rfl) (fun _ _ _ h => h) (Or.inl ⟨by rfl, ?_⟩) hH ?_
      rotate_left
      · (intro v hS; obtain ⟨⟨s0, s1, s2, s3⟩, t0, t1, t2, t3⟩ := hS; go_simp; try with_reducible rfl)
      simp only [Act.put, List.setIfInBounds_toArray, List.set_cons_zero, List.set_cons_succ, List.getElem_toArray, List.getElem_cons_succ, List.getElem_cons_zero]
      refine wpAnyH_take (i := 3) (v := ?_) rfl (by kernel_rfl) (by kernel_rfl) (by kernel_rfl) (fun _ _ _ h => h) (Or.inl ⟨by rfl, ?_⟩) hH ?_
      rotate_left
      · (intro v hS; obtain ⟨⟨s0, s1, s2, s3⟩, t0, t1, t2, t3⟩ := hS; go_simp; try with_reducible rfl)
      simp only [Act.put, List.setIfInBounds_toArray, List.set_cons_zero, List.set_cons_succ, List.getElem_toArray, List.getElem_cons_succ, List.getElem_cons_zero]
      refine wpAnyH_take (i := 4) (v := ?_) rfl (by kernel_rfl) (by kernel_rfl) (by kernel_rfl) (fun _ _ _ h => h) (Or.inl ⟨by rfl, ?_⟩) hH ?_
      rotate_left
      · (intro v hS; obtain ⟨⟨s0, s1, s2, s3⟩, t0, t1, t2, t3⟩ := hS; go_simp; try with_reducible rfl)
      simp only [Act.put, List.setIfInBounds_toArray, List.set_cons_zero, List.set_cons_succ, List.getElem_toArray, List.getElem_cons_succ, List.getElem_cons_zero]
      refine wpAnyH_take (i := 5) (v := ?_) rfl (by kernel_rfl) (by kernel_rfl) (by kernel_rfl) (fun _ _ _ h => h) (Or.inl ⟨by rfl, ?_⟩) hH ?_
      rotate_left
      · (intro v hS; obtain ⟨⟨s0, s1, s2, s3⟩, t0, t1, t2, t3⟩ := hS; go_simp; try with_reducible rfl)
      simp only [Act.put, List.setIfInBounds_toArray, List.set_cons_zero, List.set_cons_succ, List.getElem_toArray, List.getElem_cons_succ, List.getElem_cons_zero]
      refine wpAnyH_take (i := 6) (v := ?_) rfl (by kernel_rfl) (by kernel_rfl) (by kernel_rfl) (fun _ _ _ h => h) (Or.inl ⟨by rfl, ?_⟩) hH ?_
      rotate_left
      · (intro v hS; obtain ⟨⟨s0, s1, s2, s3⟩, t0, t1, t2, t3⟩ := hS; go_simp; try with_reducible rfl)
      simp only [Act.put, List.setIfInBounds_toArray, List.set_cons_zero, List.set_cons_succ, List.getElem_toArray, List.getElem_cons_succ, List.getElem_cons_zero]
      refine wpAnyH_take (i := 7) (v := ?_) rfl (by kernel_rfl) (by kernel_rfl) (by kernel_rfl) (fun _ _ _ h => h) (Or.inl ⟨by rfl, ?_⟩) hH ?_
      rotate_left
      · (intro v hS; obtain ⟨⟨s0, s1, s2, s3⟩, t0, t1, t2, t3⟩ := hS; go_simp; try with_reducible rfl)
      simp only [Act.put, List.setIfInBounds_toArray, List.set_cons_zero, List.set_cons_succ, List.getElem_toArray, List.getElem_cons_succ, List.getElem_cons_zero]
      refine wpAnyH_ready (rs := [8]) (by kernel_rfl) (by simp) ?_
      refine AllReadyH.cons rfl (fun K hK => ?_) AllReadyH.nil
      go_simp
      refine Calls.mono CC.out ?_
      rintro e u2 ⟨he, hgu⟩
      subst he
      refine hK.out _ _ (TT.out _ (grown_trans FX.out.2.2.2 hgu)) (fun hH2 => ?_)
      clear hK K hH
      have hH := hH2
      clear hH2
      have FY : Hid (w.grownBy u2 none ∧ InVal u2 u2 R' b (o + (j + 1) * 4) ∧ InVal u2 u2 R' b' (o' + (j + 1) * 4)) := ⟨grown_trans FX.out.1 hgu, FX.out.2.1.le (CLe.grown hgu) (CLe.grown hgu), FX.out.2.2.1.le (CLe.grown hgu) (CLe.grown hgu)⟩
      clear FX hgu CC TT
      simp only [Act.put, List.setIfInBounds_toArray, List.set_cons_zero, List.set_cons_succ, List.getElem_toArray, List.getElem_cons_succ, List.getElem_cons_zero]
      refine wpAnyH_take (i := 9) (v := ?_) rfl (by kernel_rfl) (by kernel_rfl) (by kernel_rfl) (fun _ _ _ h => h) (Or.inl ⟨by rfl, ?_⟩) hH ?_
      rotate_left
      · (intro v hS; go_simp; try with_reducible rfl)
      simp only [Act.put, List.setIfInBounds_toArray, List.set_cons_zero, List.set_cons_succ, List.getElem_toArray, List.getElem_cons_succ, List.getElem_cons_zero]
      refine wpAnyH_done (by kernel_rfl) ?_ _
      go_wp2
      go_roundw
      case rel => exact ⟨j + 1, R', by omega, by go_num, FY, hRm2, by omega, by omega⟩
      case measure => simp [intOf]; omega
    · obtain rfl : j = l := by omega
      have E : Hid (w.grownBy wr none) := HR.out.1
      clear HR IN
      go_wp2
      go_ret
      exact ⟨rfl, E.out⟩

theorem eqS_all : ∀ m, EqS m := fun m => Nat.strongRecOn m fun m ih => eqS_of m fun k hk => eqT_of k (ih k hk)
theorem eqT_all (m : Nat) : EqT m := eqT_of m (eqS_all m)
end Go.Proofs.YtpmndefmibnaeaaDoor.By
