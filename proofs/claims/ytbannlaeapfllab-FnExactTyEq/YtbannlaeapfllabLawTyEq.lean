/-
  The program's question whether two trees are the same types, by its contract, and the walk of laws.FnExactTyEq. No statement is proved here.
-/
import Derived.Test.YtbannlaeapfllabLawTyOk
import Derived.Test.YtbannlaeapfllabTSame
import Derived.Deep.DeepCutAuto
import Derived.Deep.DeepCutAuto
namespace Go.Proofs.Ytbannlaeapfllab.By
open Go.RowKit
set_option linter.unusedVariables false
set_option linter.unusedSimpArgs false

set_option maxHeartbeats 400000 in
theorem implTyEqT (d d' : F) (k n k' n' : Int) (a a' : Option Addr) (l c l' c' : Nat) (w : World) (h : SlF w a l d) (h' : SlF w a' l' d') :
    Calls Try.prog 11 #[.agg #[.int .i64 k, .int .i64 n, .slice a l c], .agg #[.int .i64 k', .int .i64 n', .slice a' l' c']] w fun e u => e = .returned (.bool (okT k n d && (okT k' n' d' && eqV k n d k' n' d'))) ∧ w.grownBy u none := by
  have g0 := grown_alloc (grown_alloc (World.grownBy.refl w none) (.cells #[.int .i64 k, .int .i64 n, .slice a l c] 29)) (.cells #[.int .i64 k', .int .i64 n', .slice a' l' c'] 29)
  obtain ⟨b1, b2, bs⟩ := (alloc2_blocks w (.cells #[.int .i64 k, .int .i64 n, .slice a l c] 29) (.cells #[.int .i64 k', .int .i64 n', .slice a' l' c'] 29))
  have FX : Hid (w.grownBy _ none ∧ SlF _ a l d ∧ SlF _ a' l' d' ∧ _ = some _ ∧ _ = some _ ∧ _ = w.heap.size + 1 + 1) := ⟨g0, h.none g0, h'.none g0, b1, b2, bs⟩
  have C1 : Hid _ := implTyOkT d k n a l c _ FX.out.2.1
  clear h h' g0 b1 b2 bs
  go_enter Try.func11, Try.ntmps11
  go_wp2_with fail
  refine Calls.mono C1.out ?_
  rintro e u ⟨rfl, hg⟩
  obtain ⟨g0, h, h', b1, b2, bs⟩ := FX.out
  have FY : Hid (w.grownBy u none ∧ SlF u a l d ∧ SlF u a' l' d' ∧ _ = some _ ∧ _ = some _) := ⟨grown_trans g0 hg, h.none hg, h'.none hg, (hg.block _ (by rw [bs]; omega) (by simp)).trans b1, (hg.block _ (by rw [bs]; omega) (by simp)).trans b2⟩
  clear FX hg C1 g0 h h' b1 b2 bs
  generalize ep : w.heap.size = p at *
  simp only []
  cases hb : okT k n d with
  | false =>
    go_wp2
    go_ret
    exact ⟨by simp [hb], FY.out.1⟩
  | true =>
    have y := (three FY.out.2.2.2.2).1
    obtain ⟨y0, y1, y2⟩ := y
    have C2 : Hid _ := implTyOkT d' k' n' a' l' c' u FY.out.2.2.1
    go_wp2_with fail
    refine Calls.mono C2.out ?_
    rintro e u2 ⟨rfl, hg⟩
    obtain ⟨g0, h, h', b1, b2⟩ := FY.out
    have FX : Hid (w.grownBy u2 none ∧ SlF u2 a l d ∧ SlF u2 a' l' d' ∧ _ = some _ ∧ _ = some _) := ⟨grown_trans g0 hg, h.none hg, h'.none hg, (hg.block _ (lt_of_block b1) (by simp)).trans b1, (hg.block _ (lt_of_block b2) (by simp)).trans b2⟩
    clear FY hg C2 g0 h h' b1 b2 y0 y1 y2
    simp only []
    cases hb2 : okT k' n' d' with
    | false =>
      go_wp2
      go_ret
      exact ⟨by simp [hb2], FX.out.1⟩
    | true =>
      obtain ⟨y0, y1, y2⟩ := (three FX.out.2.2.2.2).1
      obtain ⟨x0, x1, x2⟩ := (three FX.out.2.2.2.1).1
      have C3 : Hid _ := sames (d.size + 1) d d' k n k' n' a a' l c l' c' u2 (Nat.lt_succ_self _) FX.out.2.1 FX.out.2.2.1
      go_wp2_with fail
      refine Calls.mono C3.out ?_
      rintro e u3 ⟨rfl, hg⟩
      have G : Hid (w.grownBy u3 none) := grown_trans FX.out.1 hg
      clear FX hg C3 x0 x1 x2 y0 y1 y2
      simp only []
      go_wp2
      go_ret
      exact ⟨by simp [hb, hb2], G.out⟩

set_option maxHeartbeats 4000000 in
theorem lawTyEq (d1 : F) (k1 n1 : Int) (a1 : Option Addr) (l1 c1 : Nat) (d2 : F) (k2 n2 : Int) (a2 : Option Addr) (l2 c2 : Nat) (w : World) (h1 : SlF w a1 l1 d1) (h2 : SlF w a2 l2 d2) :
    Calls Try.prog 3 #[.agg #[.int .i64 k1, .int .i64 n1, .slice a1 l1 c1], .agg #[.int .i64 k2, .int .i64 n2, .slice a2 l2 c2]] w fun e u => e = .returned (.bool true) ∧ w.grownBy u none := by
  obtain ⟨b1, b2, bsz⟩ := alloc2_blocks w (.cells #[.int .i64 k1, .int .i64 n1, .slice a1 l1 c1] 24) (.cells #[.int .i64 k2, .int .i64 n2, .slice a2 l2 c2] 24)
  have g0 := grown_alloc (grown_alloc (World.grownBy.refl w none) (.cells #[.int .i64 k1, .int .i64 n1, .slice a1 l1 c1] 24)) (.cells #[.int .i64 k2, .int .i64 n2, .slice a2 l2 c2] 24)
  have C1 : Hid _ := szTr d1 k1 n1 a1 l1 c1 1048576 _ (h1.none g0) (by omega) (by omega)
  by_cases hs1 : (d1.size : Int) ≤ 1048576
  rotate_left
  · have e1 : szV d1 1048576 = -1 := if_neg hs1
    rw [e1] at C1
    have G0 : Hid (w.grownBy _ none) := g0
    clear g0 b1 b2 bsz e1 h1 h2 hs1
    go_enter Try.func3, Try.ntmps3
    go_wp2_with fail
    refine Calls.mono C1.out ?_
    rintro e w1 ⟨rfl, hg⟩
    have G1 : Hid (w.grownBy w1 none) := grown_trans G0.out hg
    clear hg G0 C1
    simp only []
    go_wp2
    go_ret
    exact ⟨rfl, G1.out⟩
  have e1 : szV d1 1048576 = 1048576 - d1.size := if_pos hs1
  rw [e1] at C1
  have hpos1 : ¬ ((1048576 : Int) - d1.size < 0) := by omega
  have hd1 : d1.size ≤ 1048576 := by omega
  have HD : Hid (SlF w a1 l1 d1 ∧ SlF w a2 l2 d2) := ⟨h1, h2⟩
  have L0 : Hid (w.grownBy _ none ∧ _ = some (Obj.cells #[.int .i64 k1, .int .i64 n1, .slice a1 l1 c1] 24) ∧ _ = some (Obj.cells #[.int .i64 k2, .int .i64 n2, .slice a2 l2 c2] 24) ∧ _ = w.heap.size + 1 + 1) := ⟨g0, b1, b2, bsz⟩
  clear g0 b1 b2 bsz e1 h1 h2 hs1
  go_enter Try.func3, Try.ntmps3
  go_wp2_with fail
  refine Calls.mono C1.out ?_
  rintro e w1 ⟨rfl, hg⟩
  obtain ⟨g0, b1, b2, bsz⟩ := L0.out
  have g1 := grown_trans g0 hg
  have b1' := (hg.block _ (lt_of_block b1) (by simp)).trans b1
  have b2' := (hg.block _ (lt_of_block b2) (by simp)).trans b2
  clear hg L0 C1 g0 b1 b2 bsz
  generalize ep1 : w.heap.size = p1 at *
  generalize ep2 : p1 + 1 = p2 at *
  have hp12 : p1 ≠ p2 := by omega
  have L1 : Hid ((w.grownBy w1 none) ∧ (w1.heap[p1]? = some (Obj.cells #[.int .i64 k1, .int .i64 n1, .slice a1 l1 c1] 24)) ∧ (w1.heap[p2]? = some (Obj.cells #[.int .i64 k2, .int .i64 n2, .slice a2 l2 c2] 24))) := ⟨g1, b1', b2'⟩
  clear g1 b1' b2' ep1 ep2
  have C2 : Hid _ := szTr d2 k2 n2 a2 l2 c2 (1048576 - d1.size) w1 (HD.out.2.none L1.out.1) (by omega) (by omega)
  generalize hq1 : (1048576 : Int) - d1.size = q1 at *
  by_cases hs2 : (d2.size : Int) ≤ q1
  rotate_left
  · have e1 : szV d2 q1 = -1 := if_neg hs2
    rw [e1] at C2
    clear e1 hs2
    simp only []
    obtain ⟨⟨x0_0, x0_1, x0_2⟩, -⟩ := three (L1.out.2.2)
    go_wp2_with fail
    refine Calls.mono (C2.out) ?_
    rintro e w2 ⟨rfl, hg⟩
    have L2 : Hid ((w.grownBy w2 none) ∧ (w2.heap[p1]? = some (Obj.cells #[.int .i64 k1, .int .i64 n1, .slice a1 l1 c1] 24)) ∧ (w2.heap[p2]? = some (Obj.cells #[.int .i64 k2, .int .i64 n2, .slice a2 l2 c2] 24))) := ⟨grown_trans (L1.out.1) hg, (World.grownBy.block hg _ (lt_of_block (L1.out.2.1)) (by simp)).trans (L1.out.2.1), (World.grownBy.block hg _ (lt_of_block (L1.out.2.2)) (by simp)).trans (L1.out.2.2)⟩
    clear L1 x0_0 x0_1 x0_2
    clear hg
    simp only []
    clear C2
    go_wp2
    go_ret
    exact ⟨rfl, L2.out.1⟩
  have e1 : szV d2 q1 = q1 - d2.size := if_pos hs2
  rw [e1] at C2
  have hpos2 : ¬ (q1 - d2.size < 0) := by omega
  have hd2 : d2.size ≤ 1048576 := by omega
  clear e1 hs2
  simp only []
  obtain ⟨⟨x1_0, x1_1, x1_2⟩, -⟩ := three (L1.out.2.2)
  go_wp2_with fail
  refine Calls.mono (C2.out) ?_
  rintro e w2 ⟨rfl, hg⟩
  have L3 : Hid ((w.grownBy w2 none) ∧ (w2.heap[p1]? = some (Obj.cells #[.int .i64 k1, .int .i64 n1, .slice a1 l1 c1] 24)) ∧ (w2.heap[p2]? = some (Obj.cells #[.int .i64 k2, .int .i64 n2, .slice a2 l2 c2] 24))) := ⟨grown_trans (L1.out.1) hg, (World.grownBy.block hg _ (lt_of_block (L1.out.2.1)) (by simp)).trans (L1.out.2.1), (World.grownBy.block hg _ (lt_of_block (L1.out.2.2)) (by simp)).trans (L1.out.2.2)⟩
  clear L1 x1_0 x1_1 x1_2
  clear hg
  simp only []
  clear C2 hpos1
  generalize hq2 : q1 - (d2.size : Int) = q2 at *
  go_wp2_with fail
  have L4 : Hid ((w.grownBy w2.drew none) ∧ (w2.drew.heap[p1]? = some (Obj.cells #[.int .i64 k1, .int .i64 n1, .slice a1 l1 c1] 24)) ∧ (w2.drew.heap[p2]? = some (Obj.cells #[.int .i64 k2, .int .i64 n2, .slice a2 l2 c2] 24))) := ⟨grown_trans (L3.out.1) (grown_drew (World.grownBy.refl w2 none)), (World.grownBy.block (grown_drew (World.grownBy.refl w2 none)) _ (lt_of_block (L3.out.2.1)) (by simp)).trans (L3.out.2.1), (World.grownBy.block (grown_drew (World.grownBy.refl w2 none)) _ (lt_of_block (L3.out.2.2)) (by simp)).trans (L3.out.2.2)⟩
  clear L3
  refine wp_region_held_drew (S := (fun u0 => Tri p1 0 (.int .i64 k1) (.int .i64 n1) (.slice a1 l1 c1) u0 ∧ Tri p2 0 (.int .i64 k2) (.int .i64 n2) (.slice a2 l2 c2) u0)) (by kernel_rfl) ⟨(three (L4.out.2.1)).1, (three (L4.out.2.2)).1⟩ (fun hH => ?_)
  generalize w2.drew = u0 at *
  simp only [List.size_toArray, List.length_cons, List.length_nil, Nat.reduceAdd, Array.replicate, List.replicate]
  refine wpAnyH_take (i := 0) (v := ?_) rfl (by kernel_rfl) (by kernel_rfl) (by kernel_rfl) (fun _ _ _ h => h) (Or.inl ⟨by rfl, ?_⟩) hH ?_
  rotate_left
  · (intro v hS; obtain ⟨⟨s00, s01, s02⟩, ⟨s10, s11, s12⟩⟩ := hS; go_simp; try with_reducible rfl)
  simp only [Act.put, List.setIfInBounds_toArray, List.set_cons_zero, List.set_cons_succ, List.getElem_toArray, List.getElem_cons_succ, List.getElem_cons_zero]
  refine wpAnyH_take (i := 2) (v := ?_) rfl (by kernel_rfl) (by kernel_rfl) (by kernel_rfl) (fun _ _ _ h => h) (Or.inl ⟨by rfl, ?_⟩) hH ?_
  rotate_left
  · (intro v hS; obtain ⟨⟨s00, s01, s02⟩, ⟨s10, s11, s12⟩⟩ := hS; go_simp; try with_reducible rfl)
  simp only [Act.put, List.setIfInBounds_toArray, List.set_cons_zero, List.set_cons_succ, List.getElem_toArray, List.getElem_cons_succ, List.getElem_cons_zero]
  refine wpAnyH_ready (rs := [1]) (by kernel_rfl) (by simp) ?_
  refine AllReadyH.cons rfl (fun K hK => ?_) AllReadyH.nil
  go_simp
  refine Calls.mono (toTr d1 k1 n1 a1 l1 c1 u0 (HD.out.1.none (L4.out.1)) hd1) ?_
  rintro e u1 ⟨e1, f1, bs1, rfl, hg, hn1⟩
  have L5 : Hid ((w.grownBy u1 none) ∧ (u1.heap[p1]? = some (Obj.cells #[.int .i64 k1, .int .i64 n1, .slice a1 l1 c1] 24)) ∧ (u1.heap[p2]? = some (Obj.cells #[.int .i64 k2, .int .i64 n2, .slice a2 l2 c2] 24)) ∧ (SlF u1 (e1) l1 (d1))) := ⟨grown_trans (L4.out.1) hg, (World.grownBy.block hg _ (lt_of_block (L4.out.2.1)) (by simp)).trans (L4.out.2.1), (World.grownBy.block hg _ (lt_of_block (L4.out.2.2)) (by simp)).trans (L4.out.2.2), hn1.1.reads⟩
  clear L4
  refine hK.out _ _ ⟨(three (L5.out.2.1)).1, (three (L5.out.2.2.1)).1⟩ (fun hH2 => ?_)
  clear hK K hH
  have hH := hH2
  clear hH2 hg
  simp only [Act.put, List.setIfInBounds_toArray, List.set_cons_zero, List.set_cons_succ, List.getElem_toArray, List.getElem_cons_succ, List.getElem_cons_zero]
  clear hn1
  refine wpAnyH_ready (rs := [3]) (by kernel_rfl) (by simp) ?_
  refine AllReadyH.cons rfl (fun K hK => ?_) AllReadyH.nil
  go_simp
  refine Calls.mono (toTr d2 k2 n2 a2 l2 c2 u1 (HD.out.2.none (L5.out.1)) hd2) ?_
  rintro e u2 ⟨e2, f2, bs2, rfl, hg, hn2⟩
  have L6 : Hid ((w.grownBy u2 none) ∧ (u2.heap[p1]? = some (Obj.cells #[.int .i64 k1, .int .i64 n1, .slice a1 l1 c1] 24)) ∧ (u2.heap[p2]? = some (Obj.cells #[.int .i64 k2, .int .i64 n2, .slice a2 l2 c2] 24)) ∧ (SlF u2 (e1) l1 (d1)) ∧ (SlF u2 (e2) l2 (d2))) := ⟨grown_trans (L5.out.1) hg, (World.grownBy.block hg _ (lt_of_block (L5.out.2.1)) (by simp)).trans (L5.out.2.1), (World.grownBy.block hg _ (lt_of_block (L5.out.2.2.1)) (by simp)).trans (L5.out.2.2.1), SlF.none (L5.out.2.2.2) hg, hn2.1.reads⟩
  clear L5
  refine hK.out _ _ ⟨(three (L6.out.2.1)).1, (three (L6.out.2.2.1)).1⟩ (fun hH2 => ?_)
  clear hK K hH
  have hH := hH2
  clear hH2 hg
  simp only [Act.put, List.setIfInBounds_toArray, List.set_cons_zero, List.set_cons_succ, List.getElem_toArray, List.getElem_cons_succ, List.getElem_cons_zero]
  clear hn2
  refine wpAnyH_ready (rs := [4]) (by kernel_rfl) (by simp) ?_
  refine AllReadyH.cons rfl (fun K hK => ?_) AllReadyH.nil
  go_simp
  refine Calls.mono (specTyEqT d1 d2 k1 n1 k2 n2 e1 e2 l1 f1 l2 f2 u2 (L6.out.2.2.2.1) (L6.out.2.2.2.2)) ?_
  rintro e u3 ⟨rfl, hg⟩
  have L7 : Hid ((w.grownBy u3 none) ∧ (u3.heap[p1]? = some (Obj.cells #[.int .i64 k1, .int .i64 n1, .slice a1 l1 c1] 24)) ∧ (u3.heap[p2]? = some (Obj.cells #[.int .i64 k2, .int .i64 n2, .slice a2 l2 c2] 24))) := ⟨grown_trans (L6.out.1) hg, (World.grownBy.block hg _ (lt_of_block (L6.out.2.1)) (by simp)).trans (L6.out.2.1), (World.grownBy.block hg _ (lt_of_block (L6.out.2.2.1)) (by simp)).trans (L6.out.2.2.1)⟩
  clear L6
  refine hK.out _ _ ⟨(three (L7.out.2.1)).1, (three (L7.out.2.2)).1⟩ (fun hH2 => ?_)
  clear hK K hH
  have hH := hH2
  clear hH2 hg
  simp only [Act.put, List.setIfInBounds_toArray, List.set_cons_zero, List.set_cons_succ, List.getElem_toArray, List.getElem_cons_succ, List.getElem_cons_zero]
  refine wpAnyH_take (i := 5) (v := ?_) rfl (by kernel_rfl) (by kernel_rfl) (by kernel_rfl) (fun _ _ _ h => h) (Or.inl ⟨by rfl, ?_⟩) hH ?_
  rotate_left
  · (intro v hS; go_simp; try with_reducible rfl)
  simp only [Act.put, List.setIfInBounds_toArray, List.set_cons_zero, List.set_cons_succ, List.getElem_toArray, List.getElem_cons_succ, List.getElem_cons_zero]
  refine wpAnyH_done (by kernel_rfl) ?_ _
  generalize hans : (okT k1 n1 d1 && (okT k2 n2 d2 && eqV k1 n1 d1 k2 n2 d2)) = ans at *
  obtain ⟨⟨x2_0, x2_1, x2_2⟩, -⟩ := three (L7.out.2.1)
  go_wp2_with fail
  refine Calls.mono (toTr d1 k1 n1 a1 l1 c1 u3 (HD.out.1.none (L7.out.1)) hd1) ?_
  rintro e w3 ⟨e1, f1, bs1, rfl, hg, hn1⟩
  have ga := World.grownBy_alloc w3 (.cells #[.int .i64 k1, .int .i64 n1, .slice e1 l1 f1] 29) none
  have ba := heap_alloc_new w3 (.cells #[.int .i64 k1, .int .i64 n1, .slice e1 l1 f1] 29)
  have hgg := grown_trans hg ga
  have sz : ∀ x, x < w3.heap.size → x ≠ w3.heap.size := fun x hx => Nat.ne_of_lt hx
  have ne_p1_r1 := sz p1 (Nat.lt_of_lt_of_le (lt_of_block (L7.out.2.1)) hg.size)
  have ne_p2_r1 := sz p2 (Nat.lt_of_lt_of_le (lt_of_block (L7.out.2.2)) hg.size)
  have L8 : Hid ((w.grownBy (w3.alloc (.cells #[.int .i64 k1, .int .i64 n1, .slice e1 l1 f1] 29)) none) ∧ ((w3.alloc (.cells #[.int .i64 k1, .int .i64 n1, .slice e1 l1 f1] 29)).heap[p1]? = some (Obj.cells #[.int .i64 k1, .int .i64 n1, .slice a1 l1 c1] 24)) ∧ ((w3.alloc (.cells #[.int .i64 k1, .int .i64 n1, .slice e1 l1 f1] 29)).heap[p2]? = some (Obj.cells #[.int .i64 k2, .int .i64 n2, .slice a2 l2 c2] 24)) ∧ ((w3.alloc (.cells #[.int .i64 k1, .int .i64 n1, .slice e1 l1 f1] 29)).heap[w3.heap.size]? = some (Obj.cells #[.int .i64 k1, .int .i64 n1, .slice e1 l1 f1] 29)) ∧ (SlF (w3.alloc (.cells #[.int .i64 k1, .int .i64 n1, .slice e1 l1 f1] 29)) (e1) l1 (d1))) := ⟨grown_trans (L7.out.1) hgg, (World.grownBy.block hgg _ (lt_of_block (L7.out.2.1)) (by simp)).trans (L7.out.2.1), (World.grownBy.block hgg _ (lt_of_block (L7.out.2.2)) (by simp)).trans (L7.out.2.2), ba, hn1.1.reads.none ga⟩
  clear L7 x2_0 x2_1 x2_2
  clear hg ga ba hgg hn1 sz
  simp only []
  obtain ⟨⟨x3_0, x3_1, x3_2⟩, -⟩ := three (L8.out.2.2.1)
  go_wp2_with fail
  generalize w3.heap.size = r1 at *
  refine Calls.mono (toTr d2 k2 n2 a2 l2 c2 (w3.alloc (.cells #[.int .i64 k1, .int .i64 n1, .slice e1 l1 f1] 29)) (HD.out.2.none (L8.out.1)) hd2) ?_
  rintro e w4 ⟨e2, f2, bs2, rfl, hg, hn2⟩
  have ga := World.grownBy_alloc w4 (.cells #[.int .i64 k2, .int .i64 n2, .slice e2 l2 f2] 29) none
  have ba := heap_alloc_new w4 (.cells #[.int .i64 k2, .int .i64 n2, .slice e2 l2 f2] 29)
  have hgg := grown_trans hg ga
  have sz : ∀ x, x < w4.heap.size → x ≠ w4.heap.size := fun x hx => Nat.ne_of_lt hx
  have ne_p1_r2 := sz p1 (Nat.lt_of_lt_of_le (lt_of_block (L8.out.2.1)) hg.size)
  have ne_p2_r2 := sz p2 (Nat.lt_of_lt_of_le (lt_of_block (L8.out.2.2.1)) hg.size)
  have ne_r1_r2 := sz r1 (Nat.lt_of_lt_of_le (lt_of_block (L8.out.2.2.2.1)) hg.size)
  have L9 : Hid ((w.grownBy (w4.alloc (.cells #[.int .i64 k2, .int .i64 n2, .slice e2 l2 f2] 29)) none) ∧ ((w4.alloc (.cells #[.int .i64 k2, .int .i64 n2, .slice e2 l2 f2] 29)).heap[p1]? = some (Obj.cells #[.int .i64 k1, .int .i64 n1, .slice a1 l1 c1] 24)) ∧ ((w4.alloc (.cells #[.int .i64 k2, .int .i64 n2, .slice e2 l2 f2] 29)).heap[p2]? = some (Obj.cells #[.int .i64 k2, .int .i64 n2, .slice a2 l2 c2] 24)) ∧ ((w4.alloc (.cells #[.int .i64 k2, .int .i64 n2, .slice e2 l2 f2] 29)).heap[r1]? = some (Obj.cells #[.int .i64 k1, .int .i64 n1, .slice e1 l1 f1] 29)) ∧ (SlF (w4.alloc (.cells #[.int .i64 k2, .int .i64 n2, .slice e2 l2 f2] 29)) (e1) l1 (d1)) ∧ ((w4.alloc (.cells #[.int .i64 k2, .int .i64 n2, .slice e2 l2 f2] 29)).heap[w4.heap.size]? = some (Obj.cells #[.int .i64 k2, .int .i64 n2, .slice e2 l2 f2] 29)) ∧ (SlF (w4.alloc (.cells #[.int .i64 k2, .int .i64 n2, .slice e2 l2 f2] 29)) (e2) l2 (d2))) := ⟨grown_trans (L8.out.1) hgg, (World.grownBy.block hgg _ (lt_of_block (L8.out.2.1)) (by simp)).trans (L8.out.2.1), (World.grownBy.block hgg _ (lt_of_block (L8.out.2.2.1)) (by simp)).trans (L8.out.2.2.1), (World.grownBy.block hgg _ (lt_of_block (L8.out.2.2.2.1)) (by simp)).trans (L8.out.2.2.2.1), SlF.none (L8.out.2.2.2.2) hgg, ba, hn2.1.reads.none ga⟩
  clear L8 x3_0 x3_1 x3_2
  clear hg ga ba hgg hn2 sz
  simp only []
  obtain ⟨⟨x4_0, x4_1, x4_2⟩, -⟩ := three (L9.out.2.2.2.1)
  obtain ⟨⟨x5_0, x5_1, x5_2⟩, -⟩ := three (L9.out.2.2.2.2.2.1)
  go_wp2_with fail
  generalize w4.heap.size = r2 at *
  refine Calls.mono (implTyEqT d1 d2 k1 n1 k2 n2 e1 e2 l1 f1 l2 f2 _ (L9.out.2.2.2.2.1) (L9.out.2.2.2.2.2.2)) ?_
  rintro e w5 ⟨rfl, hg⟩
  rw [hans]
  have L10 : Hid ((w.grownBy w5 none) ∧ (w5.heap[p1]? = some (Obj.cells #[.int .i64 k1, .int .i64 n1, .slice a1 l1 c1] 24)) ∧ (w5.heap[p2]? = some (Obj.cells #[.int .i64 k2, .int .i64 n2, .slice a2 l2 c2] 24)) ∧ (w5.heap[r1]? = some (Obj.cells #[.int .i64 k1, .int .i64 n1, .slice e1 l1 f1] 29)) ∧ (SlF w5 (e1) l1 (d1)) ∧ (w5.heap[r2]? = some (Obj.cells #[.int .i64 k2, .int .i64 n2, .slice e2 l2 f2] 29)) ∧ (SlF w5 (e2) l2 (d2))) := ⟨grown_trans (L9.out.1) hg, (World.grownBy.block hg _ (lt_of_block (L9.out.2.1)) (by simp)).trans (L9.out.2.1), (World.grownBy.block hg _ (lt_of_block (L9.out.2.2.1)) (by simp)).trans (L9.out.2.2.1), (World.grownBy.block hg _ (lt_of_block (L9.out.2.2.2.1)) (by simp)).trans (L9.out.2.2.2.1), SlF.none (L9.out.2.2.2.2.1) hg, (World.grownBy.block hg _ (lt_of_block (L9.out.2.2.2.2.2.1)) (by simp)).trans (L9.out.2.2.2.2.2.1), SlF.none (L9.out.2.2.2.2.2.2) hg⟩
  clear L9 x4_0 x4_1 x4_2 x5_0 x5_1 x5_2
  clear hg
  simp only []
  clear hans
  go_wp2_with fail
  have L11 : Hid ((w.grownBy w5.drew none) ∧ (w5.drew.heap[p1]? = some (Obj.cells #[.int .i64 k1, .int .i64 n1, .slice a1 l1 c1] 24)) ∧ (w5.drew.heap[p2]? = some (Obj.cells #[.int .i64 k2, .int .i64 n2, .slice a2 l2 c2] 24)) ∧ (w5.drew.heap[r1]? = some (Obj.cells #[.int .i64 k1, .int .i64 n1, .slice e1 l1 f1] 29)) ∧ (SlF w5.drew (e1) l1 (d1)) ∧ (w5.drew.heap[r2]? = some (Obj.cells #[.int .i64 k2, .int .i64 n2, .slice e2 l2 f2] 29)) ∧ (SlF w5.drew (e2) l2 (d2))) := ⟨grown_trans (L10.out.1) (grown_drew (World.grownBy.refl w5 none)), (World.grownBy.block (grown_drew (World.grownBy.refl w5 none)) _ (lt_of_block (L10.out.2.1)) (by simp)).trans (L10.out.2.1), (World.grownBy.block (grown_drew (World.grownBy.refl w5 none)) _ (lt_of_block (L10.out.2.2.1)) (by simp)).trans (L10.out.2.2.1), (World.grownBy.block (grown_drew (World.grownBy.refl w5 none)) _ (lt_of_block (L10.out.2.2.2.1)) (by simp)).trans (L10.out.2.2.2.1), SlF.none (L10.out.2.2.2.2.1) (grown_drew (World.grownBy.refl w5 none)), (World.grownBy.block (grown_drew (World.grownBy.refl w5 none)) _ (lt_of_block (L10.out.2.2.2.2.2.1)) (by simp)).trans (L10.out.2.2.2.2.2.1), SlF.none (L10.out.2.2.2.2.2.2) (grown_drew (World.grownBy.refl w5 none))⟩
  clear L10
  refine wp_region_held_drew (S := (fun ua => Tri p1 0 (.int .i64 k1) (.int .i64 n1) (.slice a1 l1 c1) ua ∧ Tri r1 0 (.int .i64 k1) (.int .i64 n1) (.slice e1 l1 f1) ua)) (by kernel_rfl) ⟨(three (L11.out.2.1)).1, (three (L11.out.2.2.2.1)).1⟩ (fun hH => ?_)
  generalize w5.drew = ua at *
  simp only [List.size_toArray, List.length_cons, List.length_nil, Nat.reduceAdd, Array.replicate, List.replicate]
  refine wpAnyH_take (i := 0) (v := ?_) rfl (by kernel_rfl) (by kernel_rfl) (by kernel_rfl) (fun _ _ _ h => h) (Or.inl ⟨by rfl, ?_⟩) hH ?_
  rotate_left
  · (intro v hS; obtain ⟨⟨s00, s01, s02⟩, ⟨s10, s11, s12⟩⟩ := hS; go_simp; try with_reducible rfl)
  simp only [Act.put, List.setIfInBounds_toArray, List.set_cons_zero, List.set_cons_succ, List.getElem_toArray, List.getElem_cons_succ, List.getElem_cons_zero]
  refine wpAnyH_take (i := 1) (v := ?_) rfl (by kernel_rfl) (by kernel_rfl) (by kernel_rfl) (fun _ _ _ h => h) (Or.inl ⟨by rfl, ?_⟩) hH ?_
  rotate_left
  · (intro v hS; obtain ⟨⟨s00, s01, s02⟩, ⟨s10, s11, s12⟩⟩ := hS; go_simp; try with_reducible rfl)
  simp only [Act.put, List.setIfInBounds_toArray, List.set_cons_zero, List.set_cons_succ, List.getElem_toArray, List.getElem_cons_succ, List.getElem_cons_zero]
  refine wpAnyH_ready (rs := [2]) (by kernel_rfl) (by simp) ?_
  refine AllReadyH.cons rfl (fun K hK => ?_) AllReadyH.nil
  go_simp
  refine Calls.mono (toTr d1 k1 n1 a1 l1 c1 ua (HD.out.1.none (L11.out.1)) hd1) ?_
  rintro e ua1 ⟨e1', f1', bs1', rfl, hg, hn1⟩
  have L12 : Hid ((w.grownBy ua1 none) ∧ (ua1.heap[p1]? = some (Obj.cells #[.int .i64 k1, .int .i64 n1, .slice a1 l1 c1] 24)) ∧ (ua1.heap[p2]? = some (Obj.cells #[.int .i64 k2, .int .i64 n2, .slice a2 l2 c2] 24)) ∧ (ua1.heap[r1]? = some (Obj.cells #[.int .i64 k1, .int .i64 n1, .slice e1 l1 f1] 29)) ∧ (SlF ua1 (e1) l1 (d1)) ∧ (ua1.heap[r2]? = some (Obj.cells #[.int .i64 k2, .int .i64 n2, .slice e2 l2 f2] 29)) ∧ (SlF ua1 (e2) l2 (d2)) ∧ (SlF ua1 (e1') l1 (d1))) := ⟨grown_trans (L11.out.1) hg, (World.grownBy.block hg _ (lt_of_block (L11.out.2.1)) (by simp)).trans (L11.out.2.1), (World.grownBy.block hg _ (lt_of_block (L11.out.2.2.1)) (by simp)).trans (L11.out.2.2.1), (World.grownBy.block hg _ (lt_of_block (L11.out.2.2.2.1)) (by simp)).trans (L11.out.2.2.2.1), SlF.none (L11.out.2.2.2.2.1) hg, (World.grownBy.block hg _ (lt_of_block (L11.out.2.2.2.2.2.1)) (by simp)).trans (L11.out.2.2.2.2.2.1), SlF.none (L11.out.2.2.2.2.2.2) hg, hn1.1.reads⟩
  clear L11
  refine hK.out _ _ ⟨(three (L12.out.2.1)).1, (three (L12.out.2.2.2.1)).1⟩ (fun hH2 => ?_)
  clear hK K hH
  have hH := hH2
  clear hH2 hg
  simp only [Act.put, List.setIfInBounds_toArray, List.set_cons_zero, List.set_cons_succ, List.getElem_toArray, List.getElem_cons_succ, List.getElem_cons_zero]
  clear hn1
  refine wpAnyH_ready (rs := [3]) (by kernel_rfl) (by simp) ?_
  refine AllReadyH.cons rfl (fun K hK => ?_) AllReadyH.nil
  go_simp
  refine Calls.mono (eqTr d1 k1 n1 e1 e1' l1 f1 f1' ua1 (L12.out.2.2.2.2.1) (L12.out.2.2.2.2.2.2.2)) ?_
  rintro e ua2 ⟨rfl, hg⟩
  have L13 : Hid ((w.grownBy ua2 none) ∧ (ua2.heap[p1]? = some (Obj.cells #[.int .i64 k1, .int .i64 n1, .slice a1 l1 c1] 24)) ∧ (ua2.heap[p2]? = some (Obj.cells #[.int .i64 k2, .int .i64 n2, .slice a2 l2 c2] 24)) ∧ (ua2.heap[r1]? = some (Obj.cells #[.int .i64 k1, .int .i64 n1, .slice e1 l1 f1] 29)) ∧ (SlF ua2 (e1) l1 (d1)) ∧ (ua2.heap[r2]? = some (Obj.cells #[.int .i64 k2, .int .i64 n2, .slice e2 l2 f2] 29)) ∧ (SlF ua2 (e2) l2 (d2))) := ⟨grown_trans (L12.out.1) hg, (World.grownBy.block hg _ (lt_of_block (L12.out.2.1)) (by simp)).trans (L12.out.2.1), (World.grownBy.block hg _ (lt_of_block (L12.out.2.2.1)) (by simp)).trans (L12.out.2.2.1), (World.grownBy.block hg _ (lt_of_block (L12.out.2.2.2.1)) (by simp)).trans (L12.out.2.2.2.1), SlF.none (L12.out.2.2.2.2.1) hg, (World.grownBy.block hg _ (lt_of_block (L12.out.2.2.2.2.2.1)) (by simp)).trans (L12.out.2.2.2.2.2.1), SlF.none (L12.out.2.2.2.2.2.2.1) hg⟩
  clear L12
  refine hK.out _ _ ⟨(three (L13.out.2.1)).1, (three (L13.out.2.2.2.1)).1⟩ (fun hH2 => ?_)
  clear hK K hH
  have hH := hH2
  clear hH2 hg
  simp only [Act.put, List.setIfInBounds_toArray, List.set_cons_zero, List.set_cons_succ, List.getElem_toArray, List.getElem_cons_succ, List.getElem_cons_zero]
  refine wpAnyH_take (i := 4) (v := ?_) rfl (by kernel_rfl) (by kernel_rfl) (by kernel_rfl) (fun _ _ _ h => h) (Or.inl ⟨by rfl, ?_⟩) hH ?_
  rotate_left
  · (intro v hS; go_simp; try with_reducible rfl)
  simp only [Act.put, List.setIfInBounds_toArray, List.set_cons_zero, List.set_cons_succ, List.getElem_toArray, List.getElem_cons_succ, List.getElem_cons_zero]
  refine wpAnyH_done (by kernel_rfl) ?_ _
  go_wp2_with fail
  have L14 : Hid ((w.grownBy ua2.drew none) ∧ (ua2.drew.heap[p1]? = some (Obj.cells #[.int .i64 k1, .int .i64 n1, .slice a1 l1 c1] 24)) ∧ (ua2.drew.heap[p2]? = some (Obj.cells #[.int .i64 k2, .int .i64 n2, .slice a2 l2 c2] 24)) ∧ (ua2.drew.heap[r1]? = some (Obj.cells #[.int .i64 k1, .int .i64 n1, .slice e1 l1 f1] 29)) ∧ (SlF ua2.drew (e1) l1 (d1)) ∧ (ua2.drew.heap[r2]? = some (Obj.cells #[.int .i64 k2, .int .i64 n2, .slice e2 l2 f2] 29)) ∧ (SlF ua2.drew (e2) l2 (d2))) := ⟨grown_trans (L13.out.1) (grown_drew (World.grownBy.refl ua2 none)), (World.grownBy.block (grown_drew (World.grownBy.refl ua2 none)) _ (lt_of_block (L13.out.2.1)) (by simp)).trans (L13.out.2.1), (World.grownBy.block (grown_drew (World.grownBy.refl ua2 none)) _ (lt_of_block (L13.out.2.2.1)) (by simp)).trans (L13.out.2.2.1), (World.grownBy.block (grown_drew (World.grownBy.refl ua2 none)) _ (lt_of_block (L13.out.2.2.2.1)) (by simp)).trans (L13.out.2.2.2.1), SlF.none (L13.out.2.2.2.2.1) (grown_drew (World.grownBy.refl ua2 none)), (World.grownBy.block (grown_drew (World.grownBy.refl ua2 none)) _ (lt_of_block (L13.out.2.2.2.2.2.1)) (by simp)).trans (L13.out.2.2.2.2.2.1), SlF.none (L13.out.2.2.2.2.2.2) (grown_drew (World.grownBy.refl ua2 none))⟩
  clear L13
  refine wp_region_held_drew (S := (fun ub => Tri p2 0 (.int .i64 k2) (.int .i64 n2) (.slice a2 l2 c2) ub ∧ Tri r2 0 (.int .i64 k2) (.int .i64 n2) (.slice e2 l2 f2) ub)) (by kernel_rfl) ⟨(three (L14.out.2.2.1)).1, (three (L14.out.2.2.2.2.2.1)).1⟩ (fun hH => ?_)
  generalize ua2.drew = ub at *
  simp only [List.size_toArray, List.length_cons, List.length_nil, Nat.reduceAdd, Array.replicate, List.replicate]
  refine wpAnyH_take (i := 0) (v := ?_) rfl (by kernel_rfl) (by kernel_rfl) (by kernel_rfl) (fun _ _ _ h => h) (Or.inl ⟨by rfl, ?_⟩) hH ?_
  rotate_left
  · (intro v hS; obtain ⟨⟨s00, s01, s02⟩, ⟨s10, s11, s12⟩⟩ := hS; go_simp; try with_reducible rfl)
  simp only [Act.put, List.setIfInBounds_toArray, List.set_cons_zero, List.set_cons_succ, List.getElem_toArray, List.getElem_cons_succ, List.getElem_cons_zero]
  refine wpAnyH_take (i := 1) (v := ?_) rfl (by kernel_rfl) (by kernel_rfl) (by kernel_rfl) (fun _ _ _ h => h) (Or.inl ⟨by rfl, ?_⟩) hH ?_
  rotate_left
  · (intro v hS; obtain ⟨⟨s00, s01, s02⟩, ⟨s10, s11, s12⟩⟩ := hS; go_simp; try with_reducible rfl)
  simp only [Act.put, List.setIfInBounds_toArray, List.set_cons_zero, List.set_cons_succ, List.getElem_toArray, List.getElem_cons_succ, List.getElem_cons_zero]
  refine wpAnyH_ready (rs := [2]) (by kernel_rfl) (by simp) ?_
  refine AllReadyH.cons rfl (fun K hK => ?_) AllReadyH.nil
  go_simp
  refine Calls.mono (toTr d2 k2 n2 a2 l2 c2 ub (HD.out.2.none (L14.out.1)) hd2) ?_
  rintro e ub1 ⟨e2', f2', bs2', rfl, hg, hn2⟩
  have L15 : Hid ((w.grownBy ub1 none) ∧ (ub1.heap[p1]? = some (Obj.cells #[.int .i64 k1, .int .i64 n1, .slice a1 l1 c1] 24)) ∧ (ub1.heap[p2]? = some (Obj.cells #[.int .i64 k2, .int .i64 n2, .slice a2 l2 c2] 24)) ∧ (ub1.heap[r1]? = some (Obj.cells #[.int .i64 k1, .int .i64 n1, .slice e1 l1 f1] 29)) ∧ (SlF ub1 (e1) l1 (d1)) ∧ (ub1.heap[r2]? = some (Obj.cells #[.int .i64 k2, .int .i64 n2, .slice e2 l2 f2] 29)) ∧ (SlF ub1 (e2) l2 (d2)) ∧ (SlF ub1 (e2') l2 (d2))) := ⟨grown_trans (L14.out.1) hg, (World.grownBy.block hg _ (lt_of_block (L14.out.2.1)) (by simp)).trans (L14.out.2.1), (World.grownBy.block hg _ (lt_of_block (L14.out.2.2.1)) (by simp)).trans (L14.out.2.2.1), (World.grownBy.block hg _ (lt_of_block (L14.out.2.2.2.1)) (by simp)).trans (L14.out.2.2.2.1), SlF.none (L14.out.2.2.2.2.1) hg, (World.grownBy.block hg _ (lt_of_block (L14.out.2.2.2.2.2.1)) (by simp)).trans (L14.out.2.2.2.2.2.1), SlF.none (L14.out.2.2.2.2.2.2) hg, hn2.1.reads⟩
  clear L14
  refine hK.out _ _ ⟨(three (L15.out.2.2.1)).1, (three (L15.out.2.2.2.2.2.1)).1⟩ (fun hH2 => ?_)
  clear hK K hH
  have hH := hH2
  clear hH2 hg
  simp only [Act.put, List.setIfInBounds_toArray, List.set_cons_zero, List.set_cons_succ, List.getElem_toArray, List.getElem_cons_succ, List.getElem_cons_zero]
  clear hn2
  refine wpAnyH_ready (rs := [3]) (by kernel_rfl) (by simp) ?_
  refine AllReadyH.cons rfl (fun K hK => ?_) AllReadyH.nil
  go_simp
  refine Calls.mono (eqTr d2 k2 n2 e2 e2' l2 f2 f2' ub1 (L15.out.2.2.2.2.2.2.1) (L15.out.2.2.2.2.2.2.2)) ?_
  rintro e ub2 ⟨rfl, hg⟩
  have L16 : Hid ((w.grownBy ub2 none) ∧ (ub2.heap[p1]? = some (Obj.cells #[.int .i64 k1, .int .i64 n1, .slice a1 l1 c1] 24)) ∧ (ub2.heap[p2]? = some (Obj.cells #[.int .i64 k2, .int .i64 n2, .slice a2 l2 c2] 24)) ∧ (ub2.heap[r1]? = some (Obj.cells #[.int .i64 k1, .int .i64 n1, .slice e1 l1 f1] 29)) ∧ (SlF ub2 (e1) l1 (d1)) ∧ (ub2.heap[r2]? = some (Obj.cells #[.int .i64 k2, .int .i64 n2, .slice e2 l2 f2] 29)) ∧ (SlF ub2 (e2) l2 (d2))) := ⟨grown_trans (L15.out.1) hg, (World.grownBy.block hg _ (lt_of_block (L15.out.2.1)) (by simp)).trans (L15.out.2.1), (World.grownBy.block hg _ (lt_of_block (L15.out.2.2.1)) (by simp)).trans (L15.out.2.2.1), (World.grownBy.block hg _ (lt_of_block (L15.out.2.2.2.1)) (by simp)).trans (L15.out.2.2.2.1), SlF.none (L15.out.2.2.2.2.1) hg, (World.grownBy.block hg _ (lt_of_block (L15.out.2.2.2.2.2.1)) (by simp)).trans (L15.out.2.2.2.2.2.1), SlF.none (L15.out.2.2.2.2.2.2.1) hg⟩
  clear L15
  refine hK.out _ _ ⟨(three (L16.out.2.2.1)).1, (three (L16.out.2.2.2.2.2.1)).1⟩ (fun hH2 => ?_)
  clear hK K hH
  have hH := hH2
  clear hH2 hg
  simp only [Act.put, List.setIfInBounds_toArray, List.set_cons_zero, List.set_cons_succ, List.getElem_toArray, List.getElem_cons_succ, List.getElem_cons_zero]
  refine wpAnyH_take (i := 4) (v := ?_) rfl (by kernel_rfl) (by kernel_rfl) (by kernel_rfl) (fun _ _ _ h => h) (Or.inl ⟨by rfl, ?_⟩) hH ?_
  rotate_left
  · (intro v hS; go_simp; try with_reducible rfl)
  simp only [Act.put, List.setIfInBounds_toArray, List.set_cons_zero, List.set_cons_succ, List.getElem_toArray, List.getElem_cons_succ, List.getElem_cons_zero]
  refine wpAnyH_done (by kernel_rfl) ?_ _
  go_wp2
  go_ret
  exact ⟨rfl, L16.out.1⟩
end Go.Proofs.Ytbannlaeapfllab.By
