/-
  The walk of laws.FnExactResolve. No statement is proved here.
-/
import Derived.Test.YtjchjdcaampghaaUSp
import Derived.Test.YtjchjdcaampghaaUMk
import Derived.Test.YtjchjdcaampghaaUH
import Derived.Test.YtjchjdcaampghaaUC
import Derived.Test.YtjchjdcaampghaaLawBindsOk
namespace Go.Proofs.Ytjchjdcaampghaa.By
open Go.RowKit
set_option linter.unusedVariables false
set_option linter.unusedSimpArgs false

set_option maxRecDepth 8000 in
set_option maxHeartbeats 16000000 in
theorem lawResolve (f : B) (a0 : Option Addr) (l0 c0 : Nat) (d : F) (k n : Int) (a : Option Addr) (l c : Nat) (w : World) (hB : SlB w a0 l0 f) (h : SlF w a l d) :
    Calls Try.prog 6 #[.slice a0 l0 c0, .agg #[.int .i64 k, .int .i64 n, .slice a l c]] w fun e u => e = .returned (.bool true) ∧ w.grownBy u none := by
  have g0 := World.grownBy_alloc w (.cells #[.int .i64 k, .int .i64 n, .slice a l c] 49) none
  have b0 := heap_alloc_new w (.cells #[.int .i64 k, .int .i64 n, .slice a l c] 49)
  have C1 : Hid _ := szBs f a0 l0 c0 1048576 _ (hB.none g0) (by omega) (by omega)
  by_cases hs : (f.size : Int) ≤ 1048576
  rotate_left
  · have e1 : szVB f 1048576 = -1 := if_neg hs
    rw [e1] at C1
    have G0 : Hid (w.grownBy _ none) := g0
    clear g0 b0 e1 h hs hB
    go_enter Try.func6, Try.ntmps6
    go_wp2_with fail
    refine Calls.mono C1.out ?_
    rintro e w1 ⟨rfl, hg⟩
    have G1 : Hid (w.grownBy w1 none) := grown_trans G0.out hg
    clear hg G0 C1
    simp only []
    go_wp2
    go_ret
    exact ⟨rfl, G1.out⟩
  have e1 : szVB f 1048576 = 1048576 - f.size := if_pos hs
  rw [e1] at C1
  have hpos : ¬ ((1048576 : Int) - f.size < 0) := by omega
  have hfs : f.size ≤ 1048576 := by omega
  have hfl := f.len_le
  have HD : Hid (SlF w a l d ∧ SlB w a0 l0 f) := ⟨h, hB⟩
  have L0 : Hid (w.grownBy _ none ∧ _ = some (Obj.cells #[.int .i64 k, .int .i64 n, .slice a l c] 49)) := ⟨g0, b0⟩
  clear g0 b0 e1 h hs hB
  go_enter Try.func6, Try.ntmps6
  go_wp2_with fail
  refine Calls.mono C1.out ?_
  rintro e w1 ⟨rfl, hg⟩
  obtain ⟨g0, b0⟩ := L0.out
  have g1 := grown_trans g0 hg
  have b1 := (hg.block _ (lt_of_block b0) (by simp)).trans b0
  clear hg L0 C1 g0 b0
  generalize ep : w.heap.size = p at b1
  simp only [ep]
  have L1 : Hid ((w.grownBy w1 none) ∧ (w1.heap[p]? = some (Obj.cells #[.int .i64 k, .int .i64 n, .slice a l c] 49)) ∧ (w.heap.size = p)) := ⟨g1, b1, ep⟩
  clear g1 b1 ep
  have C2 : Hid _ := szTr d k n a l c (1048576 - f.size) w1 (HD.out.1.none (L1.out.1)) (by omega) (by omega)
  generalize hq1 : (1048576 : Int) - f.size = q1 at *
  by_cases hs2 : (d.size : Int) ≤ q1
  rotate_left
  · have e1 : szV d q1 = -1 := if_neg hs2
    rw [e1] at C2
    clear e1 hs2
    obtain ⟨⟨x0_0, x0_1, x0_2⟩, -⟩ := three (L1.out.2.1)
    go_wp2_with fail
    refine Calls.mono (C2.out) ?_
    rintro e w2 ⟨rfl, hg⟩
    have L2 : Hid ((w.grownBy w2 none) ∧ (w2.heap[p]? = some (Obj.cells #[.int .i64 k, .int .i64 n, .slice a l c] 49)) ∧ (w.heap.size = p)) := ⟨grown_trans (L1.out.1) hg, (World.grownBy.block hg _ (lt_of_block (L1.out.2.1)) (by simp)).trans (L1.out.2.1), L1.out.2.2⟩
    clear L1 x0_0 x0_1 x0_2
    clear hg
    simp only []
    clear C2
    go_wp2
    go_ret
    exact ⟨rfl, L2.out.1⟩
  have e1 : szV d q1 = q1 - d.size := if_pos hs2
  rw [e1] at C2
  have hpos2 : ¬ (q1 - d.size < 0) := by omega
  have hds : d.size ≤ 1048576 := by omega
  clear e1 hs2
  obtain ⟨⟨x1_0, x1_1, x1_2⟩, -⟩ := three (L1.out.2.1)
  go_wp2_with fail
  refine Calls.mono (C2.out) ?_
  rintro e w2 ⟨rfl, hg⟩
  have L3 : Hid ((w.grownBy w2 none) ∧ (w2.heap[p]? = some (Obj.cells #[.int .i64 k, .int .i64 n, .slice a l c] 49)) ∧ (w.heap.size = p)) := ⟨grown_trans (L1.out.1) hg, (World.grownBy.block hg _ (lt_of_block (L1.out.2.1)) (by simp)).trans (L1.out.2.1), L1.out.2.2⟩
  clear L1 x1_0 x1_1 x1_2
  clear hg
  simp only []
  clear C2 hpos
  generalize hq2 : q1 - (d.size : Int) = q2 at *
  have hsz60 := resV_size f k n d
  have CSp : Hid (∀ (a5 : Option Addr) (c5 : Nat) (a6 : Option Addr) (c6 : Nat) (u : World), SlB u a5 l0 f → l0 ≤ c5 → SlF u a6 l d → Calls Try.prog 23 #[.slice a5 l0 c5, .agg #[.int .i64 k, .int .i64 n, .slice a6 l c6]] u fun e v => ResA u (resOk f k n d) (resV f k n d) e v) := fun a5 c5 a6 c6 u h5 h7 h6 => (specResolveT f a5 l0 c5 d k n a6 l c6 u h5 h7 h6).mono (fun _ _ h => h.res)
  have CIm : Hid (∀ (a5 : Option Addr) (c5 : Nat) (a6 : Option Addr) (c6 : Nat) (u : World), SlBD u 26 33 a5 l0 f → SlD u 26 a6 l d → Calls Try.prog 12 #[.slice a5 l0 c5, .agg #[.int .i64 k, .int .i64 n, .slice a6 l c6]] u fun e v => ResA u (resOk f k n d) (resV f k n d) e v) := fun a5 c5 a6 c6 u h5 h6 => (implResolveT f a5 l0 c5 d k n a6 l c6 u h5 h6).mono (fun _ _ h => h.res)
  generalize resV f k n d = RR at *
  obtain ⟨rk, rn, rd⟩ := RR
  generalize resOk f k n d = tb at *
  simp only [ResA] at CSp CIm hsz60
  have htb : (tb != tb) = false := by cases tb <;> rfl
  go_upto_region 8 with fail
  have FB8 : Hid (∀ u, w2.grownBy u none → w.grownBy u none ∧ Tri p 0 (.int .i64 k) (.int .i64 n) (.slice a l c) u) := fun u hu => ⟨grown_trans (L3.out.1) hu, Tri.none (three (L3.out.2.1)).1 hu⟩
  go_cut [6, 7] (fun sA sB wx => ∃ (pr : Nat) (ar : Option Addr) (lr cr : Nat) (bsr : List Nat), sA = .pointer (some ⟨pr, 0, none⟩) ∧ sB = .bool tb ∧ Hid (w2.grownBy wx none ∧ wx.heap[pr]? = some (Obj.cells #[.int .i64 rk, .int .i64 rn, .slice ar lr cr] 26) ∧ SlO wx 26 ar lr cr rd bsr ∧ bsr.Nodup ∧ w2.heap.size ≤ pr ∧ (∀ x ∈ bsr, w2.heap.size ≤ x)))
  case first =>
    go_wp2_with fail
    have HG : Hid (w2.grownBy w2.drew none) := grown_drew (World.grownBy.refl _ _)
    refine wp_region_held_drew (S := (fun v => Tri p 0 (.int .i64 k) (.int .i64 n) (.slice a l c) v)) (by kernel_rfl) (FB8.out _ HG.out).2 (fun hH => ?_)
    generalize w2.drew = t0 at *
    simp only [List.size_toArray, List.length_cons, List.length_nil, Nat.reduceAdd, Array.replicate, List.replicate]
    refine wpAnyH_take (i := 0) (v := ?_) rfl (by kernel_rfl) (by kernel_rfl) (by kernel_rfl) (fun _ _ _ h => h) (Or.inl ⟨by rfl, ?_⟩) hH ?_
    rotate_left
    · (intro v hS; obtain ⟨s0, s1, s2⟩ := hS; go_simp; try with_reducible rfl)
    simp only [Act.put, List.setIfInBounds_toArray, List.set_cons_zero, List.set_cons_succ, List.getElem_toArray, List.getElem_cons_succ, List.getElem_cons_zero]
    refine wpAnyH_take (i := 2) (v := ?_) rfl (by kernel_rfl) (by kernel_rfl) (by kernel_rfl) (fun _ _ _ h => h) (Or.inl ⟨by rfl, ?_⟩) hH ?_
    rotate_left
    · (intro v hS; obtain ⟨s0, s1, s2⟩ := hS; go_simp; try with_reducible rfl)
    simp only [Act.put, List.setIfInBounds_toArray, List.set_cons_zero, List.set_cons_succ, List.getElem_toArray, List.getElem_cons_succ, List.getElem_cons_zero]
    refine wpAnyH_ready (rs := [1, 8]) (by kernel_rfl) (by simp) ?_
    refine AllReadyH.cons rfl (fun K hK => ?_) (AllReadyH.cons rfl (fun K hK => ?_) AllReadyH.nil)
    · skip
      go_simp
      refine Calls.mono (toBs f a0 l0 c0 t0 hfs (HD.out.2.none (FB8.out _ HG.out).1)) ?_
      rintro e t1 ⟨aq, cq, bsq, rfl, hg, hnq⟩
      have HG2 : Hid (w2.grownBy t1 none) := grown_trans HG.out hg
      clear HG
      have HG := HG2
      clear HG2
      have XQ : Hid (SlOB t1 26 33 aq l0 cq f bsq) := hnq.1
      clear hg hnq
      refine hK.out _ _ (FB8.out _ HG.out).2 (fun hH2 => ?_)
      clear hK K hH
      have hH := hH2
      clear hH2
      simp only [Act.put, List.setIfInBounds_toArray, List.set_cons_zero, List.set_cons_succ, List.getElem_toArray, List.getElem_cons_succ, List.getElem_cons_zero]
      refine wpAnyH_ready (rs := [3, 8]) (by kernel_rfl) (by simp) ?_
      refine AllReadyH.cons rfl (fun K hK => ?_) (AllReadyH.cons rfl (fun K hK => ?_) AllReadyH.nil)
      · skip
        go_simp
        refine Calls.mono (toTr d k n a l c t1 (HD.out.1.none (FB8.out _ HG.out).1) hds) ?_
        rintro e t2 ⟨at', ct, bst, rfl, hg, hnt⟩
        have HG2 : Hid (w2.grownBy t2 none) := grown_trans HG.out hg
        have XQ2 : Hid (SlOB t2 26 33 aq l0 cq f bsq) := XQ.out.old hg
        clear HG XQ
        have HG := HG2
        have XQ := XQ2
        clear HG2 XQ2
        have XT : Hid (SlO t2 26 at' l ct d bst) := hnt.1
        clear hg hnt
        refine hK.out _ _ (FB8.out _ HG.out).2 (fun hH2 => ?_)
        clear hK K hH
        have hH := hH2
        clear hH2
        simp only [Act.put, List.setIfInBounds_toArray, List.set_cons_zero, List.set_cons_succ, List.getElem_toArray, List.getElem_cons_succ, List.getElem_cons_zero]
        refine wpAnyH_ready (rs := [4, 8]) (by kernel_rfl) (by simp) ?_
        refine AllReadyH.cons rfl (fun K hK => ?_) (AllReadyH.cons rfl (fun K hK => ?_) AllReadyH.nil)
        · skip
          go_simp
          refine Calls.mono (CSp.out aq cq at' ct t2 XQ.out.reads XQ.out.cap XT.out.reads) ?_
          rintro e t3 ⟨ar, lr, cr, bsr, rfl, hg, hnr⟩
          have XN : Hid (bsr.Nodup ∧ ∀ x ∈ bsr, w2.heap.size ≤ x) := ⟨hnr.2.1, fun x hx => Nat.le_trans HG.out.size (hnr.2.2 x hx)⟩
          have HG2 : Hid (w2.grownBy t3 none) := grown_trans HG.out hg
          clear HG XQ XT
          have HG := HG2
          clear HG2
          have XR : Hid (SlO t3 26 ar lr cr rd bsr) := hnr.1
          clear hg hnr
          refine hK.out _ _ (FB8.out _ HG.out).2 (fun hH2 => ?_)
          clear hK K hH
          have hH := hH2
          clear hH2
          simp only [Act.put, List.setIfInBounds_toArray, List.set_cons_zero, List.set_cons_succ, List.getElem_toArray, List.getElem_cons_succ, List.getElem_cons_zero]
          refine wpAnyH_take (i := 5) (v := ?_) rfl (by kernel_rfl) (by kernel_rfl) (by kernel_rfl) (fun _ _ _ h => h) (Or.inl ⟨by rfl, ?_⟩) hH ?_
          rotate_left
          · (intro v hS; go_simp; try with_reducible rfl)
          simp only [Act.put, List.setIfInBounds_toArray, List.set_cons_zero, List.set_cons_succ, List.getElem_toArray, List.getElem_cons_succ, List.getElem_cons_zero]
          refine wpAnyH_take (i := 6) (v := ?_) rfl (by kernel_rfl) (by kernel_rfl) (by kernel_rfl) (fun _ _ _ h => h) (Or.inl ⟨by rfl, ?_⟩) hH ?_
          rotate_left
          · (intro v hS; go_simp; try with_reducible rfl)
          simp only [Act.put, List.setIfInBounds_toArray, List.set_cons_zero, List.set_cons_succ, List.getElem_toArray, List.getElem_cons_succ, List.getElem_cons_zero]
          refine wpAnyH_take (i := 7) (v := ?_) rfl (by kernel_rfl) (by kernel_rfl) (by kernel_rfl) (fun _ _ _ h => h) (Or.inl ⟨by rfl, ?_⟩) hH ?_
          rotate_left
          · (intro v hS; go_simp; try with_reducible rfl)
          simp only [Act.put, List.setIfInBounds_toArray, List.set_cons_zero, List.set_cons_succ, List.getElem_toArray, List.getElem_cons_succ, List.getElem_cons_zero]
          refine wpAnyH_ready (rs := [8]) (by kernel_rfl) (by simp) ?_
          refine AllReadyH.cons rfl (fun K hK => ?_) AllReadyH.nil
          go_simp
          have ga := World.grownBy_alloc t3 (.cells #[.int .i64 0, .int .i64 0, .slice none 0 0] 26) none
          have ba := heap_alloc_new t3 (.cells #[.int .i64 0, .int .i64 0, .slice none 0 0] 26)
          have PG : Hid (w2.heap.size ≤ t3.heap.size) := HG.out.size
          have PN : Hid (t3.heap.size ∉ bsr) := fun hx => Nat.lt_irrefl _ (XR.out.lt _ hx)
          have HG2 : Hid (w2.grownBy (t3.alloc (.cells #[.int .i64 0, .int .i64 0, .slice none 0 0] 26)) none) := grown_trans HG.out ga
          have XR2 : Hid (SlO (t3.alloc (.cells #[.int .i64 0, .int .i64 0, .slice none 0 0] 26)) 26 ar lr cr rd bsr) := XR.out.old ga
          clear HG XR
          have HG := HG2
          have XR := XR2
          clear HG2 XR2
          have XP : Hid ((t3.alloc (.cells #[.int .i64 0, .int .i64 0, .slice none 0 0] 26)).heap[t3.heap.size]? = some (Obj.cells #[.int .i64 0, .int .i64 0, .slice none 0 0] 26)) := ba
          clear ga ba
          generalize t3.alloc (.cells #[.int .i64 0, .int .i64 0, .slice none 0 0] 26) = t4 at *
          generalize t3.heap.size = pr at *
          refine hK.out _ _ (FB8.out _ HG.out).2 (fun hH2 => ?_)
          clear hK K hH
          have hH := hH2
          clear hH2
          simp only [Act.put, List.setIfInBounds_toArray, List.set_cons_zero, List.set_cons_succ, List.getElem_toArray, List.getElem_cons_succ, List.getElem_cons_zero]
          refine wpAnyH_ready (rs := [9]) (by kernel_rfl) (by simp) ?_
          refine AllReadyH.cons rfl (fun K hK => ?_) AllReadyH.nil
          obtain ⟨⟨y0, y1, y2⟩, f0, f1, f2⟩ := three XP.out
          go_simp
          have ks := fill3 (.int .i64 rk) (.int .i64 rn) (.slice ar lr cr) XP.out
          have HF : Hid (w2.grownBy (((t4.setCell ⟨pr, 0, none⟩ (.int .i64 rk)).setCell ⟨pr, 1, none⟩ (.int .i64 rn)).setCell ⟨pr, 2, none⟩ (.slice ar lr cr)) none ∧ (((t4.setCell ⟨pr, 0, none⟩ (.int .i64 rk)).setCell ⟨pr, 1, none⟩ (.int .i64 rn)).setCell ⟨pr, 2, none⟩ (.slice ar lr cr)).heap[pr]? = some (Obj.cells #[.int .i64 rk, .int .i64 rn, .slice ar lr cr] 26) ∧ SlO (((t4.setCell ⟨pr, 0, none⟩ (.int .i64 rk)).setCell ⟨pr, 1, none⟩ (.int .i64 rn)).setCell ⟨pr, 2, none⟩ (.slice ar lr cr)) 26 ar lr cr rd bsr ∧ bsr.Nodup ∧ w2.heap.size ≤ pr ∧ (∀ x ∈ bsr, w2.heap.size ≤ x)) := ⟨grown_into HG.out ks.2 PG.out, ks.1, XR.out.kept ks.2 (fun y hy e => by injection e with e; subst e; exact PN.out hy), XN.out.1, PG.out, XN.out.2⟩
          clear ks HG XR XP XN PN PG y0 y1 y2 f0 f1 f2
          generalize ((t4.setCell ⟨pr, 0, none⟩ (.int .i64 rk)).setCell ⟨pr, 1, none⟩ (.int .i64 rn)).setCell ⟨pr, 2, none⟩ (.slice ar lr cr) = ue at *
          refine hK.out _ _ (FB8.out _ HF.out.1).2 (fun hH2 => ?_)
          clear hK K hH
          have hH := hH2
          clear hH2
          simp only [Act.put, List.setIfInBounds_toArray, List.set_cons_zero, List.set_cons_succ, List.getElem_toArray, List.getElem_cons_succ, List.getElem_cons_zero]
          refine wpAnyH_take (i := 10) (v := ?_) rfl (by kernel_rfl) (by kernel_rfl) (by kernel_rfl) (fun _ _ _ h => h) (Or.inl ⟨by rfl, ?_⟩) hH ?_
          rotate_left
          · (intro v hS; go_simp; try with_reducible rfl)
          simp only [Act.put, List.setIfInBounds_toArray, List.set_cons_zero, List.set_cons_succ, List.getElem_toArray, List.getElem_cons_succ, List.getElem_cons_zero]
          refine wpAnyH_done (by kernel_rfl) ?_ _
          clear hH
          go_wp2
          go_meet
          case rel => exact ⟨pr, ar, lr, cr, bsr, rfl, rfl, HF⟩
        · skip
          go_simp
          have ga := World.grownBy_alloc t2 (.cells #[.int .i64 0, .int .i64 0, .slice none 0 0] 26) none
          have ba := heap_alloc_new t2 (.cells #[.int .i64 0, .int .i64 0, .slice none 0 0] 26)
          have PG : Hid (w2.heap.size ≤ t2.heap.size) := HG.out.size
          have HG2 : Hid (w2.grownBy (t2.alloc (.cells #[.int .i64 0, .int .i64 0, .slice none 0 0] 26)) none) := grown_trans HG.out ga
          have XQ2 : Hid (SlOB (t2.alloc (.cells #[.int .i64 0, .int .i64 0, .slice none 0 0] 26)) 26 33 aq l0 cq f bsq) := XQ.out.old ga
          have XT2 : Hid (SlO (t2.alloc (.cells #[.int .i64 0, .int .i64 0, .slice none 0 0] 26)) 26 at' l ct d bst) := XT.out.old ga
          clear HG XQ XT
          have HG := HG2
          have XQ := XQ2
          have XT := XT2
          clear HG2 XQ2 XT2
          have XP : Hid ((t2.alloc (.cells #[.int .i64 0, .int .i64 0, .slice none 0 0] 26)).heap[t2.heap.size]? = some (Obj.cells #[.int .i64 0, .int .i64 0, .slice none 0 0] 26)) := ba
          clear ga ba
          generalize t2.alloc (.cells #[.int .i64 0, .int .i64 0, .slice none 0 0] 26) = t5 at *
          generalize t2.heap.size = pr at *
          refine hK.out _ _ (FB8.out _ HG.out).2 (fun hH2 => ?_)
          clear hK K hH
          have hH := hH2
          clear hH2
          simp only [Act.put, List.setIfInBounds_toArray, List.set_cons_zero, List.set_cons_succ, List.getElem_toArray, List.getElem_cons_succ, List.getElem_cons_zero]
          refine wpAnyH_ready (rs := [4]) (by kernel_rfl) (by simp) ?_
          refine AllReadyH.cons rfl (fun K hK => ?_) AllReadyH.nil
          go_simp
          refine Calls.mono (CSp.out aq cq at' ct t5 XQ.out.reads XQ.out.cap XT.out.reads) ?_
          rintro e t6 ⟨ar, lr, cr, bsr, rfl, hg, hnr⟩
          have XN : Hid (bsr.Nodup ∧ ∀ x ∈ bsr, w2.heap.size ≤ x) := ⟨hnr.2.1, fun x hx => Nat.le_trans HG.out.size (hnr.2.2 x hx)⟩
          have PN : Hid (pr ∉ bsr) := fun hx => Nat.lt_irrefl _ (Nat.lt_of_lt_of_le (lt_of_block XP.out) (hnr.2.2 _ hx))
          have HG2 : Hid (w2.grownBy t6 none) := grown_trans HG.out hg
          have XP2 : Hid (t6.heap[pr]? = some (Obj.cells #[.int .i64 0, .int .i64 0, .slice none 0 0] 26)) := (World.grownBy.block hg _ (lt_of_block XP.out) (by simp)).trans XP.out
          clear HG XQ XT XP
          have HG := HG2
          have XP := XP2
          clear HG2 XP2
          have XR : Hid (SlO t6 26 ar lr cr rd bsr) := hnr.1
          clear hg hnr
          refine hK.out _ _ (FB8.out _ HG.out).2 (fun hH2 => ?_)
          clear hK K hH
          have hH := hH2
          clear hH2
          simp only [Act.put, List.setIfInBounds_toArray, List.set_cons_zero, List.set_cons_succ, List.getElem_toArray, List.getElem_cons_succ, List.getElem_cons_zero]
          refine wpAnyH_take (i := 5) (v := ?_) rfl (by kernel_rfl) (by kernel_rfl) (by kernel_rfl) (fun _ _ _ h => h) (Or.inl ⟨by rfl, ?_⟩) hH ?_
          rotate_left
          · (intro v hS; go_simp; try with_reducible rfl)
          simp only [Act.put, List.setIfInBounds_toArray, List.set_cons_zero, List.set_cons_succ, List.getElem_toArray, List.getElem_cons_succ, List.getElem_cons_zero]
          refine wpAnyH_take (i := 6) (v := ?_) rfl (by kernel_rfl) (by kernel_rfl) (by kernel_rfl) (fun _ _ _ h => h) (Or.inl ⟨by rfl, ?_⟩) hH ?_
          rotate_left
          · (intro v hS; go_simp; try with_reducible rfl)
          simp only [Act.put, List.setIfInBounds_toArray, List.set_cons_zero, List.set_cons_succ, List.getElem_toArray, List.getElem_cons_succ, List.getElem_cons_zero]
          refine wpAnyH_take (i := 7) (v := ?_) rfl (by kernel_rfl) (by kernel_rfl) (by kernel_rfl) (fun _ _ _ h => h) (Or.inl ⟨by rfl, ?_⟩) hH ?_
          rotate_left
          · (intro v hS; go_simp; try with_reducible rfl)
          simp only [Act.put, List.setIfInBounds_toArray, List.set_cons_zero, List.set_cons_succ, List.getElem_toArray, List.getElem_cons_succ, List.getElem_cons_zero]
          refine wpAnyH_ready (rs := [9]) (by kernel_rfl) (by simp) ?_
          refine AllReadyH.cons rfl (fun K hK => ?_) AllReadyH.nil
          obtain ⟨⟨y0, y1, y2⟩, f0, f1, f2⟩ := three XP.out
          go_simp
          have ks := fill3 (.int .i64 rk) (.int .i64 rn) (.slice ar lr cr) XP.out
          have HF : Hid (w2.grownBy (((t6.setCell ⟨pr, 0, none⟩ (.int .i64 rk)).setCell ⟨pr, 1, none⟩ (.int .i64 rn)).setCell ⟨pr, 2, none⟩ (.slice ar lr cr)) none ∧ (((t6.setCell ⟨pr, 0, none⟩ (.int .i64 rk)).setCell ⟨pr, 1, none⟩ (.int .i64 rn)).setCell ⟨pr, 2, none⟩ (.slice ar lr cr)).heap[pr]? = some (Obj.cells #[.int .i64 rk, .int .i64 rn, .slice ar lr cr] 26) ∧ SlO (((t6.setCell ⟨pr, 0, none⟩ (.int .i64 rk)).setCell ⟨pr, 1, none⟩ (.int .i64 rn)).setCell ⟨pr, 2, none⟩ (.slice ar lr cr)) 26 ar lr cr rd bsr ∧ bsr.Nodup ∧ w2.heap.size ≤ pr ∧ (∀ x ∈ bsr, w2.heap.size ≤ x)) := ⟨grown_into HG.out ks.2 PG.out, ks.1, XR.out.kept ks.2 (fun y hy e => by injection e with e; subst e; exact PN.out hy), XN.out.1, PG.out, XN.out.2⟩
          clear ks HG XR XP XN PN PG y0 y1 y2 f0 f1 f2
          generalize ((t6.setCell ⟨pr, 0, none⟩ (.int .i64 rk)).setCell ⟨pr, 1, none⟩ (.int .i64 rn)).setCell ⟨pr, 2, none⟩ (.slice ar lr cr) = ue at *
          refine hK.out _ _ (FB8.out _ HF.out.1).2 (fun hH2 => ?_)
          clear hK K hH
          have hH := hH2
          clear hH2
          simp only [Act.put, List.setIfInBounds_toArray, List.set_cons_zero, List.set_cons_succ, List.getElem_toArray, List.getElem_cons_succ, List.getElem_cons_zero]
          refine wpAnyH_take (i := 10) (v := ?_) rfl (by kernel_rfl) (by kernel_rfl) (by kernel_rfl) (fun _ _ _ h => h) (Or.inl ⟨by rfl, ?_⟩) hH ?_
          rotate_left
          · (intro v hS; go_simp; try with_reducible rfl)
          simp only [Act.put, List.setIfInBounds_toArray, List.set_cons_zero, List.set_cons_succ, List.getElem_toArray, List.getElem_cons_succ, List.getElem_cons_zero]
          refine wpAnyH_done (by kernel_rfl) ?_ _
          clear hH
          go_wp2
          go_meet
          case rel => exact ⟨pr, ar, lr, cr, bsr, rfl, rfl, HF⟩
      · skip
        go_simp
        have ga := World.grownBy_alloc t1 (.cells #[.int .i64 0, .int .i64 0, .slice none 0 0] 26) none
        have ba := heap_alloc_new t1 (.cells #[.int .i64 0, .int .i64 0, .slice none 0 0] 26)
        have PG : Hid (w2.heap.size ≤ t1.heap.size) := HG.out.size
        have HG2 : Hid (w2.grownBy (t1.alloc (.cells #[.int .i64 0, .int .i64 0, .slice none 0 0] 26)) none) := grown_trans HG.out ga
        have XQ2 : Hid (SlOB (t1.alloc (.cells #[.int .i64 0, .int .i64 0, .slice none 0 0] 26)) 26 33 aq l0 cq f bsq) := XQ.out.old ga
        clear HG XQ
        have HG := HG2
        have XQ := XQ2
        clear HG2 XQ2
        have XP : Hid ((t1.alloc (.cells #[.int .i64 0, .int .i64 0, .slice none 0 0] 26)).heap[t1.heap.size]? = some (Obj.cells #[.int .i64 0, .int .i64 0, .slice none 0 0] 26)) := ba
        clear ga ba
        generalize t1.alloc (.cells #[.int .i64 0, .int .i64 0, .slice none 0 0] 26) = t7 at *
        generalize t1.heap.size = pr at *
        refine hK.out _ _ (FB8.out _ HG.out).2 (fun hH2 => ?_)
        clear hK K hH
        have hH := hH2
        clear hH2
        simp only [Act.put, List.setIfInBounds_toArray, List.set_cons_zero, List.set_cons_succ, List.getElem_toArray, List.getElem_cons_succ, List.getElem_cons_zero]
        refine wpAnyH_ready (rs := [3]) (by kernel_rfl) (by simp) ?_
        refine AllReadyH.cons rfl (fun K hK => ?_) AllReadyH.nil
        go_simp
        refine Calls.mono (toTr d k n a l c t7 (HD.out.1.none (FB8.out _ HG.out).1) hds) ?_
        rintro e t8 ⟨at', ct, bst, rfl, hg, hnt⟩
        have HG2 : Hid (w2.grownBy t8 none) := grown_trans HG.out hg
        have XQ2 : Hid (SlOB t8 26 33 aq l0 cq f bsq) := XQ.out.old hg
        have XP2 : Hid (t8.heap[pr]? = some (Obj.cells #[.int .i64 0, .int .i64 0, .slice none 0 0] 26)) := (World.grownBy.block hg _ (lt_of_block XP.out) (by simp)).trans XP.out
        clear HG XQ XP
        have HG := HG2
        have XQ := XQ2
        have XP := XP2
        clear HG2 XQ2 XP2
        have XT : Hid (SlO t8 26 at' l ct d bst) := hnt.1
        clear hg hnt
        refine hK.out _ _ (FB8.out _ HG.out).2 (fun hH2 => ?_)
        clear hK K hH
        have hH := hH2
        clear hH2
        simp only [Act.put, List.setIfInBounds_toArray, List.set_cons_zero, List.set_cons_succ, List.getElem_toArray, List.getElem_cons_succ, List.getElem_cons_zero]
        refine wpAnyH_ready (rs := [4]) (by kernel_rfl) (by simp) ?_
        refine AllReadyH.cons rfl (fun K hK => ?_) AllReadyH.nil
        go_simp
        refine Calls.mono (CSp.out aq cq at' ct t8 XQ.out.reads XQ.out.cap XT.out.reads) ?_
        rintro e t9 ⟨ar, lr, cr, bsr, rfl, hg, hnr⟩
        have XN : Hid (bsr.Nodup ∧ ∀ x ∈ bsr, w2.heap.size ≤ x) := ⟨hnr.2.1, fun x hx => Nat.le_trans HG.out.size (hnr.2.2 x hx)⟩
        have PN : Hid (pr ∉ bsr) := fun hx => Nat.lt_irrefl _ (Nat.lt_of_lt_of_le (lt_of_block XP.out) (hnr.2.2 _ hx))
        have HG2 : Hid (w2.grownBy t9 none) := grown_trans HG.out hg
        have XP2 : Hid (t9.heap[pr]? = some (Obj.cells #[.int .i64 0, .int .i64 0, .slice none 0 0] 26)) := (World.grownBy.block hg _ (lt_of_block XP.out) (by simp)).trans XP.out
        clear HG XQ XT XP
        have HG := HG2
        have XP := XP2
        clear HG2 XP2
        have XR : Hid (SlO t9 26 ar lr cr rd bsr) := hnr.1
        clear hg hnr
        refine hK.out _ _ (FB8.out _ HG.out).2 (fun hH2 => ?_)
        clear hK K hH
        have hH := hH2
        clear hH2
        simp only [Act.put, List.setIfInBounds_toArray, List.set_cons_zero, List.set_cons_succ, List.getElem_toArray, List.getElem_cons_succ, List.getElem_cons_zero]
        refine wpAnyH_take (i := 5) (v := ?_) rfl (by kernel_rfl) (by kernel_rfl) (by kernel_rfl) (fun _ _ _ h => h) (Or.inl ⟨by rfl, ?_⟩) hH ?_
        rotate_left
        · (intro v hS; go_simp; try with_reducible rfl)
        simp only [Act.put, List.setIfInBounds_toArray, List.set_cons_zero, List.set_cons_succ, List.getElem_toArray, List.getElem_cons_succ, List.getElem_cons_zero]
        refine wpAnyH_take (i := 6) (v := ?_) rfl (by kernel_rfl) (by kernel_rfl) (by kernel_rfl) (fun _ _ _ h => h) (Or.inl ⟨by rfl, ?_⟩) hH ?_
        rotate_left
        · (intro v hS; go_simp; try with_reducible rfl)
        simp only [Act.put, List.setIfInBounds_toArray, List.set_cons_zero, List.set_cons_succ, List.getElem_toArray, List.getElem_cons_succ, List.getElem_cons_zero]
        refine wpAnyH_take (i := 7) (v := ?_) rfl (by kernel_rfl) (by kernel_rfl) (by kernel_rfl) (fun _ _ _ h => h) (Or.inl ⟨by rfl, ?_⟩) hH ?_
        rotate_left
        · (intro v hS; go_simp; try with_reducible rfl)
        simp only [Act.put, List.setIfInBounds_toArray, List.set_cons_zero, List.set_cons_succ, List.getElem_toArray, List.getElem_cons_succ, List.getElem_cons_zero]
        refine wpAnyH_ready (rs := [9]) (by kernel_rfl) (by simp) ?_
        refine AllReadyH.cons rfl (fun K hK => ?_) AllReadyH.nil
        obtain ⟨⟨y0, y1, y2⟩, f0, f1, f2⟩ := three XP.out
        go_simp
        have ks := fill3 (.int .i64 rk) (.int .i64 rn) (.slice ar lr cr) XP.out
        have HF : Hid (w2.grownBy (((t9.setCell ⟨pr, 0, none⟩ (.int .i64 rk)).setCell ⟨pr, 1, none⟩ (.int .i64 rn)).setCell ⟨pr, 2, none⟩ (.slice ar lr cr)) none ∧ (((t9.setCell ⟨pr, 0, none⟩ (.int .i64 rk)).setCell ⟨pr, 1, none⟩ (.int .i64 rn)).setCell ⟨pr, 2, none⟩ (.slice ar lr cr)).heap[pr]? = some (Obj.cells #[.int .i64 rk, .int .i64 rn, .slice ar lr cr] 26) ∧ SlO (((t9.setCell ⟨pr, 0, none⟩ (.int .i64 rk)).setCell ⟨pr, 1, none⟩ (.int .i64 rn)).setCell ⟨pr, 2, none⟩ (.slice ar lr cr)) 26 ar lr cr rd bsr ∧ bsr.Nodup ∧ w2.heap.size ≤ pr ∧ (∀ x ∈ bsr, w2.heap.size ≤ x)) := ⟨grown_into HG.out ks.2 PG.out, ks.1, XR.out.kept ks.2 (fun y hy e => by injection e with e; subst e; exact PN.out hy), XN.out.1, PG.out, XN.out.2⟩
        clear ks HG XR XP XN PN PG y0 y1 y2 f0 f1 f2
        generalize ((t9.setCell ⟨pr, 0, none⟩ (.int .i64 rk)).setCell ⟨pr, 1, none⟩ (.int .i64 rn)).setCell ⟨pr, 2, none⟩ (.slice ar lr cr) = ue at *
        refine hK.out _ _ (FB8.out _ HF.out.1).2 (fun hH2 => ?_)
        clear hK K hH
        have hH := hH2
        clear hH2
        simp only [Act.put, List.setIfInBounds_toArray, List.set_cons_zero, List.set_cons_succ, List.getElem_toArray, List.getElem_cons_succ, List.getElem_cons_zero]
        refine wpAnyH_take (i := 10) (v := ?_) rfl (by kernel_rfl) (by kernel_rfl) (by kernel_rfl) (fun _ _ _ h => h) (Or.inl ⟨by rfl, ?_⟩) hH ?_
        rotate_left
        · (intro v hS; go_simp; try with_reducible rfl)
        simp only [Act.put, List.setIfInBounds_toArray, List.set_cons_zero, List.set_cons_succ, List.getElem_toArray, List.getElem_cons_succ, List.getElem_cons_zero]
        refine wpAnyH_done (by kernel_rfl) ?_ _
        clear hH
        go_wp2
        go_meet
        case rel => exact ⟨pr, ar, lr, cr, bsr, rfl, rfl, HF⟩
    · skip
      go_simp
      have ga := World.grownBy_alloc t0 (.cells #[.int .i64 0, .int .i64 0, .slice none 0 0] 26) none
      have ba := heap_alloc_new t0 (.cells #[.int .i64 0, .int .i64 0, .slice none 0 0] 26)
      have PG : Hid (w2.heap.size ≤ t0.heap.size) := HG.out.size
      have HG2 : Hid (w2.grownBy (t0.alloc (.cells #[.int .i64 0, .int .i64 0, .slice none 0 0] 26)) none) := grown_trans HG.out ga
      clear HG
      have HG := HG2
      clear HG2
      have XP : Hid ((t0.alloc (.cells #[.int .i64 0, .int .i64 0, .slice none 0 0] 26)).heap[t0.heap.size]? = some (Obj.cells #[.int .i64 0, .int .i64 0, .slice none 0 0] 26)) := ba
      clear ga ba
      generalize t0.alloc (.cells #[.int .i64 0, .int .i64 0, .slice none 0 0] 26) = t10 at *
      generalize t0.heap.size = pr at *
      refine hK.out _ _ (FB8.out _ HG.out).2 (fun hH2 => ?_)
      clear hK K hH
      have hH := hH2
      clear hH2
      simp only [Act.put, List.setIfInBounds_toArray, List.set_cons_zero, List.set_cons_succ, List.getElem_toArray, List.getElem_cons_succ, List.getElem_cons_zero]
      refine wpAnyH_ready (rs := [1]) (by kernel_rfl) (by simp) ?_
      refine AllReadyH.cons rfl (fun K hK => ?_) AllReadyH.nil
      go_simp
      refine Calls.mono (toBs f a0 l0 c0 t10 hfs (HD.out.2.none (FB8.out _ HG.out).1)) ?_
      rintro e t11 ⟨aq, cq, bsq, rfl, hg, hnq⟩
      have HG2 : Hid (w2.grownBy t11 none) := grown_trans HG.out hg
      have XP2 : Hid (t11.heap[pr]? = some (Obj.cells #[.int .i64 0, .int .i64 0, .slice none 0 0] 26)) := (World.grownBy.block hg _ (lt_of_block XP.out) (by simp)).trans XP.out
      clear HG XP
      have HG := HG2
      have XP := XP2
      clear HG2 XP2
      have XQ : Hid (SlOB t11 26 33 aq l0 cq f bsq) := hnq.1
      clear hg hnq
      refine hK.out _ _ (FB8.out _ HG.out).2 (fun hH2 => ?_)
      clear hK K hH
      have hH := hH2
      clear hH2
      simp only [Act.put, List.setIfInBounds_toArray, List.set_cons_zero, List.set_cons_succ, List.getElem_toArray, List.getElem_cons_succ, List.getElem_cons_zero]
      refine wpAnyH_ready (rs := [3]) (by kernel_rfl) (by simp) ?_
      refine AllReadyH.cons rfl (fun K hK => ?_) AllReadyH.nil
      go_simp
      refine Calls.mono (toTr d k n a l c t11 (HD.out.1.none (FB8.out _ HG.out).1) hds) ?_
      rintro e t12 ⟨at', ct, bst, rfl, hg, hnt⟩
      have HG2 : Hid (w2.grownBy t12 none) := grown_trans HG.out hg
      have XQ2 : Hid (SlOB t12 26 33 aq l0 cq f bsq) := XQ.out.old hg
      have XP2 : Hid (t12.heap[pr]? = some (Obj.cells #[.int .i64 0, .int .i64 0, .slice none 0 0] 26)) := (World.grownBy.block hg _ (lt_of_block XP.out) (by simp)).trans XP.out
      clear HG XQ XP
      have HG := HG2
      have XQ := XQ2
      have XP := XP2
      clear HG2 XQ2 XP2
      have XT : Hid (SlO t12 26 at' l ct d bst) := hnt.1
      clear hg hnt
      refine hK.out _ _ (FB8.out _ HG.out).2 (fun hH2 => ?_)
      clear hK K hH
      have hH := hH2
      clear hH2
      simp only [Act.put, List.setIfInBounds_toArray, List.set_cons_zero, List.set_cons_succ, List.getElem_toArray, List.getElem_cons_succ, List.getElem_cons_zero]
      refine wpAnyH_ready (rs := [4]) (by kernel_rfl) (by simp) ?_
      refine AllReadyH.cons rfl (fun K hK => ?_) AllReadyH.nil
      go_simp
      refine Calls.mono (CSp.out aq cq at' ct t12 XQ.out.reads XQ.out.cap XT.out.reads) ?_
      rintro e t13 ⟨ar, lr, cr, bsr, rfl, hg, hnr⟩
      have XN : Hid (bsr.Nodup ∧ ∀ x ∈ bsr, w2.heap.size ≤ x) := ⟨hnr.2.1, fun x hx => Nat.le_trans HG.out.size (hnr.2.2 x hx)⟩
      have PN : Hid (pr ∉ bsr) := fun hx => Nat.lt_irrefl _ (Nat.lt_of_lt_of_le (lt_of_block XP.out) (hnr.2.2 _ hx))
      have HG2 : Hid (w2.grownBy t13 none) := grown_trans HG.out hg
      have XP2 : Hid (t13.heap[pr]? = some (Obj.cells #[.int .i64 0, .int .i64 0, .slice none 0 0] 26)) := (World.grownBy.block hg _ (lt_of_block XP.out) (by simp)).trans XP.out
      clear HG XQ XT XP
      have HG := HG2
      have XP := XP2
      clear HG2 XP2
      have XR : Hid (SlO t13 26 ar lr cr rd bsr) := hnr.1
      clear hg hnr
      refine hK.out _ _ (FB8.out _ HG.out).2 (fun hH2 => ?_)
      clear hK K hH
      have hH := hH2
      clear hH2
      simp only [Act.put, List.setIfInBounds_toArray, List.set_cons_zero, List.set_cons_succ, List.getElem_toArray, List.getElem_cons_succ, List.getElem_cons_zero]
      refine wpAnyH_take (i := 5) (v := ?_) rfl (by kernel_rfl) (by kernel_rfl) (by kernel_rfl) (fun _ _ _ h => h) (Or.inl ⟨by rfl, ?_⟩) hH ?_
      rotate_left
      · (intro v hS; go_simp; try with_reducible rfl)
      simp only [Act.put, List.setIfInBounds_toArray, List.set_cons_zero, List.set_cons_succ, List.getElem_toArray, List.getElem_cons_succ, List.getElem_cons_zero]
      refine wpAnyH_take (i := 6) (v := ?_) rfl (by kernel_rfl) (by kernel_rfl) (by kernel_rfl) (fun _ _ _ h => h) (Or.inl ⟨by rfl, ?_⟩) hH ?_
      rotate_left
      · (intro v hS; go_simp; try with_reducible rfl)
      simp only [Act.put, List.setIfInBounds_toArray, List.set_cons_zero, List.set_cons_succ, List.getElem_toArray, List.getElem_cons_succ, List.getElem_cons_zero]
      refine wpAnyH_take (i := 7) (v := ?_) rfl (by kernel_rfl) (by kernel_rfl) (by kernel_rfl) (fun _ _ _ h => h) (Or.inl ⟨by rfl, ?_⟩) hH ?_
      rotate_left
      · (intro v hS; go_simp; try with_reducible rfl)
      simp only [Act.put, List.setIfInBounds_toArray, List.set_cons_zero, List.set_cons_succ, List.getElem_toArray, List.getElem_cons_succ, List.getElem_cons_zero]
      refine wpAnyH_ready (rs := [9]) (by kernel_rfl) (by simp) ?_
      refine AllReadyH.cons rfl (fun K hK => ?_) AllReadyH.nil
      obtain ⟨⟨y0, y1, y2⟩, f0, f1, f2⟩ := three XP.out
      go_simp
      have ks := fill3 (.int .i64 rk) (.int .i64 rn) (.slice ar lr cr) XP.out
      have HF : Hid (w2.grownBy (((t13.setCell ⟨pr, 0, none⟩ (.int .i64 rk)).setCell ⟨pr, 1, none⟩ (.int .i64 rn)).setCell ⟨pr, 2, none⟩ (.slice ar lr cr)) none ∧ (((t13.setCell ⟨pr, 0, none⟩ (.int .i64 rk)).setCell ⟨pr, 1, none⟩ (.int .i64 rn)).setCell ⟨pr, 2, none⟩ (.slice ar lr cr)).heap[pr]? = some (Obj.cells #[.int .i64 rk, .int .i64 rn, .slice ar lr cr] 26) ∧ SlO (((t13.setCell ⟨pr, 0, none⟩ (.int .i64 rk)).setCell ⟨pr, 1, none⟩ (.int .i64 rn)).setCell ⟨pr, 2, none⟩ (.slice ar lr cr)) 26 ar lr cr rd bsr ∧ bsr.Nodup ∧ w2.heap.size ≤ pr ∧ (∀ x ∈ bsr, w2.heap.size ≤ x)) := ⟨grown_into HG.out ks.2 PG.out, ks.1, XR.out.kept ks.2 (fun y hy e => by injection e with e; subst e; exact PN.out hy), XN.out.1, PG.out, XN.out.2⟩
      clear ks HG XR XP XN PN PG y0 y1 y2 f0 f1 f2
      generalize ((t13.setCell ⟨pr, 0, none⟩ (.int .i64 rk)).setCell ⟨pr, 1, none⟩ (.int .i64 rn)).setCell ⟨pr, 2, none⟩ (.slice ar lr cr) = ue at *
      refine hK.out _ _ (FB8.out _ HF.out.1).2 (fun hH2 => ?_)
      clear hK K hH
      have hH := hH2
      clear hH2
      simp only [Act.put, List.setIfInBounds_toArray, List.set_cons_zero, List.set_cons_succ, List.getElem_toArray, List.getElem_cons_succ, List.getElem_cons_zero]
      refine wpAnyH_take (i := 10) (v := ?_) rfl (by kernel_rfl) (by kernel_rfl) (by kernel_rfl) (fun _ _ _ h => h) (Or.inl ⟨by rfl, ?_⟩) hH ?_
      rotate_left
      · (intro v hS; go_simp; try with_reducible rfl)
      simp only [Act.put, List.setIfInBounds_toArray, List.set_cons_zero, List.set_cons_succ, List.getElem_toArray, List.getElem_cons_succ, List.getElem_cons_zero]
      refine wpAnyH_done (by kernel_rfl) ?_ _
      clear hH
      go_wp2
      go_meet
      case rel => exact ⟨pr, ar, lr, cr, bsr, rfl, rfl, HF⟩
  case rest =>
  obtain ⟨pw, aw, lw, cw, bsw, rfl, rfl, HR8⟩ := hcut
  clear FB8
  have wc8 : ∃ wz, wz = wc := ⟨_, rfl⟩
  obtain ⟨wz, ewz⟩ := wc8
  rw [← ewz] at HR8 ⊢
  clear ewz
  have L4 : Hid ((w.grownBy wz none) ∧ (wz.heap[p]? = some (Obj.cells #[.int .i64 k, .int .i64 n, .slice a l c] 49)) ∧ (w.heap.size = p) ∧ (wz.heap[pw]? = some (Obj.cells #[.int .i64 rk, .int .i64 rn, .slice aw lw cw] 26)) ∧ (SlO wz 26 (aw) lw cw (rd) bsw) ∧ (∀ x ∈ bsw, x < wz.heap.size) ∧ (p < wz.heap.size) ∧ (pw < wz.heap.size)) := ⟨grown_trans (L3.out.1) HR8.out.1, (World.grownBy.block HR8.out.1 _ (lt_of_block (L3.out.2.1)) (by simp)).trans (L3.out.2.1), L3.out.2.2, HR8.out.2.1, HR8.out.2.2.1, HR8.out.2.2.1.lt, lt_of_block ((World.grownBy.block HR8.out.1 _ (lt_of_block (L3.out.2.1)) (by simp)).trans (L3.out.2.1)), lt_of_block HR8.out.2.1⟩
  clear L3
  clear HR8
  generalize ez : wz.heap.size = z0 at *
  have EZ : Hid (wz.heap.size = z0) := ez
  clear ez
  go_wp2_with fail
  refine Calls.mono (toBs f a0 l0 c0 wz hfs (HD.out.2.none (L4.out.1))) ?_
  rintro e w6 ⟨a5, c5, bs5, rfl, hg, hn5⟩
  have L5 : Hid ((w.grownBy w6 none) ∧ (w6.heap[p]? = some (Obj.cells #[.int .i64 k, .int .i64 n, .slice a l c] 49)) ∧ (w.heap.size = p) ∧ (w6.heap[pw]? = some (Obj.cells #[.int .i64 rk, .int .i64 rn, .slice aw lw cw] 26)) ∧ (SlO w6 26 (aw) lw cw (rd) bsw) ∧ (∀ x ∈ bsw, x < z0) ∧ (p < z0) ∧ (pw < z0) ∧ (SlOB w6 26 33 (a5) l0 c5 (f) bs5) ∧ (bs5.Nodup) ∧ (∀ x ∈ bs5, z0 ≤ x ∧ x < w6.heap.size) ∧ (z0 ≤ w6.heap.size)) := ⟨grown_trans (L4.out.1) hg, (World.grownBy.block hg _ (lt_of_block (L4.out.2.1)) (by simp)).trans (L4.out.2.1), L4.out.2.2.1, (World.grownBy.block hg _ (lt_of_block (L4.out.2.2.2.1)) (by simp)).trans (L4.out.2.2.2.1), SlO.old (L4.out.2.2.2.2.1) hg, L4.out.2.2.2.2.2.1, L4.out.2.2.2.2.2.2.1, L4.out.2.2.2.2.2.2.2, hn5.1, hn5.2.1, fun x hx => ⟨by have h1 := hn5.2.2 x hx; rw [EZ.out] at h1; exact h1, hn5.1.lt x hx⟩, by have h1 := hg.size; rw [EZ.out] at h1; exact h1⟩
  clear L4
  clear hg hn5 EZ
  simp only []
  obtain ⟨⟨x2_0, x2_1, x2_2⟩, -⟩ := three (L5.out.2.1)
  go_wp2_with fail
  generalize e6 : w6.heap.size = z6 at *
  have E6 : Hid (w6.heap.size = z6) := e6
  clear e6
  refine Calls.mono (toTr d k n a l c w6 (HD.out.1.none (L5.out.1)) hds) ?_
  rintro e w7 ⟨a4, c4, bs4, rfl, hg, hn4⟩
  have ga := World.grownBy_alloc w7 (.cells #[.int .i64 k, .int .i64 n, .slice a4 l c4] 26) none
  have ba := heap_alloc_new w7 (.cells #[.int .i64 k, .int .i64 n, .slice a4 l c4] 26)
  have hgg := grown_trans hg ga
  have L6 : Hid ((w.grownBy (w7.alloc (.cells #[.int .i64 k, .int .i64 n, .slice a4 l c4] 26)) none) ∧ ((w7.alloc (.cells #[.int .i64 k, .int .i64 n, .slice a4 l c4] 26)).heap[p]? = some (Obj.cells #[.int .i64 k, .int .i64 n, .slice a l c] 49)) ∧ (w.heap.size = p) ∧ ((w7.alloc (.cells #[.int .i64 k, .int .i64 n, .slice a4 l c4] 26)).heap[pw]? = some (Obj.cells #[.int .i64 rk, .int .i64 rn, .slice aw lw cw] 26)) ∧ (SlO (w7.alloc (.cells #[.int .i64 k, .int .i64 n, .slice a4 l c4] 26)) 26 (aw) lw cw (rd) bsw) ∧ (∀ x ∈ bsw, x < z0) ∧ (p < z0) ∧ (pw < z0) ∧ (SlOB (w7.alloc (.cells #[.int .i64 k, .int .i64 n, .slice a4 l c4] 26)) 26 33 (a5) l0 c5 (f) bs5) ∧ (bs5.Nodup) ∧ (∀ x ∈ bs5, z0 ≤ x ∧ x < z6) ∧ (z0 ≤ z6) ∧ ((w7.alloc (.cells #[.int .i64 k, .int .i64 n, .slice a4 l c4] 26)).heap[w7.heap.size]? = some (Obj.cells #[.int .i64 k, .int .i64 n, .slice a4 l c4] 26)) ∧ (SlO (w7.alloc (.cells #[.int .i64 k, .int .i64 n, .slice a4 l c4] 26)) 26 (a4) l c4 (d) bs4) ∧ (bs4.Nodup) ∧ (∀ x ∈ bs4, z6 ≤ x ∧ x < w7.heap.size) ∧ (z6 ≤ w7.heap.size)) := ⟨grown_trans (L5.out.1) hgg, (World.grownBy.block hgg _ (lt_of_block (L5.out.2.1)) (by simp)).trans (L5.out.2.1), L5.out.2.2.1, (World.grownBy.block hgg _ (lt_of_block (L5.out.2.2.2.1)) (by simp)).trans (L5.out.2.2.2.1), SlO.old (L5.out.2.2.2.2.1) hgg, L5.out.2.2.2.2.2.1, L5.out.2.2.2.2.2.2.1, L5.out.2.2.2.2.2.2.2.1, SlOB.old (L5.out.2.2.2.2.2.2.2.2.1) hgg, L5.out.2.2.2.2.2.2.2.2.2.1, L5.out.2.2.2.2.2.2.2.2.2.2.1, L5.out.2.2.2.2.2.2.2.2.2.2.2, ba, hn4.1.old ga, hn4.2.1, fun x hx => ⟨by have h1 := hn4.2.2 x hx; rw [E6.out] at h1; exact h1, hn4.1.lt x hx⟩, by have h1 := hg.size; rw [E6.out] at h1; exact h1⟩
  clear L5 x2_0 x2_1 x2_2
  clear hg ga ba hgg
  simp only []
  clear hn4 E6
  obtain ⟨⟨x3_0, x3_1, x3_2⟩, -⟩ := three (L6.out.2.2.2.2.2.2.2.2.2.2.2.2.1)
  go_wp2_with fail
  generalize (w7.alloc (.cells #[.int .i64 k, .int .i64 n, .slice a4 l c4] 26)) = u7 at *
  generalize w7.heap.size = px at *
  have hpx7 := lt_of_block (L6.out.2.2.2.2.2.2.2.2.2.2.2.2.1)
  refine Calls.mono (CIm.out a5 c5 a4 c4 u7 (SlOB.typed (L6.out.2.2.2.2.2.2.2.2.1)) (SlO.typed (L6.out.2.2.2.2.2.2.2.2.2.2.2.2.2.1))) ?_
  rintro e w8 ⟨ag, lg, cg, bsg, he, hg, hw⟩
  subst he
  have ga := World.grownBy_alloc w8 (.cells #[.int .i64 rk, .int .i64 rn, .slice ag lg cg] 26) none
  have ba := heap_alloc_new w8 (.cells #[.int .i64 rk, .int .i64 rn, .slice ag lg cg] 26)
  have hgg := grown_trans hg ga
  have L7 : Hid ((w.grownBy (w8.alloc (.cells #[.int .i64 rk, .int .i64 rn, .slice ag lg cg] 26)) none) ∧ ((w8.alloc (.cells #[.int .i64 rk, .int .i64 rn, .slice ag lg cg] 26)).heap[p]? = some (Obj.cells #[.int .i64 k, .int .i64 n, .slice a l c] 49)) ∧ (w.heap.size = p) ∧ ((w8.alloc (.cells #[.int .i64 rk, .int .i64 rn, .slice ag lg cg] 26)).heap[pw]? = some (Obj.cells #[.int .i64 rk, .int .i64 rn, .slice aw lw cw] 26)) ∧ (SlO (w8.alloc (.cells #[.int .i64 rk, .int .i64 rn, .slice ag lg cg] 26)) 26 (aw) lw cw (rd) bsw) ∧ (∀ x ∈ bsw, x < z0) ∧ (p < z0) ∧ (pw < z0) ∧ (SlOB (w8.alloc (.cells #[.int .i64 rk, .int .i64 rn, .slice ag lg cg] 26)) 26 33 (a5) l0 c5 (f) bs5) ∧ (bs5.Nodup) ∧ (∀ x ∈ bs5, z0 ≤ x ∧ x < z6) ∧ (z0 ≤ z6) ∧ ((w8.alloc (.cells #[.int .i64 rk, .int .i64 rn, .slice ag lg cg] 26)).heap[px]? = some (Obj.cells #[.int .i64 k, .int .i64 n, .slice a4 l c4] 26)) ∧ (SlO (w8.alloc (.cells #[.int .i64 rk, .int .i64 rn, .slice ag lg cg] 26)) 26 (a4) l c4 (d) bs4) ∧ (bs4.Nodup) ∧ (∀ x ∈ bs4, z6 ≤ x ∧ x < px) ∧ (z6 ≤ px) ∧ ((w8.alloc (.cells #[.int .i64 rk, .int .i64 rn, .slice ag lg cg] 26)).heap[w8.heap.size]? = some (Obj.cells #[.int .i64 rk, .int .i64 rn, .slice ag lg cg] 26)) ∧ (SlO (w8.alloc (.cells #[.int .i64 rk, .int .i64 rn, .slice ag lg cg] 26)) 26 (ag) lg cg (rd) bsg) ∧ (bsg.Nodup) ∧ (∀ x ∈ bsg, px < x ∧ x < w8.heap.size) ∧ (px < w8.heap.size)) := ⟨grown_trans (L6.out.1) hgg, (World.grownBy.block hgg _ (lt_of_block (L6.out.2.1)) (by simp)).trans (L6.out.2.1), L6.out.2.2.1, (World.grownBy.block hgg _ (lt_of_block (L6.out.2.2.2.1)) (by simp)).trans (L6.out.2.2.2.1), SlO.old (L6.out.2.2.2.2.1) hgg, L6.out.2.2.2.2.2.1, L6.out.2.2.2.2.2.2.1, L6.out.2.2.2.2.2.2.2.1, SlOB.old (L6.out.2.2.2.2.2.2.2.2.1) hgg, L6.out.2.2.2.2.2.2.2.2.2.1, L6.out.2.2.2.2.2.2.2.2.2.2.1, L6.out.2.2.2.2.2.2.2.2.2.2.2.1, (World.grownBy.block hgg _ (lt_of_block (L6.out.2.2.2.2.2.2.2.2.2.2.2.2.1)) (by simp)).trans (L6.out.2.2.2.2.2.2.2.2.2.2.2.2.1), SlO.old (L6.out.2.2.2.2.2.2.2.2.2.2.2.2.2.1) hgg, L6.out.2.2.2.2.2.2.2.2.2.2.2.2.2.2.1, L6.out.2.2.2.2.2.2.2.2.2.2.2.2.2.2.2.1, L6.out.2.2.2.2.2.2.2.2.2.2.2.2.2.2.2.2, ba, hw.1.old ga, hw.2.1, fun x hx => ⟨Nat.lt_of_lt_of_le hpx7 (hw.2.2 x hx), hw.1.lt x hx⟩, Nat.lt_of_lt_of_le hpx7 hg.size⟩
  clear L6 x3_0 x3_1 x3_2
  clear hg ga ba hgg
  simp only []
  clear hw hpx7
  have elw : lw = lg := (L7.out.2.2.2.2.1).1.symm.trans (L7.out.2.2.2.2.2.2.2.2.2.2.2.2.2.2.2.2.2.2.1).1
  subst elw
  obtain ⟨⟨x4_0, x4_1, x4_2⟩, -⟩ := three (L7.out.2.2.2.2.2.2.2.2.2.2.2.2.2.2.2.2.2.1)
  obtain ⟨⟨x5_0, x5_1, x5_2⟩, -⟩ := three (L7.out.2.2.2.1)
  go_wp2_with fail
  generalize (w8.alloc (.cells #[.int .i64 rk, .int .i64 rn, .slice ag lw cg] 26)) = u8 at *
  generalize w8.heap.size = pg at *
  refine Calls.mono (eqTr rd rk rn ag aw lw cg cw u8 (SlO.reads (L7.out.2.2.2.2.2.2.2.2.2.2.2.2.2.2.2.2.2.2.1)) (SlO.reads (L7.out.2.2.2.2.1))) ?_
  rintro e u9 ⟨rfl, hg⟩
  have L8 : Hid ((w.grownBy u9 none) ∧ (u9.heap[p]? = some (Obj.cells #[.int .i64 k, .int .i64 n, .slice a l c] 49)) ∧ (w.heap.size = p) ∧ (u9.heap[pw]? = some (Obj.cells #[.int .i64 rk, .int .i64 rn, .slice aw lw cw] 26)) ∧ (SlO u9 26 (aw) lw cw (rd) bsw) ∧ (∀ x ∈ bsw, x < z0) ∧ (p < z0) ∧ (pw < z0) ∧ (SlOB u9 26 33 (a5) l0 c5 (f) bs5) ∧ (bs5.Nodup) ∧ (∀ x ∈ bs5, z0 ≤ x ∧ x < z6) ∧ (z0 ≤ z6) ∧ (u9.heap[px]? = some (Obj.cells #[.int .i64 k, .int .i64 n, .slice a4 l c4] 26)) ∧ (SlO u9 26 (a4) l c4 (d) bs4) ∧ (bs4.Nodup) ∧ (∀ x ∈ bs4, z6 ≤ x ∧ x < px) ∧ (z6 ≤ px) ∧ (u9.heap[pg]? = some (Obj.cells #[.int .i64 rk, .int .i64 rn, .slice ag lw cg] 26)) ∧ (SlO u9 26 (ag) lw cg (rd) bsg) ∧ (bsg.Nodup) ∧ (∀ x ∈ bsg, px < x ∧ x < pg) ∧ (px < pg)) := ⟨grown_trans (L7.out.1) hg, (World.grownBy.block hg _ (lt_of_block (L7.out.2.1)) (by simp)).trans (L7.out.2.1), L7.out.2.2.1, (World.grownBy.block hg _ (lt_of_block (L7.out.2.2.2.1)) (by simp)).trans (L7.out.2.2.2.1), SlO.old (L7.out.2.2.2.2.1) hg, L7.out.2.2.2.2.2.1, L7.out.2.2.2.2.2.2.1, L7.out.2.2.2.2.2.2.2.1, SlOB.old (L7.out.2.2.2.2.2.2.2.2.1) hg, L7.out.2.2.2.2.2.2.2.2.2.1, L7.out.2.2.2.2.2.2.2.2.2.2.1, L7.out.2.2.2.2.2.2.2.2.2.2.2.1, (World.grownBy.block hg _ (lt_of_block (L7.out.2.2.2.2.2.2.2.2.2.2.2.2.1)) (by simp)).trans (L7.out.2.2.2.2.2.2.2.2.2.2.2.2.1), SlO.old (L7.out.2.2.2.2.2.2.2.2.2.2.2.2.2.1) hg, L7.out.2.2.2.2.2.2.2.2.2.2.2.2.2.2.1, L7.out.2.2.2.2.2.2.2.2.2.2.2.2.2.2.2.1, L7.out.2.2.2.2.2.2.2.2.2.2.2.2.2.2.2.2.1, (World.grownBy.block hg _ (lt_of_block (L7.out.2.2.2.2.2.2.2.2.2.2.2.2.2.2.2.2.2.1)) (by simp)).trans (L7.out.2.2.2.2.2.2.2.2.2.2.2.2.2.2.2.2.2.1), SlO.old (L7.out.2.2.2.2.2.2.2.2.2.2.2.2.2.2.2.2.2.2.1) hg, L7.out.2.2.2.2.2.2.2.2.2.2.2.2.2.2.2.2.2.2.2.1, L7.out.2.2.2.2.2.2.2.2.2.2.2.2.2.2.2.2.2.2.2.2.1, L7.out.2.2.2.2.2.2.2.2.2.2.2.2.2.2.2.2.2.2.2.2.2⟩
  clear L7 x4_0 x4_1 x4_2 x5_0 x5_1 x5_2
  clear hg
  simp only []
  go_wp2_with fail
  refine Calls.mono (toBs f a0 l0 c0 u9 hfs (HD.out.2.none (L8.out.1))) ?_
  rintro e v3 ⟨a8, c8, bs8, rfl, hg, hn8⟩
  have L9 : Hid ((w.grownBy v3 none) ∧ (v3.heap[p]? = some (Obj.cells #[.int .i64 k, .int .i64 n, .slice a l c] 49)) ∧ (w.heap.size = p) ∧ (v3.heap[pw]? = some (Obj.cells #[.int .i64 rk, .int .i64 rn, .slice aw lw cw] 26)) ∧ (SlO v3 26 (aw) lw cw (rd) bsw) ∧ (∀ x ∈ bsw, x < z0) ∧ (p < z0) ∧ (pw < z0) ∧ (SlOB v3 26 33 (a5) l0 c5 (f) bs5) ∧ (bs5.Nodup) ∧ (∀ x ∈ bs5, z0 ≤ x ∧ x < z6) ∧ (z0 ≤ z6) ∧ (v3.heap[px]? = some (Obj.cells #[.int .i64 k, .int .i64 n, .slice a4 l c4] 26)) ∧ (SlO v3 26 (a4) l c4 (d) bs4) ∧ (bs4.Nodup) ∧ (∀ x ∈ bs4, z6 ≤ x ∧ x < px) ∧ (z6 ≤ px) ∧ (v3.heap[pg]? = some (Obj.cells #[.int .i64 rk, .int .i64 rn, .slice ag lw cg] 26)) ∧ (SlO v3 26 (ag) lw cg (rd) bsg) ∧ (bsg.Nodup) ∧ (∀ x ∈ bsg, px < x ∧ x < pg) ∧ (px < pg) ∧ (SlB v3 (a8) l0 (f))) := ⟨grown_trans (L8.out.1) hg, (World.grownBy.block hg _ (lt_of_block (L8.out.2.1)) (by simp)).trans (L8.out.2.1), L8.out.2.2.1, (World.grownBy.block hg _ (lt_of_block (L8.out.2.2.2.1)) (by simp)).trans (L8.out.2.2.2.1), SlO.old (L8.out.2.2.2.2.1) hg, L8.out.2.2.2.2.2.1, L8.out.2.2.2.2.2.2.1, L8.out.2.2.2.2.2.2.2.1, SlOB.old (L8.out.2.2.2.2.2.2.2.2.1) hg, L8.out.2.2.2.2.2.2.2.2.2.1, L8.out.2.2.2.2.2.2.2.2.2.2.1, L8.out.2.2.2.2.2.2.2.2.2.2.2.1, (World.grownBy.block hg _ (lt_of_block (L8.out.2.2.2.2.2.2.2.2.2.2.2.2.1)) (by simp)).trans (L8.out.2.2.2.2.2.2.2.2.2.2.2.2.1), SlO.old (L8.out.2.2.2.2.2.2.2.2.2.2.2.2.2.1) hg, L8.out.2.2.2.2.2.2.2.2.2.2.2.2.2.2.1, L8.out.2.2.2.2.2.2.2.2.2.2.2.2.2.2.2.1, L8.out.2.2.2.2.2.2.2.2.2.2.2.2.2.2.2.2.1, (World.grownBy.block hg _ (lt_of_block (L8.out.2.2.2.2.2.2.2.2.2.2.2.2.2.2.2.2.2.1)) (by simp)).trans (L8.out.2.2.2.2.2.2.2.2.2.2.2.2.2.2.2.2.2.1), SlO.old (L8.out.2.2.2.2.2.2.2.2.2.2.2.2.2.2.2.2.2.2.1) hg, L8.out.2.2.2.2.2.2.2.2.2.2.2.2.2.2.2.2.2.2.2.1, L8.out.2.2.2.2.2.2.2.2.2.2.2.2.2.2.2.2.2.2.2.2.1, L8.out.2.2.2.2.2.2.2.2.2.2.2.2.2.2.2.2.2.2.2.2.2, hn8.1.reads⟩
  clear L8
  clear hg
  simp only []
  clear hn8
  go_wp2_with fail
  refine Calls.mono (eqBs f a5 a8 l0 c5 c8 v3 (SlOB.reads (L9.out.2.2.2.2.2.2.2.2.1)) (L9.out.2.2.2.2.2.2.2.2.2.2.2.2.2.2.2.2.2.2.2.2.2.2)) ?_
  rintro e v4 ⟨rfl, hg⟩
  have L10 : Hid ((w.grownBy v4 none) ∧ (v4.heap[p]? = some (Obj.cells #[.int .i64 k, .int .i64 n, .slice a l c] 49)) ∧ (w.heap.size = p) ∧ (v4.heap[pw]? = some (Obj.cells #[.int .i64 rk, .int .i64 rn, .slice aw lw cw] 26)) ∧ (SlO v4 26 (aw) lw cw (rd) bsw) ∧ (∀ x ∈ bsw, x < z0) ∧ (p < z0) ∧ (pw < z0) ∧ (SlOB v4 26 33 (a5) l0 c5 (f) bs5) ∧ (bs5.Nodup) ∧ (∀ x ∈ bs5, z0 ≤ x ∧ x < z6) ∧ (z0 ≤ z6) ∧ (v4.heap[px]? = some (Obj.cells #[.int .i64 k, .int .i64 n, .slice a4 l c4] 26)) ∧ (SlO v4 26 (a4) l c4 (d) bs4) ∧ (bs4.Nodup) ∧ (∀ x ∈ bs4, z6 ≤ x ∧ x < px) ∧ (z6 ≤ px) ∧ (v4.heap[pg]? = some (Obj.cells #[.int .i64 rk, .int .i64 rn, .slice ag lw cg] 26)) ∧ (SlO v4 26 (ag) lw cg (rd) bsg) ∧ (bsg.Nodup) ∧ (∀ x ∈ bsg, px < x ∧ x < pg) ∧ (px < pg)) := ⟨grown_trans (L9.out.1) hg, (World.grownBy.block hg _ (lt_of_block (L9.out.2.1)) (by simp)).trans (L9.out.2.1), L9.out.2.2.1, (World.grownBy.block hg _ (lt_of_block (L9.out.2.2.2.1)) (by simp)).trans (L9.out.2.2.2.1), SlO.old (L9.out.2.2.2.2.1) hg, L9.out.2.2.2.2.2.1, L9.out.2.2.2.2.2.2.1, L9.out.2.2.2.2.2.2.2.1, SlOB.old (L9.out.2.2.2.2.2.2.2.2.1) hg, L9.out.2.2.2.2.2.2.2.2.2.1, L9.out.2.2.2.2.2.2.2.2.2.2.1, L9.out.2.2.2.2.2.2.2.2.2.2.2.1, (World.grownBy.block hg _ (lt_of_block (L9.out.2.2.2.2.2.2.2.2.2.2.2.2.1)) (by simp)).trans (L9.out.2.2.2.2.2.2.2.2.2.2.2.2.1), SlO.old (L9.out.2.2.2.2.2.2.2.2.2.2.2.2.2.1) hg, L9.out.2.2.2.2.2.2.2.2.2.2.2.2.2.2.1, L9.out.2.2.2.2.2.2.2.2.2.2.2.2.2.2.2.1, L9.out.2.2.2.2.2.2.2.2.2.2.2.2.2.2.2.2.1, (World.grownBy.block hg _ (lt_of_block (L9.out.2.2.2.2.2.2.2.2.2.2.2.2.2.2.2.2.2.1)) (by simp)).trans (L9.out.2.2.2.2.2.2.2.2.2.2.2.2.2.2.2.2.2.1), SlO.old (L9.out.2.2.2.2.2.2.2.2.2.2.2.2.2.2.2.2.2.2.1) hg, L9.out.2.2.2.2.2.2.2.2.2.2.2.2.2.2.2.2.2.2.2.1, L9.out.2.2.2.2.2.2.2.2.2.2.2.2.2.2.2.2.2.2.2.2.1, L9.out.2.2.2.2.2.2.2.2.2.2.2.2.2.2.2.2.2.2.2.2.2.1⟩
  clear L9
  clear hg
  simp only []
  go_wp2_with fail
  have L11 : Hid ((w.grownBy v4.drew none) ∧ (v4.drew.heap[p]? = some (Obj.cells #[.int .i64 k, .int .i64 n, .slice a l c] 49)) ∧ (w.heap.size = p) ∧ (v4.drew.heap[pw]? = some (Obj.cells #[.int .i64 rk, .int .i64 rn, .slice aw lw cw] 26)) ∧ (SlO v4.drew 26 (aw) lw cw (rd) bsw) ∧ (∀ x ∈ bsw, x < z0) ∧ (p < z0) ∧ (pw < z0) ∧ (SlOB v4.drew 26 33 (a5) l0 c5 (f) bs5) ∧ (bs5.Nodup) ∧ (∀ x ∈ bs5, z0 ≤ x ∧ x < z6) ∧ (z0 ≤ z6) ∧ (v4.drew.heap[px]? = some (Obj.cells #[.int .i64 k, .int .i64 n, .slice a4 l c4] 26)) ∧ (SlO v4.drew 26 (a4) l c4 (d) bs4) ∧ (bs4.Nodup) ∧ (∀ x ∈ bs4, z6 ≤ x ∧ x < px) ∧ (z6 ≤ px) ∧ (v4.drew.heap[pg]? = some (Obj.cells #[.int .i64 rk, .int .i64 rn, .slice ag lw cg] 26)) ∧ (SlO v4.drew 26 (ag) lw cg (rd) bsg) ∧ (bsg.Nodup) ∧ (∀ x ∈ bsg, px < x ∧ x < pg) ∧ (px < pg)) := ⟨grown_trans (L10.out.1) (grown_drew (World.grownBy.refl v4 none)), (World.grownBy.block (grown_drew (World.grownBy.refl v4 none)) _ (lt_of_block (L10.out.2.1)) (by simp)).trans (L10.out.2.1), L10.out.2.2.1, (World.grownBy.block (grown_drew (World.grownBy.refl v4 none)) _ (lt_of_block (L10.out.2.2.2.1)) (by simp)).trans (L10.out.2.2.2.1), SlO.old (L10.out.2.2.2.2.1) (grown_drew (World.grownBy.refl v4 none)), L10.out.2.2.2.2.2.1, L10.out.2.2.2.2.2.2.1, L10.out.2.2.2.2.2.2.2.1, SlOB.old (L10.out.2.2.2.2.2.2.2.2.1) (grown_drew (World.grownBy.refl v4 none)), L10.out.2.2.2.2.2.2.2.2.2.1, L10.out.2.2.2.2.2.2.2.2.2.2.1, L10.out.2.2.2.2.2.2.2.2.2.2.2.1, (World.grownBy.block (grown_drew (World.grownBy.refl v4 none)) _ (lt_of_block (L10.out.2.2.2.2.2.2.2.2.2.2.2.2.1)) (by simp)).trans (L10.out.2.2.2.2.2.2.2.2.2.2.2.2.1), SlO.old (L10.out.2.2.2.2.2.2.2.2.2.2.2.2.2.1) (grown_drew (World.grownBy.refl v4 none)), L10.out.2.2.2.2.2.2.2.2.2.2.2.2.2.2.1, L10.out.2.2.2.2.2.2.2.2.2.2.2.2.2.2.2.1, L10.out.2.2.2.2.2.2.2.2.2.2.2.2.2.2.2.2.1, (World.grownBy.block (grown_drew (World.grownBy.refl v4 none)) _ (lt_of_block (L10.out.2.2.2.2.2.2.2.2.2.2.2.2.2.2.2.2.2.1)) (by simp)).trans (L10.out.2.2.2.2.2.2.2.2.2.2.2.2.2.2.2.2.2.1), SlO.old (L10.out.2.2.2.2.2.2.2.2.2.2.2.2.2.2.2.2.2.2.1) (grown_drew (World.grownBy.refl v4 none)), L10.out.2.2.2.2.2.2.2.2.2.2.2.2.2.2.2.2.2.2.2.1, L10.out.2.2.2.2.2.2.2.2.2.2.2.2.2.2.2.2.2.2.2.2.1, L10.out.2.2.2.2.2.2.2.2.2.2.2.2.2.2.2.2.2.2.2.2.2⟩
  clear L10
  refine wp_region_held_drew (S := (fun v0 => Tri p 0 (.int .i64 k) (.int .i64 n) (.slice a l c) v0 ∧ Tri px 0 (.int .i64 k) (.int .i64 n) (.slice a4 l c4) v0)) (by kernel_rfl) ⟨(three (L11.out.2.1)).1, (three (L11.out.2.2.2.2.2.2.2.2.2.2.2.2.1)).1⟩ (fun hH => ?_)
  generalize v4.drew = v0 at *
  simp only [List.size_toArray, List.length_cons, List.length_nil, Nat.reduceAdd, Array.replicate, List.replicate]
  refine wpAnyH_take (i := 0) (v := ?_) rfl (by kernel_rfl) (by kernel_rfl) (by kernel_rfl) (fun _ _ _ h => h) (Or.inl ⟨by rfl, ?_⟩) hH ?_
  rotate_left
  · (intro v hS; obtain ⟨⟨s00, s01, s02⟩, ⟨s10, s11, s12⟩⟩ := hS; go_simp; try with_reducible rfl)
  simp only [Act.put, List.setIfInBounds_toArray, List.set_cons_zero, List.set_cons_succ, List.getElem_toArray, List.getElem_cons_succ, List.getElem_cons_zero]
  refine wpAnyH_take (i := 1) (v := ?_) rfl (by kernel_rfl) (by kernel_rfl) (by kernel_rfl) (fun _ _ _ h => h) (Or.inl ⟨by rfl, ?_⟩) hH ?_
  rotate_left
  · (intro v hS; obtain ⟨⟨s00, s01, s02⟩, ⟨s10, s11, s12⟩⟩ := hS; go_simp; try with_reducible rfl)
  simp only [Act.put, List.setIfInBounds_toArray, List.set_cons_zero, List.set_cons_succ, List.getElem_toArray, List.getElem_cons_succ, List.getElem_cons_zero]
  refine wpAnyH_ready (rs := [2]) (by kernel_rfl) (by simp) ?_
  refine AllReadyH.cons rfl (fun K hK => ?_) AllReadyH.nil
  go_simp
  refine Calls.mono (toTr d k n a l c v0 (HD.out.1.none (L11.out.1)) hds) ?_
  rintro e v1 ⟨a7, c7, bs7, rfl, hg, hn7⟩
  have L12 : Hid ((w.grownBy v1 none) ∧ (v1.heap[p]? = some (Obj.cells #[.int .i64 k, .int .i64 n, .slice a l c] 49)) ∧ (w.heap.size = p) ∧ (v1.heap[pw]? = some (Obj.cells #[.int .i64 rk, .int .i64 rn, .slice aw lw cw] 26)) ∧ (SlO v1 26 (aw) lw cw (rd) bsw) ∧ (∀ x ∈ bsw, x < z0) ∧ (p < z0) ∧ (pw < z0) ∧ (SlOB v1 26 33 (a5) l0 c5 (f) bs5) ∧ (bs5.Nodup) ∧ (∀ x ∈ bs5, z0 ≤ x ∧ x < z6) ∧ (z0 ≤ z6) ∧ (v1.heap[px]? = some (Obj.cells #[.int .i64 k, .int .i64 n, .slice a4 l c4] 26)) ∧ (SlO v1 26 (a4) l c4 (d) bs4) ∧ (bs4.Nodup) ∧ (∀ x ∈ bs4, z6 ≤ x ∧ x < px) ∧ (z6 ≤ px) ∧ (v1.heap[pg]? = some (Obj.cells #[.int .i64 rk, .int .i64 rn, .slice ag lw cg] 26)) ∧ (SlO v1 26 (ag) lw cg (rd) bsg) ∧ (bsg.Nodup) ∧ (∀ x ∈ bsg, px < x ∧ x < pg) ∧ (px < pg) ∧ (SlF v1 (a7) l (d))) := ⟨grown_trans (L11.out.1) hg, (World.grownBy.block hg _ (lt_of_block (L11.out.2.1)) (by simp)).trans (L11.out.2.1), L11.out.2.2.1, (World.grownBy.block hg _ (lt_of_block (L11.out.2.2.2.1)) (by simp)).trans (L11.out.2.2.2.1), SlO.old (L11.out.2.2.2.2.1) hg, L11.out.2.2.2.2.2.1, L11.out.2.2.2.2.2.2.1, L11.out.2.2.2.2.2.2.2.1, SlOB.old (L11.out.2.2.2.2.2.2.2.2.1) hg, L11.out.2.2.2.2.2.2.2.2.2.1, L11.out.2.2.2.2.2.2.2.2.2.2.1, L11.out.2.2.2.2.2.2.2.2.2.2.2.1, (World.grownBy.block hg _ (lt_of_block (L11.out.2.2.2.2.2.2.2.2.2.2.2.2.1)) (by simp)).trans (L11.out.2.2.2.2.2.2.2.2.2.2.2.2.1), SlO.old (L11.out.2.2.2.2.2.2.2.2.2.2.2.2.2.1) hg, L11.out.2.2.2.2.2.2.2.2.2.2.2.2.2.2.1, L11.out.2.2.2.2.2.2.2.2.2.2.2.2.2.2.2.1, L11.out.2.2.2.2.2.2.2.2.2.2.2.2.2.2.2.2.1, (World.grownBy.block hg _ (lt_of_block (L11.out.2.2.2.2.2.2.2.2.2.2.2.2.2.2.2.2.2.1)) (by simp)).trans (L11.out.2.2.2.2.2.2.2.2.2.2.2.2.2.2.2.2.2.1), SlO.old (L11.out.2.2.2.2.2.2.2.2.2.2.2.2.2.2.2.2.2.2.1) hg, L11.out.2.2.2.2.2.2.2.2.2.2.2.2.2.2.2.2.2.2.2.1, L11.out.2.2.2.2.2.2.2.2.2.2.2.2.2.2.2.2.2.2.2.2.1, L11.out.2.2.2.2.2.2.2.2.2.2.2.2.2.2.2.2.2.2.2.2.2, hn7.1.reads⟩
  clear L11
  refine hK.out _ _ ⟨(three (L12.out.2.1)).1, (three (L12.out.2.2.2.2.2.2.2.2.2.2.2.2.1)).1⟩ (fun hH2 => ?_)
  clear hK K hH
  have hH := hH2
  clear hH2 hg
  simp only [Act.put, List.setIfInBounds_toArray, List.set_cons_zero, List.set_cons_succ, List.getElem_toArray, List.getElem_cons_succ, List.getElem_cons_zero]
  clear hn7
  refine wpAnyH_ready (rs := [3]) (by kernel_rfl) (by simp) ?_
  refine AllReadyH.cons rfl (fun K hK => ?_) AllReadyH.nil
  go_simp
  refine Calls.mono (eqTr d k n a4 a7 l c4 c7 v1 (SlO.reads (L12.out.2.2.2.2.2.2.2.2.2.2.2.2.2.1)) (L12.out.2.2.2.2.2.2.2.2.2.2.2.2.2.2.2.2.2.2.2.2.2.2)) ?_
  rintro e v2 ⟨rfl, hg⟩
  have L13 : Hid ((w.grownBy v2 none) ∧ (v2.heap[p]? = some (Obj.cells #[.int .i64 k, .int .i64 n, .slice a l c] 49)) ∧ (w.heap.size = p) ∧ (v2.heap[pw]? = some (Obj.cells #[.int .i64 rk, .int .i64 rn, .slice aw lw cw] 26)) ∧ (SlO v2 26 (aw) lw cw (rd) bsw) ∧ (∀ x ∈ bsw, x < z0) ∧ (p < z0) ∧ (pw < z0) ∧ (SlOB v2 26 33 (a5) l0 c5 (f) bs5) ∧ (bs5.Nodup) ∧ (∀ x ∈ bs5, z0 ≤ x ∧ x < z6) ∧ (z0 ≤ z6) ∧ (v2.heap[px]? = some (Obj.cells #[.int .i64 k, .int .i64 n, .slice a4 l c4] 26)) ∧ (SlO v2 26 (a4) l c4 (d) bs4) ∧ (bs4.Nodup) ∧ (∀ x ∈ bs4, z6 ≤ x ∧ x < px) ∧ (z6 ≤ px) ∧ (v2.heap[pg]? = some (Obj.cells #[.int .i64 rk, .int .i64 rn, .slice ag lw cg] 26)) ∧ (SlO v2 26 (ag) lw cg (rd) bsg) ∧ (bsg.Nodup) ∧ (∀ x ∈ bsg, px < x ∧ x < pg) ∧ (px < pg)) := ⟨grown_trans (L12.out.1) hg, (World.grownBy.block hg _ (lt_of_block (L12.out.2.1)) (by simp)).trans (L12.out.2.1), L12.out.2.2.1, (World.grownBy.block hg _ (lt_of_block (L12.out.2.2.2.1)) (by simp)).trans (L12.out.2.2.2.1), SlO.old (L12.out.2.2.2.2.1) hg, L12.out.2.2.2.2.2.1, L12.out.2.2.2.2.2.2.1, L12.out.2.2.2.2.2.2.2.1, SlOB.old (L12.out.2.2.2.2.2.2.2.2.1) hg, L12.out.2.2.2.2.2.2.2.2.2.1, L12.out.2.2.2.2.2.2.2.2.2.2.1, L12.out.2.2.2.2.2.2.2.2.2.2.2.1, (World.grownBy.block hg _ (lt_of_block (L12.out.2.2.2.2.2.2.2.2.2.2.2.2.1)) (by simp)).trans (L12.out.2.2.2.2.2.2.2.2.2.2.2.2.1), SlO.old (L12.out.2.2.2.2.2.2.2.2.2.2.2.2.2.1) hg, L12.out.2.2.2.2.2.2.2.2.2.2.2.2.2.2.1, L12.out.2.2.2.2.2.2.2.2.2.2.2.2.2.2.2.1, L12.out.2.2.2.2.2.2.2.2.2.2.2.2.2.2.2.2.1, (World.grownBy.block hg _ (lt_of_block (L12.out.2.2.2.2.2.2.2.2.2.2.2.2.2.2.2.2.2.1)) (by simp)).trans (L12.out.2.2.2.2.2.2.2.2.2.2.2.2.2.2.2.2.2.1), SlO.old (L12.out.2.2.2.2.2.2.2.2.2.2.2.2.2.2.2.2.2.2.1) hg, L12.out.2.2.2.2.2.2.2.2.2.2.2.2.2.2.2.2.2.2.2.1, L12.out.2.2.2.2.2.2.2.2.2.2.2.2.2.2.2.2.2.2.2.2.1, L12.out.2.2.2.2.2.2.2.2.2.2.2.2.2.2.2.2.2.2.2.2.2.1⟩
  clear L12
  refine hK.out _ _ ⟨(three (L13.out.2.1)).1, (three (L13.out.2.2.2.2.2.2.2.2.2.2.2.2.1)).1⟩ (fun hH2 => ?_)
  clear hK K hH
  have hH := hH2
  clear hH2 hg
  simp only [Act.put, List.setIfInBounds_toArray, List.set_cons_zero, List.set_cons_succ, List.getElem_toArray, List.getElem_cons_succ, List.getElem_cons_zero]
  refine wpAnyH_take (i := 4) (v := ?_) rfl (by kernel_rfl) (by kernel_rfl) (by kernel_rfl) (fun _ _ _ h => h) (Or.inl ⟨by rfl, ?_⟩) hH ?_
  rotate_left
  · (intro v hS; go_simp; try with_reducible rfl)
  simp only [Act.put, List.setIfInBounds_toArray, List.set_cons_zero, List.set_cons_succ, List.getElem_toArray, List.getElem_cons_succ, List.getElem_cons_zero]
  refine wpAnyH_done (by kernel_rfl) ?_ _
  go_wp2_with fail
  refine Calls.mono (markBs f a5 l0 c5 bs5 1 v2 (L13.out.2.2.2.2.2.2.2.2.1) (L13.out.2.2.2.2.2.2.2.2.2.1) (by omega) (by omega)) ?_
  rintro e v5 ⟨rfl, ht, -⟩
  have ep := L13.out.2.2.1
  have qw := L13.out.2.2.2.2.2.1
  have o1 := L13.out.2.2.2.2.2.2.1
  have o2 := L13.out.2.2.2.2.2.2.2.1
  have q5 := L13.out.2.2.2.2.2.2.2.2.2.2.1
  have o3 := L13.out.2.2.2.2.2.2.2.2.2.2.2.1
  have q4 := L13.out.2.2.2.2.2.2.2.2.2.2.2.2.2.2.2.1
  have o4 := L13.out.2.2.2.2.2.2.2.2.2.2.2.2.2.2.2.2.1
  have qg := L13.out.2.2.2.2.2.2.2.2.2.2.2.2.2.2.2.2.2.2.2.2.1
  have o5 := L13.out.2.2.2.2.2.2.2.2.2.2.2.2.2.2.2.2.2.2.2.2.2
  have L14 : Hid ((w.grownBy v5 none) ∧ (v5.heap[p]? = some (Obj.cells #[.int .i64 k, .int .i64 n, .slice a l c] 49)) ∧ (w.heap.size = p) ∧ (v5.heap[pw]? = some (Obj.cells #[.int .i64 rk, .int .i64 rn, .slice aw lw cw] 26)) ∧ (SlO v5 26 (aw) lw cw (rd) bsw) ∧ (∀ x ∈ bsw, x < z0) ∧ (p < z0) ∧ (pw < z0) ∧ (∀ x ∈ bs5, z0 ≤ x ∧ x < z6) ∧ (z0 ≤ z6) ∧ (v5.heap[px]? = some (Obj.cells #[.int .i64 k, .int .i64 n, .slice a4 l c4] 26)) ∧ (SlO v5 26 (a4) l c4 (d) bs4) ∧ (bs4.Nodup) ∧ (∀ x ∈ bs4, z6 ≤ x ∧ x < px) ∧ (z6 ≤ px) ∧ (v5.heap[pg]? = some (Obj.cells #[.int .i64 rk, .int .i64 rn, .slice ag lw cg] 26)) ∧ (SlO v5 26 (ag) lw cg (rd) bsg) ∧ (bsg.Nodup) ∧ (∀ x ∈ bsg, px < x ∧ x < pg) ∧ (px < pg)) := ⟨Tn.fresh (L13.out.1) ht (fun x hx => by have := q5 x hx; omega), (ht.block _ (lt_of_block (L13.out.2.1)) (fun hx => by have := q5 _ hx; omega)).trans (L13.out.2.1), L13.out.2.2.1, (ht.block _ (lt_of_block (L13.out.2.2.2.1)) (fun hx => by have := q5 _ hx; omega)).trans (L13.out.2.2.2.1), SlO.of (L13.out.2.2.2.2.1) (fun y hy => ht.block y (SlO.lt (L13.out.2.2.2.2.1) y hy) (fun hx => by have h1 := q5 y hx; have h2 := qw y hy; omega)), L13.out.2.2.2.2.2.1, L13.out.2.2.2.2.2.2.1, L13.out.2.2.2.2.2.2.2.1, L13.out.2.2.2.2.2.2.2.2.2.2.1, L13.out.2.2.2.2.2.2.2.2.2.2.2.1, (ht.block _ (lt_of_block (L13.out.2.2.2.2.2.2.2.2.2.2.2.2.1)) (fun hx => by have := q5 _ hx; omega)).trans (L13.out.2.2.2.2.2.2.2.2.2.2.2.2.1), SlO.of (L13.out.2.2.2.2.2.2.2.2.2.2.2.2.2.1) (fun y hy => ht.block y (SlO.lt (L13.out.2.2.2.2.2.2.2.2.2.2.2.2.2.1) y hy) (fun hx => by have h1 := q5 y hx; have h2 := q4 y hy; omega)), L13.out.2.2.2.2.2.2.2.2.2.2.2.2.2.2.1, L13.out.2.2.2.2.2.2.2.2.2.2.2.2.2.2.2.1, L13.out.2.2.2.2.2.2.2.2.2.2.2.2.2.2.2.2.1, (ht.block _ (lt_of_block (L13.out.2.2.2.2.2.2.2.2.2.2.2.2.2.2.2.2.2.1)) (fun hx => by have := q5 _ hx; omega)).trans (L13.out.2.2.2.2.2.2.2.2.2.2.2.2.2.2.2.2.2.1), SlO.of (L13.out.2.2.2.2.2.2.2.2.2.2.2.2.2.2.2.2.2.2.1) (fun y hy => ht.block y (SlO.lt (L13.out.2.2.2.2.2.2.2.2.2.2.2.2.2.2.2.2.2.2.1) y hy) (fun hx => by have h1 := q5 y hx; have h2 := qg y hy; omega)), L13.out.2.2.2.2.2.2.2.2.2.2.2.2.2.2.2.2.2.2.2.1, L13.out.2.2.2.2.2.2.2.2.2.2.2.2.2.2.2.2.2.2.2.2.1, L13.out.2.2.2.2.2.2.2.2.2.2.2.2.2.2.2.2.2.2.2.2.2⟩
  clear L13
  clear ep qw o1 o2 q5 o3 q4 o4 qg o5
  clear ht
  simp only []
  obtain ⟨⟨x6_0, x6_1, x6_2⟩, -⟩ := three (L14.out.2.2.2.2.2.2.2.2.2.2.1)
  go_wp2_with fail
  refine Calls.mono (markTr d k n a4 l c4 bs4 (1 + 2 * f.size + f.len) v5 (L14.out.2.2.2.2.2.2.2.2.2.2.2.1) (L14.out.2.2.2.2.2.2.2.2.2.2.2.2.1) (by omega) (by omega)) ?_
  rintro e v6 ⟨rfl, ht, -⟩
  have ep := L14.out.2.2.1
  have qw := L14.out.2.2.2.2.2.1
  have o1 := L14.out.2.2.2.2.2.2.1
  have o2 := L14.out.2.2.2.2.2.2.2.1
  have q5 := L14.out.2.2.2.2.2.2.2.2.1
  have o3 := L14.out.2.2.2.2.2.2.2.2.2.1
  have q4 := L14.out.2.2.2.2.2.2.2.2.2.2.2.2.2.1
  have o4 := L14.out.2.2.2.2.2.2.2.2.2.2.2.2.2.2.1
  have qg := L14.out.2.2.2.2.2.2.2.2.2.2.2.2.2.2.2.2.2.2.1
  have o5 := L14.out.2.2.2.2.2.2.2.2.2.2.2.2.2.2.2.2.2.2.2
  have L15 : Hid ((w.grownBy v6 none) ∧ (v6.heap[p]? = some (Obj.cells #[.int .i64 k, .int .i64 n, .slice a l c] 49)) ∧ (w.heap.size = p) ∧ (v6.heap[pw]? = some (Obj.cells #[.int .i64 rk, .int .i64 rn, .slice aw lw cw] 26)) ∧ (SlO v6 26 (aw) lw cw (rd) bsw) ∧ (∀ x ∈ bsw, x < z0) ∧ (p < z0) ∧ (pw < z0) ∧ (∀ x ∈ bs5, z0 ≤ x ∧ x < z6) ∧ (z0 ≤ z6) ∧ (v6.heap[px]? = some (Obj.cells #[.int .i64 k, .int .i64 n, .slice a4 l c4] 26)) ∧ (∀ x ∈ bs4, z6 ≤ x ∧ x < px) ∧ (z6 ≤ px) ∧ (v6.heap[pg]? = some (Obj.cells #[.int .i64 rk, .int .i64 rn, .slice ag lw cg] 26)) ∧ (SlO v6 26 (ag) lw cg (rd) bsg) ∧ (bsg.Nodup) ∧ (∀ x ∈ bsg, px < x ∧ x < pg) ∧ (px < pg)) := ⟨Tn.fresh (L14.out.1) ht (fun x hx => by have := q4 x hx; omega), (ht.block _ (lt_of_block (L14.out.2.1)) (fun hx => by have := q4 _ hx; omega)).trans (L14.out.2.1), L14.out.2.2.1, (ht.block _ (lt_of_block (L14.out.2.2.2.1)) (fun hx => by have := q4 _ hx; omega)).trans (L14.out.2.2.2.1), SlO.of (L14.out.2.2.2.2.1) (fun y hy => ht.block y (SlO.lt (L14.out.2.2.2.2.1) y hy) (fun hx => by have h1 := q4 y hx; have h2 := qw y hy; omega)), L14.out.2.2.2.2.2.1, L14.out.2.2.2.2.2.2.1, L14.out.2.2.2.2.2.2.2.1, L14.out.2.2.2.2.2.2.2.2.1, L14.out.2.2.2.2.2.2.2.2.2.1, (ht.block _ (lt_of_block (L14.out.2.2.2.2.2.2.2.2.2.2.1)) (fun hx => by have := q4 _ hx; omega)).trans (L14.out.2.2.2.2.2.2.2.2.2.2.1), L14.out.2.2.2.2.2.2.2.2.2.2.2.2.2.1, L14.out.2.2.2.2.2.2.2.2.2.2.2.2.2.2.1, (ht.block _ (lt_of_block (L14.out.2.2.2.2.2.2.2.2.2.2.2.2.2.2.2.1)) (fun hx => by have := q4 _ hx; omega)).trans (L14.out.2.2.2.2.2.2.2.2.2.2.2.2.2.2.2.1), SlO.of (L14.out.2.2.2.2.2.2.2.2.2.2.2.2.2.2.2.2.1) (fun y hy => ht.block y (SlO.lt (L14.out.2.2.2.2.2.2.2.2.2.2.2.2.2.2.2.2.1) y hy) (fun hx => by have h1 := q4 y hx; have h2 := qg y hy; omega)), L14.out.2.2.2.2.2.2.2.2.2.2.2.2.2.2.2.2.2.1, L14.out.2.2.2.2.2.2.2.2.2.2.2.2.2.2.2.2.2.2.1, L14.out.2.2.2.2.2.2.2.2.2.2.2.2.2.2.2.2.2.2.2⟩
  clear L14 x6_0 x6_1 x6_2
  clear ep qw o1 o2 q5 o3 q4 o4 qg o5
  clear ht
  simp only []
  have hk1 : decide ((1 : Int) + 2 * f.size + f.len + 2 * d.size < 0) = false := by simp; omega
  obtain ⟨⟨x7_0, x7_1, x7_2⟩, -⟩ := three (L15.out.2.2.2.2.2.2.2.2.2.2.2.2.2.1)
  obtain ⟨⟨x8_0, x8_1, x8_2⟩, -⟩ := three (L15.out.2.2.2.1)
  go_wp2_with fail
  refine Calls.mono (eqTr rd rk rn ag aw lw cg cw v6 (SlO.reads (L15.out.2.2.2.2.2.2.2.2.2.2.2.2.2.2.1)) (SlO.reads (L15.out.2.2.2.2.1))) ?_
  rintro e v7 ⟨rfl, hg⟩
  have L16 : Hid ((w.grownBy v7 none) ∧ (v7.heap[p]? = some (Obj.cells #[.int .i64 k, .int .i64 n, .slice a l c] 49)) ∧ (w.heap.size = p) ∧ (v7.heap[pw]? = some (Obj.cells #[.int .i64 rk, .int .i64 rn, .slice aw lw cw] 26)) ∧ (SlO v7 26 (aw) lw cw (rd) bsw) ∧ (∀ x ∈ bsw, x < z0) ∧ (p < z0) ∧ (pw < z0) ∧ (∀ x ∈ bs5, z0 ≤ x ∧ x < z6) ∧ (z0 ≤ z6) ∧ (v7.heap[px]? = some (Obj.cells #[.int .i64 k, .int .i64 n, .slice a4 l c4] 26)) ∧ (∀ x ∈ bs4, z6 ≤ x ∧ x < px) ∧ (z6 ≤ px) ∧ (v7.heap[pg]? = some (Obj.cells #[.int .i64 rk, .int .i64 rn, .slice ag lw cg] 26)) ∧ (SlO v7 26 (ag) lw cg (rd) bsg) ∧ (bsg.Nodup) ∧ (∀ x ∈ bsg, px < x ∧ x < pg) ∧ (px < pg)) := ⟨grown_trans (L15.out.1) hg, (World.grownBy.block hg _ (lt_of_block (L15.out.2.1)) (by simp)).trans (L15.out.2.1), L15.out.2.2.1, (World.grownBy.block hg _ (lt_of_block (L15.out.2.2.2.1)) (by simp)).trans (L15.out.2.2.2.1), SlO.old (L15.out.2.2.2.2.1) hg, L15.out.2.2.2.2.2.1, L15.out.2.2.2.2.2.2.1, L15.out.2.2.2.2.2.2.2.1, L15.out.2.2.2.2.2.2.2.2.1, L15.out.2.2.2.2.2.2.2.2.2.1, (World.grownBy.block hg _ (lt_of_block (L15.out.2.2.2.2.2.2.2.2.2.2.1)) (by simp)).trans (L15.out.2.2.2.2.2.2.2.2.2.2.1), L15.out.2.2.2.2.2.2.2.2.2.2.2.1, L15.out.2.2.2.2.2.2.2.2.2.2.2.2.1, (World.grownBy.block hg _ (lt_of_block (L15.out.2.2.2.2.2.2.2.2.2.2.2.2.2.1)) (by simp)).trans (L15.out.2.2.2.2.2.2.2.2.2.2.2.2.2.1), SlO.old (L15.out.2.2.2.2.2.2.2.2.2.2.2.2.2.2.1) hg, L15.out.2.2.2.2.2.2.2.2.2.2.2.2.2.2.2.1, L15.out.2.2.2.2.2.2.2.2.2.2.2.2.2.2.2.2.1, L15.out.2.2.2.2.2.2.2.2.2.2.2.2.2.2.2.2.2⟩
  clear L15 x7_0 x7_1 x7_2 x8_0 x8_1 x8_2
  clear hg
  simp only []
  clear hk1
  obtain ⟨⟨x9_0, x9_1, x9_2⟩, -⟩ := three (L16.out.2.2.2.2.2.2.2.2.2.2.2.2.2.1)
  go_wp2_with fail
  refine Calls.mono (markTr rd rk rn ag lw cg bsg 1 v7 (L16.out.2.2.2.2.2.2.2.2.2.2.2.2.2.2.1) (L16.out.2.2.2.2.2.2.2.2.2.2.2.2.2.2.2.1) (by omega) (by omega)) ?_
  rintro e v8 ⟨rfl, ht, hm⟩
  have ep := L16.out.2.2.1
  have qw := L16.out.2.2.2.2.2.1
  have o1 := L16.out.2.2.2.2.2.2.1
  have o2 := L16.out.2.2.2.2.2.2.2.1
  have q5 := L16.out.2.2.2.2.2.2.2.2.1
  have o3 := L16.out.2.2.2.2.2.2.2.2.2.1
  have q4 := L16.out.2.2.2.2.2.2.2.2.2.2.2.1
  have o4 := L16.out.2.2.2.2.2.2.2.2.2.2.2.2.1
  have qg := L16.out.2.2.2.2.2.2.2.2.2.2.2.2.2.2.2.2.1
  have o5 := L16.out.2.2.2.2.2.2.2.2.2.2.2.2.2.2.2.2.2
  have L17 : Hid ((w.grownBy v8 none) ∧ (v8.heap[p]? = some (Obj.cells #[.int .i64 k, .int .i64 n, .slice a l c] 49)) ∧ (w.heap.size = p) ∧ (v8.heap[pw]? = some (Obj.cells #[.int .i64 rk, .int .i64 rn, .slice aw lw cw] 26)) ∧ (SlO v8 26 (aw) lw cw (rd) bsw) ∧ (∀ x ∈ bsw, x < z0) ∧ (p < z0) ∧ (pw < z0) ∧ (∀ x ∈ bs5, z0 ≤ x ∧ x < z6) ∧ (z0 ≤ z6) ∧ (v8.heap[px]? = some (Obj.cells #[.int .i64 k, .int .i64 n, .slice a4 l c4] 26)) ∧ (∀ x ∈ bs4, z6 ≤ x ∧ x < px) ∧ (z6 ≤ px) ∧ (v8.heap[pg]? = some (Obj.cells #[.int .i64 rk, .int .i64 rn, .slice ag lw cg] 26)) ∧ (∀ x ∈ bsg, px < x ∧ x < pg) ∧ (px < pg) ∧ (SlO v8 26 (ag) lw cg (markF rd 1) bsg)) := ⟨Tn.fresh (L16.out.1) ht (fun x hx => by have := qg x hx; omega), (ht.block _ (lt_of_block (L16.out.2.1)) (fun hx => by have := qg _ hx; omega)).trans (L16.out.2.1), L16.out.2.2.1, (ht.block _ (lt_of_block (L16.out.2.2.2.1)) (fun hx => by have := qg _ hx; omega)).trans (L16.out.2.2.2.1), SlO.of (L16.out.2.2.2.2.1) (fun y hy => ht.block y (SlO.lt (L16.out.2.2.2.2.1) y hy) (fun hx => by have h1 := qg y hx; have h2 := qw y hy; omega)), L16.out.2.2.2.2.2.1, L16.out.2.2.2.2.2.2.1, L16.out.2.2.2.2.2.2.2.1, L16.out.2.2.2.2.2.2.2.2.1, L16.out.2.2.2.2.2.2.2.2.2.1, (ht.block _ (lt_of_block (L16.out.2.2.2.2.2.2.2.2.2.2.1)) (fun hx => by have := qg _ hx; omega)).trans (L16.out.2.2.2.2.2.2.2.2.2.2.1), L16.out.2.2.2.2.2.2.2.2.2.2.2.1, L16.out.2.2.2.2.2.2.2.2.2.2.2.2.1, (ht.block _ (lt_of_block (L16.out.2.2.2.2.2.2.2.2.2.2.2.2.2.1)) (fun hx => by have := qg _ hx; omega)).trans (L16.out.2.2.2.2.2.2.2.2.2.2.2.2.2.1), L16.out.2.2.2.2.2.2.2.2.2.2.2.2.2.2.2.2.1, L16.out.2.2.2.2.2.2.2.2.2.2.2.2.2.2.2.2.2, hm⟩
  clear L16 x9_0 x9_1 x9_2
  clear ep qw o1 o2 q5 o3 q4 o4 qg o5
  clear ht hm
  simp only []
  have hq1' : ¬ ((1 : Int) + 2 * rd.size < 0) := by omega
  obtain ⟨⟨x10_0, x10_1, x10_2⟩, -⟩ := three (L17.out.2.2.2.2.2.2.2.2.2.2.2.2.2.1)
  go_wp2_with fail
  refine Calls.mono (heldTr rd rk rn ag lw cg 1 v8 (SlO.reads (L17.out.2.2.2.2.2.2.2.2.2.2.2.2.2.2.2.2)) (by omega) (by omega)) ?_
  rintro e v9 ⟨rfl, hg⟩
  have L18 : Hid ((w.grownBy v9 none) ∧ (v9.heap[p]? = some (Obj.cells #[.int .i64 k, .int .i64 n, .slice a l c] 49)) ∧ (w.heap.size = p) ∧ (v9.heap[pw]? = some (Obj.cells #[.int .i64 rk, .int .i64 rn, .slice aw lw cw] 26)) ∧ (SlO v9 26 (aw) lw cw (rd) bsw) ∧ (∀ x ∈ bsw, x < z0) ∧ (p < z0) ∧ (pw < z0) ∧ (∀ x ∈ bs5, z0 ≤ x ∧ x < z6) ∧ (z0 ≤ z6) ∧ (v9.heap[px]? = some (Obj.cells #[.int .i64 k, .int .i64 n, .slice a4 l c4] 26)) ∧ (∀ x ∈ bs4, z6 ≤ x ∧ x < px) ∧ (z6 ≤ px) ∧ (v9.heap[pg]? = some (Obj.cells #[.int .i64 rk, .int .i64 rn, .slice ag lw cg] 26)) ∧ (∀ x ∈ bsg, px < x ∧ x < pg) ∧ (px < pg) ∧ (SlO v9 26 (ag) lw cg (markF rd 1) bsg)) := ⟨grown_trans (L17.out.1) hg, (World.grownBy.block hg _ (lt_of_block (L17.out.2.1)) (by simp)).trans (L17.out.2.1), L17.out.2.2.1, (World.grownBy.block hg _ (lt_of_block (L17.out.2.2.2.1)) (by simp)).trans (L17.out.2.2.2.1), SlO.old (L17.out.2.2.2.2.1) hg, L17.out.2.2.2.2.2.1, L17.out.2.2.2.2.2.2.1, L17.out.2.2.2.2.2.2.2.1, L17.out.2.2.2.2.2.2.2.2.1, L17.out.2.2.2.2.2.2.2.2.2.1, (World.grownBy.block hg _ (lt_of_block (L17.out.2.2.2.2.2.2.2.2.2.2.1)) (by simp)).trans (L17.out.2.2.2.2.2.2.2.2.2.2.1), L17.out.2.2.2.2.2.2.2.2.2.2.2.1, L17.out.2.2.2.2.2.2.2.2.2.2.2.2.1, (World.grownBy.block hg _ (lt_of_block (L17.out.2.2.2.2.2.2.2.2.2.2.2.2.2.1)) (by simp)).trans (L17.out.2.2.2.2.2.2.2.2.2.2.2.2.2.1), L17.out.2.2.2.2.2.2.2.2.2.2.2.2.2.2.1, L17.out.2.2.2.2.2.2.2.2.2.2.2.2.2.2.2.1, SlO.old (L17.out.2.2.2.2.2.2.2.2.2.2.2.2.2.2.2.2) hg⟩
  clear L17 x10_0 x10_1 x10_2
  clear hg
  simp only []
  go_upto_region 31 with fail
  have FB31 : Hid (∀ u, v9.grownBy u none → w.grownBy u none ∧ Tri p 0 (.int .i64 k) (.int .i64 n) (.slice a l c) u) := fun u hu => ⟨grown_trans (L18.out.1) hu, Tri.none (three (L18.out.2.1)).1 hu⟩
  go_cut [15, 16] (fun sA sB wx => ∃ (pr : Nat) (ar : Option Addr) (lr cr : Nat) (bsr : List Nat), sA = .pointer (some ⟨pr, 0, none⟩) ∧ sB = .bool tb ∧ Hid (v9.grownBy wx none ∧ wx.heap[pr]? = some (Obj.cells #[.int .i64 rk, .int .i64 rn, .slice ar lr cr] 26) ∧ SlO wx 26 ar lr cr rd bsr ∧ bsr.Nodup ∧ v9.heap.size ≤ pr ∧ (∀ x ∈ bsr, v9.heap.size ≤ x)))
  case first =>
    go_wp2_with fail
    have HG : Hid (v9.grownBy v9.drew none) := grown_drew (World.grownBy.refl _ _)
    refine wp_region_held_drew (S := (fun v => Tri p 0 (.int .i64 k) (.int .i64 n) (.slice a l c) v)) (by kernel_rfl) (FB31.out _ HG.out).2 (fun hH => ?_)
    generalize v9.drew = t0 at *
    simp only [List.size_toArray, List.length_cons, List.length_nil, Nat.reduceAdd, Array.replicate, List.replicate]
    refine wpAnyH_take (i := 0) (v := ?_) rfl (by kernel_rfl) (by kernel_rfl) (by kernel_rfl) (fun _ _ _ h => h) (Or.inl ⟨by rfl, ?_⟩) hH ?_
    rotate_left
    · (intro v hS; obtain ⟨s0, s1, s2⟩ := hS; go_simp; try with_reducible rfl)
    simp only [Act.put, List.setIfInBounds_toArray, List.set_cons_zero, List.set_cons_succ, List.getElem_toArray, List.getElem_cons_succ, List.getElem_cons_zero]
    refine wpAnyH_take (i := 2) (v := ?_) rfl (by kernel_rfl) (by kernel_rfl) (by kernel_rfl) (fun _ _ _ h => h) (Or.inl ⟨by rfl, ?_⟩) hH ?_
    rotate_left
    · (intro v hS; obtain ⟨s0, s1, s2⟩ := hS; go_simp; try with_reducible rfl)
    simp only [Act.put, List.setIfInBounds_toArray, List.set_cons_zero, List.set_cons_succ, List.getElem_toArray, List.getElem_cons_succ, List.getElem_cons_zero]
    refine wpAnyH_ready (rs := [1, 8]) (by kernel_rfl) (by simp) ?_
    refine AllReadyH.cons rfl (fun K hK => ?_) (AllReadyH.cons rfl (fun K hK => ?_) AllReadyH.nil)
    · skip
      go_simp
      refine Calls.mono (toBs f a0 l0 c0 t0 hfs (HD.out.2.none (FB31.out _ HG.out).1)) ?_
      rintro e t1 ⟨aq, cq, bsq, rfl, hg, hnq⟩
      have HG2 : Hid (v9.grownBy t1 none) := grown_trans HG.out hg
      clear HG
      have HG := HG2
      clear HG2
      have XQ : Hid (SlOB t1 26 33 aq l0 cq f bsq) := hnq.1
      clear hg hnq
      refine hK.out _ _ (FB31.out _ HG.out).2 (fun hH2 => ?_)
      clear hK K hH
      have hH := hH2
      clear hH2
      simp only [Act.put, List.setIfInBounds_toArray, List.set_cons_zero, List.set_cons_succ, List.getElem_toArray, List.getElem_cons_succ, List.getElem_cons_zero]
      refine wpAnyH_ready (rs := [3, 8]) (by kernel_rfl) (by simp) ?_
      refine AllReadyH.cons rfl (fun K hK => ?_) (AllReadyH.cons rfl (fun K hK => ?_) AllReadyH.nil)
      · skip
        go_simp
        refine Calls.mono (toTr d k n a l c t1 (HD.out.1.none (FB31.out _ HG.out).1) hds) ?_
        rintro e t2 ⟨at', ct, bst, rfl, hg, hnt⟩
        have HG2 : Hid (v9.grownBy t2 none) := grown_trans HG.out hg
        have XQ2 : Hid (SlOB t2 26 33 aq l0 cq f bsq) := XQ.out.old hg
        clear HG XQ
        have HG := HG2
        have XQ := XQ2
        clear HG2 XQ2
        have XT : Hid (SlO t2 26 at' l ct d bst) := hnt.1
        clear hg hnt
        refine hK.out _ _ (FB31.out _ HG.out).2 (fun hH2 => ?_)
        clear hK K hH
        have hH := hH2
        clear hH2
        simp only [Act.put, List.setIfInBounds_toArray, List.set_cons_zero, List.set_cons_succ, List.getElem_toArray, List.getElem_cons_succ, List.getElem_cons_zero]
        refine wpAnyH_ready (rs := [4, 8]) (by kernel_rfl) (by simp) ?_
        refine AllReadyH.cons rfl (fun K hK => ?_) (AllReadyH.cons rfl (fun K hK => ?_) AllReadyH.nil)
        · skip
          go_simp
          refine Calls.mono (CIm.out aq cq at' ct t2 XQ.out.typed XT.out.typed) ?_
          rintro e t3 ⟨ar, lr, cr, bsr, rfl, hg, hnr⟩
          have XN : Hid (bsr.Nodup ∧ ∀ x ∈ bsr, v9.heap.size ≤ x) := ⟨hnr.2.1, fun x hx => Nat.le_trans HG.out.size (hnr.2.2 x hx)⟩
          have HG2 : Hid (v9.grownBy t3 none) := grown_trans HG.out hg
          clear HG XQ XT
          have HG := HG2
          clear HG2
          have XR : Hid (SlO t3 26 ar lr cr rd bsr) := hnr.1
          clear hg hnr
          refine hK.out _ _ (FB31.out _ HG.out).2 (fun hH2 => ?_)
          clear hK K hH
          have hH := hH2
          clear hH2
          simp only [Act.put, List.setIfInBounds_toArray, List.set_cons_zero, List.set_cons_succ, List.getElem_toArray, List.getElem_cons_succ, List.getElem_cons_zero]
          refine wpAnyH_take (i := 5) (v := ?_) rfl (by kernel_rfl) (by kernel_rfl) (by kernel_rfl) (fun _ _ _ h => h) (Or.inl ⟨by rfl, ?_⟩) hH ?_
          rotate_left
          · (intro v hS; go_simp; try with_reducible rfl)
          simp only [Act.put, List.setIfInBounds_toArray, List.set_cons_zero, List.set_cons_succ, List.getElem_toArray, List.getElem_cons_succ, List.getElem_cons_zero]
          refine wpAnyH_take (i := 6) (v := ?_) rfl (by kernel_rfl) (by kernel_rfl) (by kernel_rfl) (fun _ _ _ h => h) (Or.inl ⟨by rfl, ?_⟩) hH ?_
          rotate_left
          · (intro v hS; go_simp; try with_reducible rfl)
          simp only [Act.put, List.setIfInBounds_toArray, List.set_cons_zero, List.set_cons_succ, List.getElem_toArray, List.getElem_cons_succ, List.getElem_cons_zero]
          refine wpAnyH_take (i := 7) (v := ?_) rfl (by kernel_rfl) (by kernel_rfl) (by kernel_rfl) (fun _ _ _ h => h) (Or.inl ⟨by rfl, ?_⟩) hH ?_
          rotate_left
          · (intro v hS; go_simp; try with_reducible rfl)
          simp only [Act.put, List.setIfInBounds_toArray, List.set_cons_zero, List.set_cons_succ, List.getElem_toArray, List.getElem_cons_succ, List.getElem_cons_zero]
          refine wpAnyH_ready (rs := [8]) (by kernel_rfl) (by simp) ?_
          refine AllReadyH.cons rfl (fun K hK => ?_) AllReadyH.nil
          go_simp
          have ga := World.grownBy_alloc t3 (.cells #[.int .i64 0, .int .i64 0, .slice none 0 0] 26) none
          have ba := heap_alloc_new t3 (.cells #[.int .i64 0, .int .i64 0, .slice none 0 0] 26)
          have PG : Hid (v9.heap.size ≤ t3.heap.size) := HG.out.size
          have PN : Hid (t3.heap.size ∉ bsr) := fun hx => Nat.lt_irrefl _ (XR.out.lt _ hx)
          have HG2 : Hid (v9.grownBy (t3.alloc (.cells #[.int .i64 0, .int .i64 0, .slice none 0 0] 26)) none) := grown_trans HG.out ga
          have XR2 : Hid (SlO (t3.alloc (.cells #[.int .i64 0, .int .i64 0, .slice none 0 0] 26)) 26 ar lr cr rd bsr) := XR.out.old ga
          clear HG XR
          have HG := HG2
          have XR := XR2
          clear HG2 XR2
          have XP : Hid ((t3.alloc (.cells #[.int .i64 0, .int .i64 0, .slice none 0 0] 26)).heap[t3.heap.size]? = some (Obj.cells #[.int .i64 0, .int .i64 0, .slice none 0 0] 26)) := ba
          clear ga ba
          generalize t3.alloc (.cells #[.int .i64 0, .int .i64 0, .slice none 0 0] 26) = t4 at *
          generalize t3.heap.size = pr at *
          refine hK.out _ _ (FB31.out _ HG.out).2 (fun hH2 => ?_)
          clear hK K hH
          have hH := hH2
          clear hH2
          simp only [Act.put, List.setIfInBounds_toArray, List.set_cons_zero, List.set_cons_succ, List.getElem_toArray, List.getElem_cons_succ, List.getElem_cons_zero]
          refine wpAnyH_ready (rs := [9]) (by kernel_rfl) (by simp) ?_
          refine AllReadyH.cons rfl (fun K hK => ?_) AllReadyH.nil
          obtain ⟨⟨y0, y1, y2⟩, f0, f1, f2⟩ := three XP.out
          go_simp
          have ks := fill3 (.int .i64 rk) (.int .i64 rn) (.slice ar lr cr) XP.out
          have HF : Hid (v9.grownBy (((t4.setCell ⟨pr, 0, none⟩ (.int .i64 rk)).setCell ⟨pr, 1, none⟩ (.int .i64 rn)).setCell ⟨pr, 2, none⟩ (.slice ar lr cr)) none ∧ (((t4.setCell ⟨pr, 0, none⟩ (.int .i64 rk)).setCell ⟨pr, 1, none⟩ (.int .i64 rn)).setCell ⟨pr, 2, none⟩ (.slice ar lr cr)).heap[pr]? = some (Obj.cells #[.int .i64 rk, .int .i64 rn, .slice ar lr cr] 26) ∧ SlO (((t4.setCell ⟨pr, 0, none⟩ (.int .i64 rk)).setCell ⟨pr, 1, none⟩ (.int .i64 rn)).setCell ⟨pr, 2, none⟩ (.slice ar lr cr)) 26 ar lr cr rd bsr ∧ bsr.Nodup ∧ v9.heap.size ≤ pr ∧ (∀ x ∈ bsr, v9.heap.size ≤ x)) := ⟨grown_into HG.out ks.2 PG.out, ks.1, XR.out.kept ks.2 (fun y hy e => by injection e with e; subst e; exact PN.out hy), XN.out.1, PG.out, XN.out.2⟩
          clear ks HG XR XP XN PN PG y0 y1 y2 f0 f1 f2
          generalize ((t4.setCell ⟨pr, 0, none⟩ (.int .i64 rk)).setCell ⟨pr, 1, none⟩ (.int .i64 rn)).setCell ⟨pr, 2, none⟩ (.slice ar lr cr) = ue at *
          refine hK.out _ _ (FB31.out _ HF.out.1).2 (fun hH2 => ?_)
          clear hK K hH
          have hH := hH2
          clear hH2
          simp only [Act.put, List.setIfInBounds_toArray, List.set_cons_zero, List.set_cons_succ, List.getElem_toArray, List.getElem_cons_succ, List.getElem_cons_zero]
          refine wpAnyH_take (i := 10) (v := ?_) rfl (by kernel_rfl) (by kernel_rfl) (by kernel_rfl) (fun _ _ _ h => h) (Or.inl ⟨by rfl, ?_⟩) hH ?_
          rotate_left
          · (intro v hS; go_simp; try with_reducible rfl)
          simp only [Act.put, List.setIfInBounds_toArray, List.set_cons_zero, List.set_cons_succ, List.getElem_toArray, List.getElem_cons_succ, List.getElem_cons_zero]
          refine wpAnyH_done (by kernel_rfl) ?_ _
          clear hH
          go_wp2
          go_meet
          case rel => exact ⟨pr, ar, lr, cr, bsr, rfl, rfl, HF⟩
        · skip
          go_simp
          have ga := World.grownBy_alloc t2 (.cells #[.int .i64 0, .int .i64 0, .slice none 0 0] 26) none
          have ba := heap_alloc_new t2 (.cells #[.int .i64 0, .int .i64 0, .slice none 0 0] 26)
          have PG : Hid (v9.heap.size ≤ t2.heap.size) := HG.out.size
          have HG2 : Hid (v9.grownBy (t2.alloc (.cells #[.int .i64 0, .int .i64 0, .slice none 0 0] 26)) none) := grown_trans HG.out ga
          have XQ2 : Hid (SlOB (t2.alloc (.cells #[.int .i64 0, .int .i64 0, .slice none 0 0] 26)) 26 33 aq l0 cq f bsq) := XQ.out.old ga
          have XT2 : Hid (SlO (t2.alloc (.cells #[.int .i64 0, .int .i64 0, .slice none 0 0] 26)) 26 at' l ct d bst) := XT.out.old ga
          clear HG XQ XT
          have HG := HG2
          have XQ := XQ2
          have XT := XT2
          clear HG2 XQ2 XT2
          have XP : Hid ((t2.alloc (.cells #[.int .i64 0, .int .i64 0, .slice none 0 0] 26)).heap[t2.heap.size]? = some (Obj.cells #[.int .i64 0, .int .i64 0, .slice none 0 0] 26)) := ba
          clear ga ba
          generalize t2.alloc (.cells #[.int .i64 0, .int .i64 0, .slice none 0 0] 26) = t5 at *
          generalize t2.heap.size = pr at *
          refine hK.out _ _ (FB31.out _ HG.out).2 (fun hH2 => ?_)
          clear hK K hH
          have hH := hH2
          clear hH2
          simp only [Act.put, List.setIfInBounds_toArray, List.set_cons_zero, List.set_cons_succ, List.getElem_toArray, List.getElem_cons_succ, List.getElem_cons_zero]
          refine wpAnyH_ready (rs := [4]) (by kernel_rfl) (by simp) ?_
          refine AllReadyH.cons rfl (fun K hK => ?_) AllReadyH.nil
          go_simp
          refine Calls.mono (CIm.out aq cq at' ct t5 XQ.out.typed XT.out.typed) ?_
          rintro e t6 ⟨ar, lr, cr, bsr, rfl, hg, hnr⟩
          have XN : Hid (bsr.Nodup ∧ ∀ x ∈ bsr, v9.heap.size ≤ x) := ⟨hnr.2.1, fun x hx => Nat.le_trans HG.out.size (hnr.2.2 x hx)⟩
          have PN : Hid (pr ∉ bsr) := fun hx => Nat.lt_irrefl _ (Nat.lt_of_lt_of_le (lt_of_block XP.out) (hnr.2.2 _ hx))
          have HG2 : Hid (v9.grownBy t6 none) := grown_trans HG.out hg
          have XP2 : Hid (t6.heap[pr]? = some (Obj.cells #[.int .i64 0, .int .i64 0, .slice none 0 0] 26)) := (World.grownBy.block hg _ (lt_of_block XP.out) (by simp)).trans XP.out
          clear HG XQ XT XP
          have HG := HG2
          have XP := XP2
          clear HG2 XP2
          have XR : Hid (SlO t6 26 ar lr cr rd bsr) := hnr.1
          clear hg hnr
          refine hK.out _ _ (FB31.out _ HG.out).2 (fun hH2 => ?_)
          clear hK K hH
          have hH := hH2
          clear hH2
          simp only [Act.put, List.setIfInBounds_toArray, List.set_cons_zero, List.set_cons_succ, List.getElem_toArray, List.getElem_cons_succ, List.getElem_cons_zero]
          refine wpAnyH_take (i := 5) (v := ?_) rfl (by kernel_rfl) (by kernel_rfl) (by kernel_rfl) (fun _ _ _ h => h) (Or.inl ⟨by rfl, ?_⟩) hH ?_
          rotate_left
          · (intro v hS; go_simp; try with_reducible rfl)
          simp only [Act.put, List.setIfInBounds_toArray, List.set_cons_zero, List.set_cons_succ, List.getElem_toArray, List.getElem_cons_succ, List.getElem_cons_zero]
          refine wpAnyH_take (i := 6) (v := ?_) rfl (by kernel_rfl) (by kernel_rfl) (by kernel_rfl) (fun _ _ _ h => h) (Or.inl ⟨by rfl, ?_⟩) hH ?_
          rotate_left
          · (intro v hS; go_simp; try with_reducible rfl)
          simp only [Act.put, List.setIfInBounds_toArray, List.set_cons_zero, List.set_cons_succ, List.getElem_toArray, List.getElem_cons_succ, List.getElem_cons_zero]
          refine wpAnyH_take (i := 7) (v := ?_) rfl (by kernel_rfl) (by kernel_rfl) (by kernel_rfl) (fun _ _ _ h => h) (Or.inl ⟨by rfl, ?_⟩) hH ?_
          rotate_left
          · (intro v hS; go_simp; try with_reducible rfl)
          simp only [Act.put, List.setIfInBounds_toArray, List.set_cons_zero, List.set_cons_succ, List.getElem_toArray, List.getElem_cons_succ, List.getElem_cons_zero]
          refine wpAnyH_ready (rs := [9]) (by kernel_rfl) (by simp) ?_
          refine AllReadyH.cons rfl (fun K hK => ?_) AllReadyH.nil
          obtain ⟨⟨y0, y1, y2⟩, f0, f1, f2⟩ := three XP.out
          go_simp
          have ks := fill3 (.int .i64 rk) (.int .i64 rn) (.slice ar lr cr) XP.out
          have HF : Hid (v9.grownBy (((t6.setCell ⟨pr, 0, none⟩ (.int .i64 rk)).setCell ⟨pr, 1, none⟩ (.int .i64 rn)).setCell ⟨pr, 2, none⟩ (.slice ar lr cr)) none ∧ (((t6.setCell ⟨pr, 0, none⟩ (.int .i64 rk)).setCell ⟨pr, 1, none⟩ (.int .i64 rn)).setCell ⟨pr, 2, none⟩ (.slice ar lr cr)).heap[pr]? = some (Obj.cells #[.int .i64 rk, .int .i64 rn, .slice ar lr cr] 26) ∧ SlO (((t6.setCell ⟨pr, 0, none⟩ (.int .i64 rk)).setCell ⟨pr, 1, none⟩ (.int .i64 rn)).setCell ⟨pr, 2, none⟩ (.slice ar lr cr)) 26 ar lr cr rd bsr ∧ bsr.Nodup ∧ v9.heap.size ≤ pr ∧ (∀ x ∈ bsr, v9.heap.size ≤ x)) := ⟨grown_into HG.out ks.2 PG.out, ks.1, XR.out.kept ks.2 (fun y hy e => by injection e with e; subst e; exact PN.out hy), XN.out.1, PG.out, XN.out.2⟩
          clear ks HG XR XP XN PN PG y0 y1 y2 f0 f1 f2
          generalize ((t6.setCell ⟨pr, 0, none⟩ (.int .i64 rk)).setCell ⟨pr, 1, none⟩ (.int .i64 rn)).setCell ⟨pr, 2, none⟩ (.slice ar lr cr) = ue at *
          refine hK.out _ _ (FB31.out _ HF.out.1).2 (fun hH2 => ?_)
          clear hK K hH
          have hH := hH2
          clear hH2
          simp only [Act.put, List.setIfInBounds_toArray, List.set_cons_zero, List.set_cons_succ, List.getElem_toArray, List.getElem_cons_succ, List.getElem_cons_zero]
          refine wpAnyH_take (i := 10) (v := ?_) rfl (by kernel_rfl) (by kernel_rfl) (by kernel_rfl) (fun _ _ _ h => h) (Or.inl ⟨by rfl, ?_⟩) hH ?_
          rotate_left
          · (intro v hS; go_simp; try with_reducible rfl)
          simp only [Act.put, List.setIfInBounds_toArray, List.set_cons_zero, List.set_cons_succ, List.getElem_toArray, List.getElem_cons_succ, List.getElem_cons_zero]
          refine wpAnyH_done (by kernel_rfl) ?_ _
          clear hH
          go_wp2
          go_meet
          case rel => exact ⟨pr, ar, lr, cr, bsr, rfl, rfl, HF⟩
      · skip
        go_simp
        have ga := World.grownBy_alloc t1 (.cells #[.int .i64 0, .int .i64 0, .slice none 0 0] 26) none
        have ba := heap_alloc_new t1 (.cells #[.int .i64 0, .int .i64 0, .slice none 0 0] 26)
        have PG : Hid (v9.heap.size ≤ t1.heap.size) := HG.out.size
        have HG2 : Hid (v9.grownBy (t1.alloc (.cells #[.int .i64 0, .int .i64 0, .slice none 0 0] 26)) none) := grown_trans HG.out ga
        have XQ2 : Hid (SlOB (t1.alloc (.cells #[.int .i64 0, .int .i64 0, .slice none 0 0] 26)) 26 33 aq l0 cq f bsq) := XQ.out.old ga
        clear HG XQ
        have HG := HG2
        have XQ := XQ2
        clear HG2 XQ2
        have XP : Hid ((t1.alloc (.cells #[.int .i64 0, .int .i64 0, .slice none 0 0] 26)).heap[t1.heap.size]? = some (Obj.cells #[.int .i64 0, .int .i64 0, .slice none 0 0] 26)) := ba
        clear ga ba
        generalize t1.alloc (.cells #[.int .i64 0, .int .i64 0, .slice none 0 0] 26) = t7 at *
        generalize t1.heap.size = pr at *
        refine hK.out _ _ (FB31.out _ HG.out).2 (fun hH2 => ?_)
        clear hK K hH
        have hH := hH2
        clear hH2
        simp only [Act.put, List.setIfInBounds_toArray, List.set_cons_zero, List.set_cons_succ, List.getElem_toArray, List.getElem_cons_succ, List.getElem_cons_zero]
        refine wpAnyH_ready (rs := [3]) (by kernel_rfl) (by simp) ?_
        refine AllReadyH.cons rfl (fun K hK => ?_) AllReadyH.nil
        go_simp
        refine Calls.mono (toTr d k n a l c t7 (HD.out.1.none (FB31.out _ HG.out).1) hds) ?_
        rintro e t8 ⟨at', ct, bst, rfl, hg, hnt⟩
        have HG2 : Hid (v9.grownBy t8 none) := grown_trans HG.out hg
        have XQ2 : Hid (SlOB t8 26 33 aq l0 cq f bsq) := XQ.out.old hg
        have XP2 : Hid (t8.heap[pr]? = some (Obj.cells #[.int .i64 0, .int .i64 0, .slice none 0 0] 26)) := (World.grownBy.block hg _ (lt_of_block XP.out) (by simp)).trans XP.out
        clear HG XQ XP
        have HG := HG2
        have XQ := XQ2
        have XP := XP2
        clear HG2 XQ2 XP2
        have XT : Hid (SlO t8 26 at' l ct d bst) := hnt.1
        clear hg hnt
        refine hK.out _ _ (FB31.out _ HG.out).2 (fun hH2 => ?_)
        clear hK K hH
        have hH := hH2
        clear hH2
        simp only [Act.put, List.setIfInBounds_toArray, List.set_cons_zero, List.set_cons_succ, List.getElem_toArray, List.getElem_cons_succ, List.getElem_cons_zero]
        refine wpAnyH_ready (rs := [4]) (by kernel_rfl) (by simp) ?_
        refine AllReadyH.cons rfl (fun K hK => ?_) AllReadyH.nil
        go_simp
        refine Calls.mono (CIm.out aq cq at' ct t8 XQ.out.typed XT.out.typed) ?_
        rintro e t9 ⟨ar, lr, cr, bsr, rfl, hg, hnr⟩
        have XN : Hid (bsr.Nodup ∧ ∀ x ∈ bsr, v9.heap.size ≤ x) := ⟨hnr.2.1, fun x hx => Nat.le_trans HG.out.size (hnr.2.2 x hx)⟩
        have PN : Hid (pr ∉ bsr) := fun hx => Nat.lt_irrefl _ (Nat.lt_of_lt_of_le (lt_of_block XP.out) (hnr.2.2 _ hx))
        have HG2 : Hid (v9.grownBy t9 none) := grown_trans HG.out hg
        have XP2 : Hid (t9.heap[pr]? = some (Obj.cells #[.int .i64 0, .int .i64 0, .slice none 0 0] 26)) := (World.grownBy.block hg _ (lt_of_block XP.out) (by simp)).trans XP.out
        clear HG XQ XT XP
        have HG := HG2
        have XP := XP2
        clear HG2 XP2
        have XR : Hid (SlO t9 26 ar lr cr rd bsr) := hnr.1
        clear hg hnr
        refine hK.out _ _ (FB31.out _ HG.out).2 (fun hH2 => ?_)
        clear hK K hH
        have hH := hH2
        clear hH2
        simp only [Act.put, List.setIfInBounds_toArray, List.set_cons_zero, List.set_cons_succ, List.getElem_toArray, List.getElem_cons_succ, List.getElem_cons_zero]
        refine wpAnyH_take (i := 5) (v := ?_) rfl (by kernel_rfl) (by kernel_rfl) (by kernel_rfl) (fun _ _ _ h => h) (Or.inl ⟨by rfl, ?_⟩) hH ?_
        rotate_left
        · (intro v hS; go_simp; try with_reducible rfl)
        simp only [Act.put, List.setIfInBounds_toArray, List.set_cons_zero, List.set_cons_succ, List.getElem_toArray, List.getElem_cons_succ, List.getElem_cons_zero]
        refine wpAnyH_take (i := 6) (v := ?_) rfl (by kernel_rfl) (by kernel_rfl) (by kernel_rfl) (fun _ _ _ h => h) (Or.inl ⟨by rfl, ?_⟩) hH ?_
        rotate_left
        · (intro v hS; go_simp; try with_reducible rfl)
        simp only [Act.put, List.setIfInBounds_toArray, List.set_cons_zero, List.set_cons_succ, List.getElem_toArray, List.getElem_cons_succ, List.getElem_cons_zero]
        refine wpAnyH_take (i := 7) (v := ?_) rfl (by kernel_rfl) (by kernel_rfl) (by kernel_rfl) (fun _ _ _ h => h) (Or.inl ⟨by rfl, ?_⟩) hH ?_
        rotate_left
        · (intro v hS; go_simp; try with_reducible rfl)
        simp only [Act.put, List.setIfInBounds_toArray, List.set_cons_zero, List.set_cons_succ, List.getElem_toArray, List.getElem_cons_succ, List.getElem_cons_zero]
        refine wpAnyH_ready (rs := [9]) (by kernel_rfl) (by simp) ?_
        refine AllReadyH.cons rfl (fun K hK => ?_) AllReadyH.nil
        obtain ⟨⟨y0, y1, y2⟩, f0, f1, f2⟩ := three XP.out
        go_simp
        have ks := fill3 (.int .i64 rk) (.int .i64 rn) (.slice ar lr cr) XP.out
        have HF : Hid (v9.grownBy (((t9.setCell ⟨pr, 0, none⟩ (.int .i64 rk)).setCell ⟨pr, 1, none⟩ (.int .i64 rn)).setCell ⟨pr, 2, none⟩ (.slice ar lr cr)) none ∧ (((t9.setCell ⟨pr, 0, none⟩ (.int .i64 rk)).setCell ⟨pr, 1, none⟩ (.int .i64 rn)).setCell ⟨pr, 2, none⟩ (.slice ar lr cr)).heap[pr]? = some (Obj.cells #[.int .i64 rk, .int .i64 rn, .slice ar lr cr] 26) ∧ SlO (((t9.setCell ⟨pr, 0, none⟩ (.int .i64 rk)).setCell ⟨pr, 1, none⟩ (.int .i64 rn)).setCell ⟨pr, 2, none⟩ (.slice ar lr cr)) 26 ar lr cr rd bsr ∧ bsr.Nodup ∧ v9.heap.size ≤ pr ∧ (∀ x ∈ bsr, v9.heap.size ≤ x)) := ⟨grown_into HG.out ks.2 PG.out, ks.1, XR.out.kept ks.2 (fun y hy e => by injection e with e; subst e; exact PN.out hy), XN.out.1, PG.out, XN.out.2⟩
        clear ks HG XR XP XN PN PG y0 y1 y2 f0 f1 f2
        generalize ((t9.setCell ⟨pr, 0, none⟩ (.int .i64 rk)).setCell ⟨pr, 1, none⟩ (.int .i64 rn)).setCell ⟨pr, 2, none⟩ (.slice ar lr cr) = ue at *
        refine hK.out _ _ (FB31.out _ HF.out.1).2 (fun hH2 => ?_)
        clear hK K hH
        have hH := hH2
        clear hH2
        simp only [Act.put, List.setIfInBounds_toArray, List.set_cons_zero, List.set_cons_succ, List.getElem_toArray, List.getElem_cons_succ, List.getElem_cons_zero]
        refine wpAnyH_take (i := 10) (v := ?_) rfl (by kernel_rfl) (by kernel_rfl) (by kernel_rfl) (fun _ _ _ h => h) (Or.inl ⟨by rfl, ?_⟩) hH ?_
        rotate_left
        · (intro v hS; go_simp; try with_reducible rfl)
        simp only [Act.put, List.setIfInBounds_toArray, List.set_cons_zero, List.set_cons_succ, List.getElem_toArray, List.getElem_cons_succ, List.getElem_cons_zero]
        refine wpAnyH_done (by kernel_rfl) ?_ _
        clear hH
        go_wp2
        go_meet
        case rel => exact ⟨pr, ar, lr, cr, bsr, rfl, rfl, HF⟩
    · skip
      go_simp
      have ga := World.grownBy_alloc t0 (.cells #[.int .i64 0, .int .i64 0, .slice none 0 0] 26) none
      have ba := heap_alloc_new t0 (.cells #[.int .i64 0, .int .i64 0, .slice none 0 0] 26)
      have PG : Hid (v9.heap.size ≤ t0.heap.size) := HG.out.size
      have HG2 : Hid (v9.grownBy (t0.alloc (.cells #[.int .i64 0, .int .i64 0, .slice none 0 0] 26)) none) := grown_trans HG.out ga
      clear HG
      have HG := HG2
      clear HG2
      have XP : Hid ((t0.alloc (.cells #[.int .i64 0, .int .i64 0, .slice none 0 0] 26)).heap[t0.heap.size]? = some (Obj.cells #[.int .i64 0, .int .i64 0, .slice none 0 0] 26)) := ba
      clear ga ba
      generalize t0.alloc (.cells #[.int .i64 0, .int .i64 0, .slice none 0 0] 26) = t10 at *
      generalize t0.heap.size = pr at *
      refine hK.out _ _ (FB31.out _ HG.out).2 (fun hH2 => ?_)
      clear hK K hH
      have hH := hH2
      clear hH2
      simp only [Act.put, List.setIfInBounds_toArray, List.set_cons_zero, List.set_cons_succ, List.getElem_toArray, List.getElem_cons_succ, List.getElem_cons_zero]
      refine wpAnyH_ready (rs := [1]) (by kernel_rfl) (by simp) ?_
      refine AllReadyH.cons rfl (fun K hK => ?_) AllReadyH.nil
      go_simp
      refine Calls.mono (toBs f a0 l0 c0 t10 hfs (HD.out.2.none (FB31.out _ HG.out).1)) ?_
      rintro e t11 ⟨aq, cq, bsq, rfl, hg, hnq⟩
      have HG2 : Hid (v9.grownBy t11 none) := grown_trans HG.out hg
      have XP2 : Hid (t11.heap[pr]? = some (Obj.cells #[.int .i64 0, .int .i64 0, .slice none 0 0] 26)) := (World.grownBy.block hg _ (lt_of_block XP.out) (by simp)).trans XP.out
      clear HG XP
      have HG := HG2
      have XP := XP2
      clear HG2 XP2
      have XQ : Hid (SlOB t11 26 33 aq l0 cq f bsq) := hnq.1
      clear hg hnq
      refine hK.out _ _ (FB31.out _ HG.out).2 (fun hH2 => ?_)
      clear hK K hH
      have hH := hH2
      clear hH2
      simp only [Act.put, List.setIfInBounds_toArray, List.set_cons_zero, List.set_cons_succ, List.getElem_toArray, List.getElem_cons_succ, List.getElem_cons_zero]
      refine wpAnyH_ready (rs := [3]) (by kernel_rfl) (by simp) ?_
      refine AllReadyH.cons rfl (fun K hK => ?_) AllReadyH.nil
      go_simp
      refine Calls.mono (toTr d k n a l c t11 (HD.out.1.none (FB31.out _ HG.out).1) hds) ?_
      rintro e t12 ⟨at', ct, bst, rfl, hg, hnt⟩
      have HG2 : Hid (v9.grownBy t12 none) := grown_trans HG.out hg
      have XQ2 : Hid (SlOB t12 26 33 aq l0 cq f bsq) := XQ.out.old hg
      have XP2 : Hid (t12.heap[pr]? = some (Obj.cells #[.int .i64 0, .int .i64 0, .slice none 0 0] 26)) := (World.grownBy.block hg _ (lt_of_block XP.out) (by simp)).trans XP.out
      clear HG XQ XP
      have HG := HG2
      have XQ := XQ2
      have XP := XP2
      clear HG2 XQ2 XP2
      have XT : Hid (SlO t12 26 at' l ct d bst) := hnt.1
      clear hg hnt
      refine hK.out _ _ (FB31.out _ HG.out).2 (fun hH2 => ?_)
      clear hK K hH
      have hH := hH2
      clear hH2
      simp only [Act.put, List.setIfInBounds_toArray, List.set_cons_zero, List.set_cons_succ, List.getElem_toArray, List.getElem_cons_succ, List.getElem_cons_zero]
      refine wpAnyH_ready (rs := [4]) (by kernel_rfl) (by simp) ?_
      refine AllReadyH.cons rfl (fun K hK => ?_) AllReadyH.nil
      go_simp
      refine Calls.mono (CIm.out aq cq at' ct t12 XQ.out.typed XT.out.typed) ?_
      rintro e t13 ⟨ar, lr, cr, bsr, rfl, hg, hnr⟩
      have XN : Hid (bsr.Nodup ∧ ∀ x ∈ bsr, v9.heap.size ≤ x) := ⟨hnr.2.1, fun x hx => Nat.le_trans HG.out.size (hnr.2.2 x hx)⟩
      have PN : Hid (pr ∉ bsr) := fun hx => Nat.lt_irrefl _ (Nat.lt_of_lt_of_le (lt_of_block XP.out) (hnr.2.2 _ hx))
      have HG2 : Hid (v9.grownBy t13 none) := grown_trans HG.out hg
      have XP2 : Hid (t13.heap[pr]? = some (Obj.cells #[.int .i64 0, .int .i64 0, .slice none 0 0] 26)) := (World.grownBy.block hg _ (lt_of_block XP.out) (by simp)).trans XP.out
      clear HG XQ XT XP
      have HG := HG2
      have XP := XP2
      clear HG2 XP2
      have XR : Hid (SlO t13 26 ar lr cr rd bsr) := hnr.1
      clear hg hnr
      refine hK.out _ _ (FB31.out _ HG.out).2 (fun hH2 => ?_)
      clear hK K hH
      have hH := hH2
      clear hH2
      simp only [Act.put, List.setIfInBounds_toArray, List.set_cons_zero, List.set_cons_succ, List.getElem_toArray, List.getElem_cons_succ, List.getElem_cons_zero]
      refine wpAnyH_take (i := 5) (v := ?_) rfl (by kernel_rfl) (by kernel_rfl) (by kernel_rfl) (fun _ _ _ h => h) (Or.inl ⟨by rfl, ?_⟩) hH ?_
      rotate_left
      · (intro v hS; go_simp; try with_reducible rfl)
      simp only [Act.put, List.setIfInBounds_toArray, List.set_cons_zero, List.set_cons_succ, List.getElem_toArray, List.getElem_cons_succ, List.getElem_cons_zero]
      refine wpAnyH_take (i := 6) (v := ?_) rfl (by kernel_rfl) (by kernel_rfl) (by kernel_rfl) (fun _ _ _ h => h) (Or.inl ⟨by rfl, ?_⟩) hH ?_
      rotate_left
      · (intro v hS; go_simp; try with_reducible rfl)
      simp only [Act.put, List.setIfInBounds_toArray, List.set_cons_zero, List.set_cons_succ, List.getElem_toArray, List.getElem_cons_succ, List.getElem_cons_zero]
      refine wpAnyH_take (i := 7) (v := ?_) rfl (by kernel_rfl) (by kernel_rfl) (by kernel_rfl) (fun _ _ _ h => h) (Or.inl ⟨by rfl, ?_⟩) hH ?_
      rotate_left
      · (intro v hS; go_simp; try with_reducible rfl)
      simp only [Act.put, List.setIfInBounds_toArray, List.set_cons_zero, List.set_cons_succ, List.getElem_toArray, List.getElem_cons_succ, List.getElem_cons_zero]
      refine wpAnyH_ready (rs := [9]) (by kernel_rfl) (by simp) ?_
      refine AllReadyH.cons rfl (fun K hK => ?_) AllReadyH.nil
      obtain ⟨⟨y0, y1, y2⟩, f0, f1, f2⟩ := three XP.out
      go_simp
      have ks := fill3 (.int .i64 rk) (.int .i64 rn) (.slice ar lr cr) XP.out
      have HF : Hid (v9.grownBy (((t13.setCell ⟨pr, 0, none⟩ (.int .i64 rk)).setCell ⟨pr, 1, none⟩ (.int .i64 rn)).setCell ⟨pr, 2, none⟩ (.slice ar lr cr)) none ∧ (((t13.setCell ⟨pr, 0, none⟩ (.int .i64 rk)).setCell ⟨pr, 1, none⟩ (.int .i64 rn)).setCell ⟨pr, 2, none⟩ (.slice ar lr cr)).heap[pr]? = some (Obj.cells #[.int .i64 rk, .int .i64 rn, .slice ar lr cr] 26) ∧ SlO (((t13.setCell ⟨pr, 0, none⟩ (.int .i64 rk)).setCell ⟨pr, 1, none⟩ (.int .i64 rn)).setCell ⟨pr, 2, none⟩ (.slice ar lr cr)) 26 ar lr cr rd bsr ∧ bsr.Nodup ∧ v9.heap.size ≤ pr ∧ (∀ x ∈ bsr, v9.heap.size ≤ x)) := ⟨grown_into HG.out ks.2 PG.out, ks.1, XR.out.kept ks.2 (fun y hy e => by injection e with e; subst e; exact PN.out hy), XN.out.1, PG.out, XN.out.2⟩
      clear ks HG XR XP XN PN PG y0 y1 y2 f0 f1 f2
      generalize ((t13.setCell ⟨pr, 0, none⟩ (.int .i64 rk)).setCell ⟨pr, 1, none⟩ (.int .i64 rn)).setCell ⟨pr, 2, none⟩ (.slice ar lr cr) = ue at *
      refine hK.out _ _ (FB31.out _ HF.out.1).2 (fun hH2 => ?_)
      clear hK K hH
      have hH := hH2
      clear hH2
      simp only [Act.put, List.setIfInBounds_toArray, List.set_cons_zero, List.set_cons_succ, List.getElem_toArray, List.getElem_cons_succ, List.getElem_cons_zero]
      refine wpAnyH_take (i := 10) (v := ?_) rfl (by kernel_rfl) (by kernel_rfl) (by kernel_rfl) (fun _ _ _ h => h) (Or.inl ⟨by rfl, ?_⟩) hH ?_
      rotate_left
      · (intro v hS; go_simp; try with_reducible rfl)
      simp only [Act.put, List.setIfInBounds_toArray, List.set_cons_zero, List.set_cons_succ, List.getElem_toArray, List.getElem_cons_succ, List.getElem_cons_zero]
      refine wpAnyH_done (by kernel_rfl) ?_ _
      clear hH
      go_wp2
      go_meet
      case rel => exact ⟨pr, ar, lr, cr, bsr, rfl, rfl, HF⟩
  case rest =>
  obtain ⟨ph, ah, lh, ch, bsh, rfl, rfl, HR31⟩ := hcut
  clear FB31
  have wc9 : ∃ wy, wy = wc := ⟨_, rfl⟩
  obtain ⟨wy, ewy⟩ := wc9
  rw [← ewy] at HR31 ⊢
  clear ewy
  have L19 : Hid ((w.grownBy wy none) ∧ (wy.heap[p]? = some (Obj.cells #[.int .i64 k, .int .i64 n, .slice a l c] 49)) ∧ (w.heap.size = p) ∧ (wy.heap[pw]? = some (Obj.cells #[.int .i64 rk, .int .i64 rn, .slice aw lw cw] 26)) ∧ (SlO wy 26 (aw) lw cw (rd) bsw) ∧ (∀ x ∈ bsw, x < z0) ∧ (p < z0) ∧ (pw < z0) ∧ (∀ x ∈ bs5, z0 ≤ x ∧ x < z6) ∧ (z0 ≤ z6) ∧ (wy.heap[px]? = some (Obj.cells #[.int .i64 k, .int .i64 n, .slice a4 l c4] 26)) ∧ (∀ x ∈ bs4, z6 ≤ x ∧ x < px) ∧ (z6 ≤ px) ∧ (wy.heap[pg]? = some (Obj.cells #[.int .i64 rk, .int .i64 rn, .slice ag lw cg] 26)) ∧ (∀ x ∈ bsg, px < x ∧ x < pg) ∧ (px < pg) ∧ (SlO wy 26 (ag) lw cg (markF rd 1) bsg) ∧ (wy.heap[ph]? = some (Obj.cells #[.int .i64 rk, .int .i64 rn, .slice ah lh ch] 26)) ∧ (SlO wy 26 (ah) lh ch (rd) bsh)) := ⟨grown_trans (L18.out.1) HR31.out.1, (World.grownBy.block HR31.out.1 _ (lt_of_block (L18.out.2.1)) (by simp)).trans (L18.out.2.1), L18.out.2.2.1, (World.grownBy.block HR31.out.1 _ (lt_of_block (L18.out.2.2.2.1)) (by simp)).trans (L18.out.2.2.2.1), SlO.old (L18.out.2.2.2.2.1) HR31.out.1, L18.out.2.2.2.2.2.1, L18.out.2.2.2.2.2.2.1, L18.out.2.2.2.2.2.2.2.1, L18.out.2.2.2.2.2.2.2.2.1, L18.out.2.2.2.2.2.2.2.2.2.1, (World.grownBy.block HR31.out.1 _ (lt_of_block (L18.out.2.2.2.2.2.2.2.2.2.2.1)) (by simp)).trans (L18.out.2.2.2.2.2.2.2.2.2.2.1), L18.out.2.2.2.2.2.2.2.2.2.2.2.1, L18.out.2.2.2.2.2.2.2.2.2.2.2.2.1, (World.grownBy.block HR31.out.1 _ (lt_of_block (L18.out.2.2.2.2.2.2.2.2.2.2.2.2.2.1)) (by simp)).trans (L18.out.2.2.2.2.2.2.2.2.2.2.2.2.2.1), L18.out.2.2.2.2.2.2.2.2.2.2.2.2.2.2.1, L18.out.2.2.2.2.2.2.2.2.2.2.2.2.2.2.2.1, SlO.old (L18.out.2.2.2.2.2.2.2.2.2.2.2.2.2.2.2.2) HR31.out.1, HR31.out.2.1, HR31.out.2.2.1⟩
  clear L18
  clear HR31
  have elh : lw = lh := (L19.out.2.2.2.2.1).1.symm.trans (L19.out.2.2.2.2.2.2.2.2.2.2.2.2.2.2.2.2.2.2).1
  subst elh
  obtain ⟨⟨x11_0, x11_1, x11_2⟩, -⟩ := three (L19.out.2.2.2.2.2.2.2.2.2.2.2.2.2.2.2.2.2.1)
  obtain ⟨⟨x12_0, x12_1, x12_2⟩, -⟩ := three (L19.out.2.2.2.1)
  go_wp2_with fail
  refine Calls.mono (eqTr rd rk rn ah aw lw ch cw wy (SlO.reads (L19.out.2.2.2.2.2.2.2.2.2.2.2.2.2.2.2.2.2.2)) (SlO.reads (L19.out.2.2.2.2.1))) ?_
  rintro e v14 ⟨rfl, hg⟩
  have L20 : Hid ((w.grownBy v14 none) ∧ (v14.heap[p]? = some (Obj.cells #[.int .i64 k, .int .i64 n, .slice a l c] 49)) ∧ (w.heap.size = p) ∧ (v14.heap[pw]? = some (Obj.cells #[.int .i64 rk, .int .i64 rn, .slice aw lw cw] 26)) ∧ (SlO v14 26 (aw) lw cw (rd) bsw) ∧ (∀ x ∈ bsw, x < z0) ∧ (p < z0) ∧ (pw < z0) ∧ (∀ x ∈ bs5, z0 ≤ x ∧ x < z6) ∧ (z0 ≤ z6) ∧ (v14.heap[px]? = some (Obj.cells #[.int .i64 k, .int .i64 n, .slice a4 l c4] 26)) ∧ (∀ x ∈ bs4, z6 ≤ x ∧ x < px) ∧ (z6 ≤ px) ∧ (v14.heap[pg]? = some (Obj.cells #[.int .i64 rk, .int .i64 rn, .slice ag lw cg] 26)) ∧ (∀ x ∈ bsg, px < x ∧ x < pg) ∧ (px < pg) ∧ (SlO v14 26 (ag) lw cg (markF rd 1) bsg) ∧ (v14.heap[ph]? = some (Obj.cells #[.int .i64 rk, .int .i64 rn, .slice ah lw ch] 26)) ∧ (SlO v14 26 (ah) lw ch (rd) bsh)) := ⟨grown_trans (L19.out.1) hg, (World.grownBy.block hg _ (lt_of_block (L19.out.2.1)) (by simp)).trans (L19.out.2.1), L19.out.2.2.1, (World.grownBy.block hg _ (lt_of_block (L19.out.2.2.2.1)) (by simp)).trans (L19.out.2.2.2.1), SlO.old (L19.out.2.2.2.2.1) hg, L19.out.2.2.2.2.2.1, L19.out.2.2.2.2.2.2.1, L19.out.2.2.2.2.2.2.2.1, L19.out.2.2.2.2.2.2.2.2.1, L19.out.2.2.2.2.2.2.2.2.2.1, (World.grownBy.block hg _ (lt_of_block (L19.out.2.2.2.2.2.2.2.2.2.2.1)) (by simp)).trans (L19.out.2.2.2.2.2.2.2.2.2.2.1), L19.out.2.2.2.2.2.2.2.2.2.2.2.1, L19.out.2.2.2.2.2.2.2.2.2.2.2.2.1, (World.grownBy.block hg _ (lt_of_block (L19.out.2.2.2.2.2.2.2.2.2.2.2.2.2.1)) (by simp)).trans (L19.out.2.2.2.2.2.2.2.2.2.2.2.2.2.1), L19.out.2.2.2.2.2.2.2.2.2.2.2.2.2.2.1, L19.out.2.2.2.2.2.2.2.2.2.2.2.2.2.2.2.1, SlO.old (L19.out.2.2.2.2.2.2.2.2.2.2.2.2.2.2.2.2.1) hg, (World.grownBy.block hg _ (lt_of_block (L19.out.2.2.2.2.2.2.2.2.2.2.2.2.2.2.2.2.2.1)) (by simp)).trans (L19.out.2.2.2.2.2.2.2.2.2.2.2.2.2.2.2.2.2.1), SlO.old (L19.out.2.2.2.2.2.2.2.2.2.2.2.2.2.2.2.2.2.2) hg⟩
  clear L19 x11_0 x11_1 x11_2 x12_0 x12_1 x12_2
  clear hg
  simp only []
  obtain ⟨⟨x13_0, x13_1, x13_2⟩, -⟩ := three (L20.out.2.2.2.2.2.2.2.2.2.2.2.2.2.1)
  go_wp2_with fail
  refine Calls.mono (heldTr rd rk rn ag lw cg 1 v14 (SlO.reads (L20.out.2.2.2.2.2.2.2.2.2.2.2.2.2.2.2.2.1)) (by omega) (by omega)) ?_
  rintro e v15 ⟨rfl, hg⟩
  have L21 : Hid ((w.grownBy v15 none) ∧ (v15.heap[p]? = some (Obj.cells #[.int .i64 k, .int .i64 n, .slice a l c] 49)) ∧ (w.heap.size = p) ∧ (v15.heap[pw]? = some (Obj.cells #[.int .i64 rk, .int .i64 rn, .slice aw lw cw] 26)) ∧ (SlO v15 26 (aw) lw cw (rd) bsw) ∧ (∀ x ∈ bsw, x < z0) ∧ (p < z0) ∧ (pw < z0) ∧ (∀ x ∈ bs5, z0 ≤ x ∧ x < z6) ∧ (z0 ≤ z6) ∧ (v15.heap[px]? = some (Obj.cells #[.int .i64 k, .int .i64 n, .slice a4 l c4] 26)) ∧ (∀ x ∈ bs4, z6 ≤ x ∧ x < px) ∧ (z6 ≤ px) ∧ (v15.heap[pg]? = some (Obj.cells #[.int .i64 rk, .int .i64 rn, .slice ag lw cg] 26)) ∧ (∀ x ∈ bsg, px < x ∧ x < pg) ∧ (px < pg) ∧ (SlO v15 26 (ag) lw cg (markF rd 1) bsg) ∧ (v15.heap[ph]? = some (Obj.cells #[.int .i64 rk, .int .i64 rn, .slice ah lw ch] 26)) ∧ (SlO v15 26 (ah) lw ch (rd) bsh)) := ⟨grown_trans (L20.out.1) hg, (World.grownBy.block hg _ (lt_of_block (L20.out.2.1)) (by simp)).trans (L20.out.2.1), L20.out.2.2.1, (World.grownBy.block hg _ (lt_of_block (L20.out.2.2.2.1)) (by simp)).trans (L20.out.2.2.2.1), SlO.old (L20.out.2.2.2.2.1) hg, L20.out.2.2.2.2.2.1, L20.out.2.2.2.2.2.2.1, L20.out.2.2.2.2.2.2.2.1, L20.out.2.2.2.2.2.2.2.2.1, L20.out.2.2.2.2.2.2.2.2.2.1, (World.grownBy.block hg _ (lt_of_block (L20.out.2.2.2.2.2.2.2.2.2.2.1)) (by simp)).trans (L20.out.2.2.2.2.2.2.2.2.2.2.1), L20.out.2.2.2.2.2.2.2.2.2.2.2.1, L20.out.2.2.2.2.2.2.2.2.2.2.2.2.1, (World.grownBy.block hg _ (lt_of_block (L20.out.2.2.2.2.2.2.2.2.2.2.2.2.2.1)) (by simp)).trans (L20.out.2.2.2.2.2.2.2.2.2.2.2.2.2.1), L20.out.2.2.2.2.2.2.2.2.2.2.2.2.2.2.1, L20.out.2.2.2.2.2.2.2.2.2.2.2.2.2.2.2.1, SlO.old (L20.out.2.2.2.2.2.2.2.2.2.2.2.2.2.2.2.2.1) hg, (World.grownBy.block hg _ (lt_of_block (L20.out.2.2.2.2.2.2.2.2.2.2.2.2.2.2.2.2.2.1)) (by simp)).trans (L20.out.2.2.2.2.2.2.2.2.2.2.2.2.2.2.2.2.2.1), SlO.old (L20.out.2.2.2.2.2.2.2.2.2.2.2.2.2.2.2.2.2.2) hg⟩
  clear L20 x13_0 x13_1 x13_2
  clear hg
  simp only []
  go_wp2
  go_ret
  exact ⟨rfl, L21.out.1⟩
end Go.Proofs.Ytjchjdcaampghaa.By
