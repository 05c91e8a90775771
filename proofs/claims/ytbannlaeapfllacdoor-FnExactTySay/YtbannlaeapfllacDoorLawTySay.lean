/-
  The walk of laws.FnExactTySay. No statement is proved here.
-/
import Derived.Test.YtbannlaeapfllacDoorTSl
import Derived.Test.YtbannlaeapfllacDoorTLaw
namespace Go.Proofs.YtbannlaeapfllacDoor.By
open Go.RowKit
set_option linter.unusedVariables false
set_option linter.unusedSimpArgs false

set_option maxRecDepth 8000 in
set_option maxHeartbeats 4000000 in
theorem lawTySay (d : F) (k n : Int) (a : Option Addr) (l c : Nat) (w : World) (h : SlF w a l d) (hTab : ∀ u, w.grownBy u none → Lib.TabIs Tryd.prog u "internal/strconv.uint64pow10" .u64 Lib.pow10Tab) :
    Calls Tryd.prog 3 #[.agg #[.int .i64 k, .int .i64 n, .slice a l c]] w fun e u => e = .returned (.bool true) ∧ w.grownBy u none := by
  have g0 := World.grownBy_alloc w (.cells #[.int .i64 k, .int .i64 n, .slice a l c] 24) none
  have b0 := heap_alloc_new w (.cells #[.int .i64 k, .int .i64 n, .slice a l c] 24)
  have C1 : Hid _ := szTr d k n a l c 1048576 _ (h.none g0) (by omega) (by omega)
  by_cases hs : (d.size : Int) ≤ 1048576
  rotate_left
  · have e1 : szV d 1048576 = -1 := if_neg hs
    rw [e1] at C1
    have G0 : Hid (w.grownBy _ none) := g0
    clear g0 b0 e1 h hs
    go_enter Tryd.func3, Tryd.ntmps3
    go_wp2_with fail
    refine Calls.mono C1.out ?_
    rintro e w1 ⟨rfl, hg⟩
    have G1 : Hid (w.grownBy w1 none) := grown_trans G0.out hg
    clear hg G0 C1
    simp only []
    go_wp2
    go_ret
    exact ⟨rfl, G1.out⟩
  have e1 : szV d 1048576 = 1048576 - d.size := if_pos hs
  rw [e1] at C1
  have hpos : ¬ ((1048576 : Int) - d.size < 0) := by omega
  have hds : d.size ≤ 1048576 := by omega
  have HD : Hid (SlF w a l d) := h
  have L0 : Hid (w.grownBy _ none ∧ _ = some (Obj.cells #[.int .i64 k, .int .i64 n, .slice a l c] 24)) := ⟨g0, b0⟩
  clear g0 b0 e1 h hs
  go_enter Tryd.func3, Tryd.ntmps3
  go_wp2_with fail
  refine Calls.mono C1.out ?_
  rintro e w1 ⟨rfl, hg⟩
  obtain ⟨g0, b0⟩ := L0.out
  have g1 := grown_trans g0 hg
  have b1 := (hg.block _ (lt_of_block b0) (by simp)).trans b0
  clear hg L0 C1 g0 b0
  have hbase : w.heap.size ≤ w.heap.size := Nat.le_refl _
  generalize ep : w.heap.size = p at b1
  generalize hq : (1048576 : Int) - d.size = q at *
  have EP : Hid (w.heap.size = p) := ep
  simp only [ep]
  have L1 : Hid ((w.grownBy w1 none) ∧ (w1.heap[p]? = some (Obj.cells #[.int .i64 k, .int .i64 n, .slice a l c] 24))) := ⟨g1, b1⟩
  clear g1 b1 ep hbase
  have HN : (sayV k n d).length ≤ 720 := by have := sayV_len k n d; omega
  obtain ⟨⟨x0_0, x0_1, x0_2⟩, -⟩ := three (L1.out.2)
  go_wp2_with fail
  refine Calls.mono (toTr d k n a l c w1 (HD.out.none (L1.out.1)) hds) ?_
  rintro e w2 ⟨a2, c2, bs2, rfl, hg, hn2⟩
  have L2 : Hid ((w.grownBy w2 none) ∧ (w2.heap[p]? = some (Obj.cells #[.int .i64 k, .int .i64 n, .slice a l c] 24)) ∧ (SlF w2 (a2) l (d))) := ⟨grown_trans (L1.out.1) hg, (World.grownBy.block hg _ (lt_of_block (L1.out.2)) (by simp)).trans (L1.out.2), hn2.1.reads⟩
  clear L1 x0_0 x0_1 x0_2
  clear hg
  simp only []
  clear hn2
  go_wp2_with fail
  refine Calls.mono (specTySayT d k n a2 l c2 w2 (L2.out.2.2)) ?_
  rintro e w3 ⟨aw, cw, rfl, hg, hw⟩
  have L3 : Hid ((w.grownBy w3 none) ∧ (w3.heap[p]? = some (Obj.cells #[.int .i64 k, .int .i64 n, .slice a l c] 24)) ∧ (OwS w2.heap.size w3 aw (sayV k n d).length cw ((sayV k n d)))) := ⟨grown_trans (L2.out.1) hg, (World.grownBy.block hg _ (lt_of_block (L2.out.2.1)) (by simp)).trans (L2.out.2.1), hw⟩
  clear L2
  clear hg
  simp only []
  clear hw
  generalize hZS : (sayV k n d) = ZS at *
  generalize hNN : ZS.length = N at *
  obtain ⟨⟨x1_0, x1_1, x1_2⟩, -⟩ := three (L3.out.2.1)
  go_wp2_with fail
  refine Calls.mono (toTr d k n a l c w3 (HD.out.none (L3.out.1)) hds) ?_
  rintro e w4 ⟨a4, c4, bs4, rfl, hg, hn4⟩
  have ga := World.grownBy_alloc w4 (.cells #[.int .i64 k, .int .i64 n, .slice a4 l c4] 30) none
  have ba := heap_alloc_new w4 (.cells #[.int .i64 k, .int .i64 n, .slice a4 l c4] 30)
  have hgg := grown_trans hg ga
  have hP4 : ∀ x ∈ bs4, (p < x ∧ x < w4.heap.size) ∧ w.heap.size ≤ x := fun x hx => ⟨⟨Nat.lt_of_lt_of_le (lt_of_block (L3.out.2.1)) (hn4.2.2 x hx), hn4.1.lt x hx⟩, by have := hn4.2.2 x hx; have := (L3.out.1).size; omega⟩
  have hlw : ∀ x, (Value.slice aw N cw).ownBlock = some x → x < w4.heap.size := fun x hx => Nat.lt_of_lt_of_le ((L3.out.2.2).lt x hx).2 hg.size
  have hpr : w.heap.size ≤ w4.heap.size := Nat.le_trans (L3.out.1).size hg.size
  have L4 : Hid ((w.grownBy (w4.alloc (.cells #[.int .i64 k, .int .i64 n, .slice a4 l c4] 30)) none) ∧ ((w4.alloc (.cells #[.int .i64 k, .int .i64 n, .slice a4 l c4] 30)).heap[p]? = some (Obj.cells #[.int .i64 k, .int .i64 n, .slice a l c] 24)) ∧ (OwS w2.heap.size (w4.alloc (.cells #[.int .i64 k, .int .i64 n, .slice a4 l c4] 30)) aw N cw ZS) ∧ ((w4.alloc (.cells #[.int .i64 k, .int .i64 n, .slice a4 l c4] 30)).heap[w4.heap.size]? = some (Obj.cells #[.int .i64 k, .int .i64 n, .slice a4 l c4] 30)) ∧ (SlO (w4.alloc (.cells #[.int .i64 k, .int .i64 n, .slice a4 l c4] 30)) 30 (a4) l c4 (d) bs4) ∧ (bs4.Nodup) ∧ (∀ x ∈ bs4, (p < x ∧ x < w4.heap.size) ∧ w.heap.size ≤ x) ∧ (∀ x, (Value.slice aw N cw).ownBlock = some x → x < w4.heap.size) ∧ (w.heap.size ≤ w4.heap.size)) := ⟨grown_trans (L3.out.1) hgg, (World.grownBy.block hgg _ (lt_of_block (L3.out.2.1)) (by simp)).trans (L3.out.2.1), OwS.kept (L3.out.2.2) hgg, ba, hn4.1.old ga, hn4.2.1, hP4, hlw, hpr⟩
  clear L3 x1_0 x1_1 x1_2
  clear hg ga ba hgg hn4 hP4 hlw hpr
  simp only []
  obtain ⟨⟨x2_0, x2_1, x2_2⟩, -⟩ := three (L4.out.2.2.2.1)
  go_wp2_with fail
  generalize er : w4.heap.size = r at *
  refine Calls.mono (implTySayT d k n a4 l c4 _ (SlO.reads (L4.out.2.2.2.2.1)) (fun u' hu' => hTab u' (grown_trans (L4.out.1) hu'))) ?_
  rintro e w5 ⟨ag, cg, he, hg, hw⟩
  rw [hZS, hNN] at he hw
  subst he
  have L5 : Hid ((w.grownBy w5 none) ∧ (w5.heap[p]? = some (Obj.cells #[.int .i64 k, .int .i64 n, .slice a l c] 24)) ∧ (OwS w2.heap.size w5 aw N cw ZS) ∧ (w5.heap[r]? = some (Obj.cells #[.int .i64 k, .int .i64 n, .slice a4 l c4] 30)) ∧ (SlO w5 30 (a4) l c4 (d) bs4) ∧ (bs4.Nodup) ∧ (∀ x ∈ bs4, (p < x ∧ x < r) ∧ w.heap.size ≤ x) ∧ (∀ x, (Value.slice aw N cw).ownBlock = some x → x < r) ∧ (w.heap.size ≤ r) ∧ (OwS r w5 ag N cg (ZS))) := ⟨grown_trans (L4.out.1) hg, (World.grownBy.block hg _ (lt_of_block (L4.out.2.1)) (by simp)).trans (L4.out.2.1), OwS.kept (L4.out.2.2.1) hg, (World.grownBy.block hg _ (lt_of_block (L4.out.2.2.2.1)) (by simp)).trans (L4.out.2.2.2.1), SlO.old (L4.out.2.2.2.2.1) hg, L4.out.2.2.2.2.2.1, L4.out.2.2.2.2.2.2.1, L4.out.2.2.2.2.2.2.2.1, L4.out.2.2.2.2.2.2.2.2, OwS.mono hw (by rw [← er]; simp)⟩
  clear L4 x2_0 x2_1 x2_2
  clear hg
  simp only []
  clear hw
  have hN : N ≤ 4194304 := by omega
  go_wp2_with fail
  refine Calls.mono (eqBS ag aw N cg cw ZS w5 (L5.out.2.2.2.2.2.2.2.2.2).reads (L5.out.2.2.1).reads hN) ?_
  rintro e w6 ⟨rfl, hg⟩
  have L6 : Hid ((w.grownBy w6 none) ∧ (w6.heap[p]? = some (Obj.cells #[.int .i64 k, .int .i64 n, .slice a l c] 24)) ∧ (OwS w2.heap.size w6 aw N cw ZS) ∧ (w6.heap[r]? = some (Obj.cells #[.int .i64 k, .int .i64 n, .slice a4 l c4] 30)) ∧ (SlO w6 30 (a4) l c4 (d) bs4) ∧ (bs4.Nodup) ∧ (∀ x ∈ bs4, (p < x ∧ x < r) ∧ w.heap.size ≤ x) ∧ (∀ x, (Value.slice aw N cw).ownBlock = some x → x < r) ∧ (w.heap.size ≤ r) ∧ (OwS r w6 ag N cg (ZS))) := ⟨grown_trans (L5.out.1) hg, (World.grownBy.block hg _ (lt_of_block (L5.out.2.1)) (by simp)).trans (L5.out.2.1), OwS.kept (L5.out.2.2.1) hg, (World.grownBy.block hg _ (lt_of_block (L5.out.2.2.2.1)) (by simp)).trans (L5.out.2.2.2.1), SlO.old (L5.out.2.2.2.2.1) hg, L5.out.2.2.2.2.2.1, L5.out.2.2.2.2.2.2.1, L5.out.2.2.2.2.2.2.2.1, L5.out.2.2.2.2.2.2.2.2.1, OwS.kept (L5.out.2.2.2.2.2.2.2.2.2) hg⟩
  clear L5
  clear hg
  simp only []
  go_wp2_with fail
  have L7 : Hid ((w.grownBy w6.drew none) ∧ (w6.drew.heap[p]? = some (Obj.cells #[.int .i64 k, .int .i64 n, .slice a l c] 24)) ∧ (OwS w2.heap.size w6.drew aw N cw ZS) ∧ (w6.drew.heap[r]? = some (Obj.cells #[.int .i64 k, .int .i64 n, .slice a4 l c4] 30)) ∧ (SlO w6.drew 30 (a4) l c4 (d) bs4) ∧ (bs4.Nodup) ∧ (∀ x ∈ bs4, (p < x ∧ x < r) ∧ w.heap.size ≤ x) ∧ (∀ x, (Value.slice aw N cw).ownBlock = some x → x < r) ∧ (w.heap.size ≤ r) ∧ (OwS r w6.drew ag N cg (ZS))) := ⟨grown_trans (L6.out.1) (grown_drew (World.grownBy.refl w6 none)), (World.grownBy.block (grown_drew (World.grownBy.refl w6 none)) _ (lt_of_block (L6.out.2.1)) (by simp)).trans (L6.out.2.1), OwS.kept (L6.out.2.2.1) (grown_drew (World.grownBy.refl w6 none)), (World.grownBy.block (grown_drew (World.grownBy.refl w6 none)) _ (lt_of_block (L6.out.2.2.2.1)) (by simp)).trans (L6.out.2.2.2.1), SlO.old (L6.out.2.2.2.2.1) (grown_drew (World.grownBy.refl w6 none)), L6.out.2.2.2.2.2.1, L6.out.2.2.2.2.2.2.1, L6.out.2.2.2.2.2.2.2.1, L6.out.2.2.2.2.2.2.2.2.1, OwS.kept (L6.out.2.2.2.2.2.2.2.2.2) (grown_drew (World.grownBy.refl w6 none))⟩
  clear L6
  refine wp_region_held_drew (S := (fun u0 => Tri p 0 (.int .i64 k) (.int .i64 n) (.slice a l c) u0 ∧ Tri r 0 (.int .i64 k) (.int .i64 n) (.slice a4 l c4) u0)) (by kernel_rfl) ⟨(three (L7.out.2.1)).1, (three (L7.out.2.2.2.1)).1⟩ (fun hH => ?_)
  generalize w6.drew = u0 at *
  simp only [List.size_toArray, List.length_cons, List.length_nil, Nat.reduceAdd, Array.replicate, List.replicate]
  refine wpAnyH_take (i := 0) (v := ?_) rfl (by kernel_rfl) (by kernel_rfl) (by kernel_rfl) (fun _ _ _ h => h) (Or.inl ⟨by rfl, ?_⟩) hH ?_
  rotate_left
  · (intro v hS; obtain ⟨⟨s00, s01, s02⟩, ⟨s10, s11, s12⟩⟩ := hS; go_simp; try with_reducible rfl)
  simp only [Act.put, List.setIfInBounds_toArray, List.set_cons_zero, List.set_cons_succ, List.getElem_toArray, List.getElem_cons_succ, List.getElem_cons_zero]
  refine wpAnyH_take (i := 1) (v := ?_) rfl (by kernel_rfl) (by kernel_rfl) (by kernel_rfl) (fun _ _ _ h => h) (Or.inl ⟨by rfl, ?_⟩) hH ?_
  rotate_left
  · (intro v hS; obtain ⟨⟨s00, s01, s02⟩, ⟨s10, s11, s12⟩⟩ := hS; go_simp; try with_reducible rfl)
  simp only [Act.put, List.setIfInBounds_toArray, List.set_cons_zero, List.set_cons_succ, List.getElem_toArray, List.getElem_cons_succ, List.getElem_cons_zero]
  refine wpAnyH_ready (rs := [2]) (by kernel_rfl) (by simp) ?_
  refine AllReadyH.cons rfl (fun K hK => ?_) AllReadyH.nil
  go_simp
  refine Calls.mono (toTr d k n a l c u0 (HD.out.none (L7.out.1)) hds) ?_
  rintro e u1 ⟨a6, c6, bs6, rfl, hg, hn6⟩
  have L8 : Hid ((w.grownBy u1 none) ∧ (u1.heap[p]? = some (Obj.cells #[.int .i64 k, .int .i64 n, .slice a l c] 24)) ∧ (OwS w2.heap.size u1 aw N cw ZS) ∧ (u1.heap[r]? = some (Obj.cells #[.int .i64 k, .int .i64 n, .slice a4 l c4] 30)) ∧ (SlO u1 30 (a4) l c4 (d) bs4) ∧ (bs4.Nodup) ∧ (∀ x ∈ bs4, (p < x ∧ x < r) ∧ w.heap.size ≤ x) ∧ (∀ x, (Value.slice aw N cw).ownBlock = some x → x < r) ∧ (w.heap.size ≤ r) ∧ (OwS r u1 ag N cg (ZS)) ∧ (SlF u1 (a6) l (d))) := ⟨grown_trans (L7.out.1) hg, (World.grownBy.block hg _ (lt_of_block (L7.out.2.1)) (by simp)).trans (L7.out.2.1), OwS.kept (L7.out.2.2.1) hg, (World.grownBy.block hg _ (lt_of_block (L7.out.2.2.2.1)) (by simp)).trans (L7.out.2.2.2.1), SlO.old (L7.out.2.2.2.2.1) hg, L7.out.2.2.2.2.2.1, L7.out.2.2.2.2.2.2.1, L7.out.2.2.2.2.2.2.2.1, L7.out.2.2.2.2.2.2.2.2.1, OwS.kept (L7.out.2.2.2.2.2.2.2.2.2) hg, hn6.1.reads⟩
  clear L7
  refine hK.out _ _ ⟨(three (L8.out.2.1)).1, (three (L8.out.2.2.2.1)).1⟩ (fun hH2 => ?_)
  clear hK K hH
  have hH := hH2
  clear hH2 hg
  simp only [Act.put, List.setIfInBounds_toArray, List.set_cons_zero, List.set_cons_succ, List.getElem_toArray, List.getElem_cons_succ, List.getElem_cons_zero]
  clear hn6
  refine wpAnyH_ready (rs := [3]) (by kernel_rfl) (by simp) ?_
  refine AllReadyH.cons rfl (fun K hK => ?_) AllReadyH.nil
  go_simp
  refine Calls.mono (eqTr d k n a4 a6 l c4 c6 u1 (SlO.reads (L8.out.2.2.2.2.1)) (L8.out.2.2.2.2.2.2.2.2.2.2)) ?_
  rintro e u2 ⟨rfl, hg⟩
  have L9 : Hid ((w.grownBy u2 none) ∧ (u2.heap[p]? = some (Obj.cells #[.int .i64 k, .int .i64 n, .slice a l c] 24)) ∧ (OwS w2.heap.size u2 aw N cw ZS) ∧ (u2.heap[r]? = some (Obj.cells #[.int .i64 k, .int .i64 n, .slice a4 l c4] 30)) ∧ (SlO u2 30 (a4) l c4 (d) bs4) ∧ (bs4.Nodup) ∧ (∀ x ∈ bs4, (p < x ∧ x < r) ∧ w.heap.size ≤ x) ∧ (∀ x, (Value.slice aw N cw).ownBlock = some x → x < r) ∧ (w.heap.size ≤ r) ∧ (OwS r u2 ag N cg (ZS))) := ⟨grown_trans (L8.out.1) hg, (World.grownBy.block hg _ (lt_of_block (L8.out.2.1)) (by simp)).trans (L8.out.2.1), OwS.kept (L8.out.2.2.1) hg, (World.grownBy.block hg _ (lt_of_block (L8.out.2.2.2.1)) (by simp)).trans (L8.out.2.2.2.1), SlO.old (L8.out.2.2.2.2.1) hg, L8.out.2.2.2.2.2.1, L8.out.2.2.2.2.2.2.1, L8.out.2.2.2.2.2.2.2.1, L8.out.2.2.2.2.2.2.2.2.1, OwS.kept (L8.out.2.2.2.2.2.2.2.2.2.1) hg⟩
  clear L8
  refine hK.out _ _ ⟨(three (L9.out.2.1)).1, (three (L9.out.2.2.2.1)).1⟩ (fun hH2 => ?_)
  clear hK K hH
  have hH := hH2
  clear hH2 hg
  simp only [Act.put, List.setIfInBounds_toArray, List.set_cons_zero, List.set_cons_succ, List.getElem_toArray, List.getElem_cons_succ, List.getElem_cons_zero]
  refine wpAnyH_take (i := 4) (v := ?_) rfl (by kernel_rfl) (by kernel_rfl) (by kernel_rfl) (fun _ _ _ h => h) (Or.inl ⟨by rfl, ?_⟩) hH ?_
  rotate_left
  · (intro v hS; go_simp; try with_reducible rfl)
  simp only [Act.put, List.setIfInBounds_toArray, List.set_cons_zero, List.set_cons_succ, List.getElem_toArray, List.getElem_cons_succ, List.getElem_cons_zero]
  refine wpAnyH_done (by kernel_rfl) ?_ _
  obtain ⟨⟨x3_0, x3_1, x3_2⟩, -⟩ := three (L9.out.2.2.2.1)
  have hd1 : (1 : Int) + 2 * d.size ≤ 4611686018427387904 := by omega
  go_wp2_with fail
  refine Calls.mono (markTr d k n a4 l c4 bs4 1 u2 (L9.out.2.2.2.2.1) (L9.out.2.2.2.2.2.1) (by omega) hd1) ?_
  rintro e u3 ⟨rfl, ht, -⟩
  have hblk := SlO.blkS (L9.out.2.2.2.2.1)
  have L10 : Hid ((w.grownBy u3 none) ∧ (u3.heap[p]? = some (Obj.cells #[.int .i64 k, .int .i64 n, .slice a l c] 24)) ∧ (OwS w2.heap.size u3 aw N cw (ZS)) ∧ (OwS r u3 ag N cg (ZS)) ∧ (∀ x, (Value.slice aw N cw).ownBlock = some x → x < r) ∧ (w.heap.size ≤ r)) := ⟨Tn.fresh (L9.out.1) ht (fun x hx => (L9.out.2.2.2.2.2.2.1 x hx).2), (ht.block p (lt_of_block (L9.out.2.1)) (fun hx => by have := (L9.out.2.2.2.2.2.2.1 p hx).1.1; omega)).trans (L9.out.2.1), (L9.out.2.2.1).tn ht hblk, (L9.out.2.2.2.2.2.2.2.2.2).tn ht hblk, L9.out.2.2.2.2.2.2.2.1, L9.out.2.2.2.2.2.2.2.2.1⟩
  clear L9 x3_0 x3_1 x3_2
  clear ht hblk
  simp only []
  have hk1 : decide ((1 : Int) + 2 * d.size < 0) = false := by simp; omega
  go_wp2_with fail
  refine Calls.mono (eqBS ag aw N cg cw ZS u3 (L10.out.2.2.2.1).reads (L10.out.2.2.1).reads hN) ?_
  rintro e u4 ⟨rfl, hg⟩
  have L11 : Hid ((w.grownBy u4 none) ∧ (u4.heap[p]? = some (Obj.cells #[.int .i64 k, .int .i64 n, .slice a l c] 24)) ∧ (OwS w2.heap.size u4 aw N cw (ZS)) ∧ (OwS r u4 ag N cg (ZS)) ∧ (∀ x, (Value.slice aw N cw).ownBlock = some x → x < r) ∧ (w.heap.size ≤ r)) := ⟨grown_trans (L10.out.1) hg, (World.grownBy.block hg _ (lt_of_block (L10.out.2.1)) (by simp)).trans (L10.out.2.1), OwS.kept (L10.out.2.2.1) hg, OwS.kept (L10.out.2.2.2.1) hg, L10.out.2.2.2.2.1, L10.out.2.2.2.2.2⟩
  clear L10
  clear hg
  simp only []
  clear hk1
  go_wp2_with fail
  refine Calls.mono (markBS r N cg ag ZS 1 u4 (L11.out.2.2.2.1) hN (by omega) (by omega)) ?_
  rintro e u5 ⟨rfl, hg, hm⟩
  have L12 : Hid ((w.grownBy u5 none) ∧ (u5.heap[p]? = some (Obj.cells #[.int .i64 k, .int .i64 n, .slice a l c] 24)) ∧ (OwS w2.heap.size u5 aw N cw (ZS)) ∧ (OwS r u5 ag N cg (marks 1 N))) := ⟨(L11.out.2.2.2.1).grown (A := 0) hg (L11.out.1) (L11.out.2.2.2.2.2), (L11.out.2.2.2.1).box hg (L11.out.2.1) (by decide), (L11.out.2.2.1).far (B' := 0) hg (fun x hx e => by have h1 := (L11.out.2.2.2.2.1) x hx; have h2 := ((L11.out.2.2.2.1).lt x e).1; omega), hm⟩
  clear L11
  clear hg hm
  simp only []
  have hq1 : ¬ ((1 : Int) + N < 0) := by omega
  go_wp2_with fail
  refine Calls.mono (heldBS ag N cg 1 u5 (L12.out.2.2.2).reads hN (by omega) (by omega)) ?_
  rintro e u6 ⟨rfl, hg⟩
  have L13 : Hid ((w.grownBy u6 none) ∧ (u6.heap[p]? = some (Obj.cells #[.int .i64 k, .int .i64 n, .slice a l c] 24)) ∧ (OwS w2.heap.size u6 aw N cw (ZS)) ∧ (OwS r u6 ag N cg (marks 1 N))) := ⟨grown_trans (L12.out.1) hg, (World.grownBy.block hg _ (lt_of_block (L12.out.2.1)) (by simp)).trans (L12.out.2.1), OwS.kept (L12.out.2.2.1) hg, OwS.kept (L12.out.2.2.2) hg⟩
  clear L12
  clear hg
  simp only []
  obtain ⟨⟨x4_0, x4_1, x4_2⟩, -⟩ := three (L13.out.2.1)
  go_wp2_with fail
  refine Calls.mono (toTr d k n a l c u6 (HD.out.none (L13.out.1)) hds) ?_
  rintro e u7 ⟨a7, c7, bs7, rfl, hg, hn7⟩
  have L14 : Hid ((w.grownBy u7 none) ∧ (u7.heap[p]? = some (Obj.cells #[.int .i64 k, .int .i64 n, .slice a l c] 24)) ∧ (OwS w2.heap.size u7 aw N cw (ZS)) ∧ (OwS r u7 ag N cg (marks 1 N)) ∧ (SlF u7 (a7) l (d))) := ⟨grown_trans (L13.out.1) hg, (World.grownBy.block hg _ (lt_of_block (L13.out.2.1)) (by simp)).trans (L13.out.2.1), OwS.kept (L13.out.2.2.1) hg, OwS.kept (L13.out.2.2.2) hg, hn7.1.reads⟩
  clear L13 x4_0 x4_1 x4_2
  clear hg
  simp only []
  clear hn7
  go_wp2_with fail
  refine Calls.mono (implTySayT d k n a7 l c7 u7 (L14.out.2.2.2.2) (fun u' hu' => hTab u' (grown_trans (L14.out.1) hu'))) ?_
  rintro e u8 ⟨ah, ch, he, hg, hw⟩
  rw [hZS, hNN] at he hw
  subst he
  have L15 : Hid ((w.grownBy u8 none) ∧ (u8.heap[p]? = some (Obj.cells #[.int .i64 k, .int .i64 n, .slice a l c] 24)) ∧ (OwS w2.heap.size u8 aw N cw (ZS)) ∧ (OwS r u8 ag N cg (marks 1 N)) ∧ (OwS u7.heap.size u8 ah N ch (ZS))) := ⟨grown_trans (L14.out.1) hg, (World.grownBy.block hg _ (lt_of_block (L14.out.2.1)) (by simp)).trans (L14.out.2.1), OwS.kept (L14.out.2.2.1) hg, OwS.kept (L14.out.2.2.2.1) hg, hw⟩
  clear L14
  clear hg
  simp only []
  clear hw
  go_wp2_with fail
  refine Calls.mono (eqBS ah aw N ch cw ZS u8 (L15.out.2.2.2.2).reads (L15.out.2.2.1).reads hN) ?_
  rintro e u9 ⟨rfl, hg⟩
  have L16 : Hid ((w.grownBy u9 none) ∧ (u9.heap[p]? = some (Obj.cells #[.int .i64 k, .int .i64 n, .slice a l c] 24)) ∧ (OwS w2.heap.size u9 aw N cw (ZS)) ∧ (OwS r u9 ag N cg (marks 1 N)) ∧ (OwS u7.heap.size u9 ah N ch (ZS))) := ⟨grown_trans (L15.out.1) hg, (World.grownBy.block hg _ (lt_of_block (L15.out.2.1)) (by simp)).trans (L15.out.2.1), OwS.kept (L15.out.2.2.1) hg, OwS.kept (L15.out.2.2.2.1) hg, OwS.kept (L15.out.2.2.2.2) hg⟩
  clear L15
  clear hg
  simp only []
  go_wp2_with fail
  refine Calls.mono (heldBS ag N cg 1 u9 (L16.out.2.2.2.1).reads hN (by omega) (by omega)) ?_
  rintro e u10 ⟨rfl, hg⟩
  have L17 : Hid ((w.grownBy u10 none) ∧ (u10.heap[p]? = some (Obj.cells #[.int .i64 k, .int .i64 n, .slice a l c] 24)) ∧ (OwS w2.heap.size u10 aw N cw (ZS)) ∧ (OwS r u10 ag N cg (marks 1 N)) ∧ (OwS u7.heap.size u10 ah N ch (ZS))) := ⟨grown_trans (L16.out.1) hg, (World.grownBy.block hg _ (lt_of_block (L16.out.2.1)) (by simp)).trans (L16.out.2.1), OwS.kept (L16.out.2.2.1) hg, OwS.kept (L16.out.2.2.2.1) hg, OwS.kept (L16.out.2.2.2.2) hg⟩
  clear L16
  clear hg
  simp only []
  go_wp2
  go_ret
  exact ⟨rfl, L17.out.1⟩
end Go.Proofs.YtbannlaeapfllacDoor.By
