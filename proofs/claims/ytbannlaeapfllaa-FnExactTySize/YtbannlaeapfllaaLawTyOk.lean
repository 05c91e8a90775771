/-
  The walks of laws.FnExactTyOk and laws.FnExactTySize. No statement is proved here.
-/
import Derived.Test.YtbannlaeapfllaaTSize
import Derived.Test.YtbannlaeapfllaaTLaw
namespace Go.Proofs.Ytbannlaeapfllaa.By
open Go.RowKit
set_option linter.unusedVariables false
set_option linter.unusedSimpArgs false


set_option maxHeartbeats 2000000 in
theorem lawTyOk (d : F) (k n : Int) (a : Option Addr) (l c : Nat) (w : World) (h : SlF w a l d) :
    Calls Try.prog 6 #[.agg #[.int .i64 k, .int .i64 n, .slice a l c]] w fun e u => e = .returned (.bool true) ∧ w.grownBy u none := by
  have g0 := World.grownBy_alloc w (.cells #[.int .i64 k, .int .i64 n, .slice a l c] 48) none
  have b0 := heap_alloc_new w (.cells #[.int .i64 k, .int .i64 n, .slice a l c] 48)
  have C1 : Hid _ := szTr d k n a l c 1048576 _ (h.none g0) (by omega) (by omega)
  by_cases hs : (d.size : Int) ≤ 1048576
  rotate_left
  · have e1 : szV d 1048576 = -1 := if_neg hs
    rw [e1] at C1
    have G0 : Hid (w.grownBy _ none) := g0
    clear g0 b0 e1 h hs
    go_enter Try.func6, Try.ntmps6
    go_wp2_with fail
    refine Calls.mono C1.out ?_
    rintro e w1 ⟨rfl, hg⟩
    have G1 : Hid (w.grownBy w1 none) := grown_trans G0.out hg
    clear hg G0 C1
    simp only []
    go_wp2
    go_ret
    exact ⟨rfl, G1.out⟩
  have e1 : szV d 1048576 = 1048576 - d.size := if_pos hs
  rw [e1] at C1
  have hpos : ¬ ((1048576 : Int) - d.size < 0) := by omega
  have hds : d.size ≤ 1048576 := by omega
  have S0 : w.heap.size < (w.alloc (.cells #[.int .i64 k, .int .i64 n, .slice a l c] 48)).heap.size := by simp
  have HD : Hid (SlF w a l d) := h
  have FX : Hid (w.grownBy _ none ∧ _ = some (Obj.cells #[.int .i64 k, .int .i64 n, .slice a l c] 48) ∧ _ < _) := ⟨g0, b0, S0⟩
  clear g0 b0 e1 h hs S0
  go_enter Try.func6, Try.ntmps6
  go_wp2_with fail
  refine Calls.mono C1.out ?_
  rintro e w1 ⟨rfl, hg⟩
  obtain ⟨g0, b0, s0⟩ := FX.out
  have b1 := (hg.block _ s0 (by simp)).trans b0
  have g1 := grown_trans g0 hg
  have s1 := Nat.lt_of_lt_of_le s0 hg.size
  clear hg FX C1 g0 b0 s0
  generalize ep : w.heap.size = p at *
  obtain ⟨⟨x0, x1, x2⟩, -⟩ := three b1
  have FX : Hid (w.grownBy w1 none ∧ w1.heap[p]? = _ ∧ p < w1.heap.size) := ⟨g1, b1, s1⟩
  clear b1 g1 s1
  generalize hq : (1048576 : Int) - d.size = q at *
  simp only []
  go_wp2_with fail
  -- a tree of our own for the specification
  refine Calls.mono (toTr d k n a l c w1 (HD.out.none FX.out.1) hds) ?_
  rintro e w2 ⟨a2, c2, bs2, rfl, hg, hn2⟩
  obtain ⟨g1, b1, s1⟩ := FX.out
  have FY : Hid (w.grownBy w2 none ∧ w2.heap[p]? = _ ∧ p < w2.heap.size) := ⟨grown_trans g1 hg, (hg.block _ s1 (by simp)).trans b1, Nat.lt_of_lt_of_le s1 hg.size⟩
  have C2 : Hid _ := specTyOkT d k n a2 l c2 w2 hn2.1.reads
  clear hg hn2 FX g1 b1 s1 x0 x1 x2
  simp only []
  go_wp2_with fail
  refine Calls.mono C2.out ?_
  rintro e w3 ⟨rfl, hg⟩
  obtain ⟨g1, b1, s1⟩ := FY.out
  have FX : Hid (w.grownBy w3 none ∧ w3.heap[p]? = _ ∧ p < w3.heap.size) := ⟨grown_trans g1 hg, (hg.block _ s1 (by simp)).trans b1, Nat.lt_of_lt_of_le s1 hg.size⟩
  obtain ⟨⟨x0, x1, x2⟩, -⟩ := three FX.out.2.1
  clear hg C2 FY g1 b1 s1
  generalize hans : okT k n d = ans at *
  simp only []
  go_wp2_with fail
  -- the argument of the program itself
  refine Calls.mono (toTr d k n a l c w3 (HD.out.none FX.out.1) hds) ?_
  rintro e w4 ⟨a4, c4, bs4, rfl, hg, hn4⟩
  obtain ⟨g1, b1, s1⟩ := FX.out
  have ga := World.grownBy_alloc w4 (.cells #[.int .i64 k, .int .i64 n, .slice a4 l c4] 25) none
  have ba := heap_alloc_new w4 (.cells #[.int .i64 k, .int .i64 n, .slice a4 l c4] 25)
  have hg' := grown_trans hg ga
  have sa : w4.heap.size < (w4.alloc (.cells #[.int .i64 k, .int .i64 n, .slice a4 l c4] 25)).heap.size := by simp
  have FY : Hid (w.grownBy _ none ∧ _ = some (Obj.cells #[.int .i64 k, .int .i64 n, .slice a l c] 48) ∧ p < _ ∧ _ = some (Obj.cells #[.int .i64 k, .int .i64 n, .slice a4 l c4] 25) ∧ w4.heap.size < _ ∧ SlF _ a4 l d ∧ p < w4.heap.size) := ⟨grown_trans g1 hg', (hg'.block _ s1 (by simp)).trans b1, Nat.lt_of_lt_of_le s1 hg'.size, ba, sa, hn4.1.reads.none ga, Nat.lt_of_lt_of_le s1 hg.size⟩
  have C4 : Hid _ := implTyOkT d k n a4 l c4 _ FY.out.2.2.2.2.2.1
  clear hg hg' hn4 FX g1 b1 s1 x0 x1 x2 ga ba sa
  rw [hans] at C4
  simp only []
  go_wp2_with fail
  refine Calls.mono C4.out ?_
  rintro e w5 ⟨rfl, hg⟩
  obtain ⟨g1, b1, s1, b2, s2, hr, s3⟩ := FY.out
  have b5 := (hg.block _ s1 (by simp)).trans b1
  have c5 := (hg.block _ s2 (by simp)).trans b2
  generalize eq : w4.heap.size = r at *
  have hpr : p ≠ r := by omega
  have gd := grown_drew (World.grownBy.refl w5 none)
  have FX : Hid (w.grownBy w5.drew none ∧ w5.heap[p]? = _ ∧ p < w5.heap.size ∧ w5.heap[r]? = _ ∧ r < w5.heap.size ∧ SlF w5.drew a4 l d) := ⟨grown_trans (grown_trans g1 hg) gd, b5, Nat.lt_of_lt_of_le s1 hg.size, c5, Nat.lt_of_lt_of_le s2 hg.size, (hr.none hg).none gd⟩
  have T0 : Hid (Tri p 0 (.int .i64 k) (.int .i64 n) (.slice a l c) w5.drew ∧ Tri r 0 (.int .i64 k) (.int .i64 n) (.slice a4 l c4) w5.drew) := ⟨Tri.none (three b5).1 gd, Tri.none (three c5).1 gd⟩
  clear hg C4 FY g1 b1 s1 b2 s2 hr s3 b5 c5 eq gd hans
  simp only []
  go_wp2_with fail
  refine wp_region_held_drew (S := (fun u => Tri p 0 (.int .i64 k) (.int .i64 n) (.slice a l c) u ∧ Tri r 0 (.int .i64 k) (.int .i64 n) (.slice a4 l c4) u)) (by kernel_rfl) T0.out (fun hH => ?_)
  obtain ⟨g1, -, -, -, -, hr⟩ := FX.out
  have FY : Hid (w.grownBy w5.drew none ∧ SlF w5.drew a4 l d) := ⟨g1, hr⟩
  clear FX g1 hr
  generalize w5.drew = u at *
  clear w5
  simp only [List.size_toArray, List.length_cons, List.length_nil, Nat.reduceAdd, Array.replicate, List.replicate]
  refine wpAnyH_take (i := 0) (v := ?_) rfl (by kernel_rfl) (by kernel_rfl) (by kernel_rfl) (fun _ _ _ h => h) (Or.inl ⟨by rfl, ?_⟩) hH ?_
  rotate_left
  · (intro v hS; obtain ⟨⟨s0, s1, s2⟩, t0, t1, t2⟩ := hS; go_simp; try with_reducible rfl)
  simp only [Act.put, List.setIfInBounds_toArray, List.set_cons_zero, List.set_cons_succ, List.getElem_toArray, List.getElem_cons_succ, List.getElem_cons_zero]
  refine wpAnyH_take (i := 1) (v := ?_) rfl (by kernel_rfl) (by kernel_rfl) (by kernel_rfl) (fun _ _ _ h => h) (Or.inl ⟨by rfl, ?_⟩) hH ?_
  rotate_left
  · (intro v hS; obtain ⟨⟨s0, s1, s2⟩, t0, t1, t2⟩ := hS; go_simp; try with_reducible rfl)
  simp only [Act.put, List.setIfInBounds_toArray, List.set_cons_zero, List.set_cons_succ, List.getElem_toArray, List.getElem_cons_succ, List.getElem_cons_zero]
  refine wpAnyH_ready (rs := [2]) (by kernel_rfl) (by simp) ?_
  refine AllReadyH.cons rfl (fun K hK => ?_) AllReadyH.nil
  go_simp
  refine Calls.mono (toTr d k n a l c u (HD.out.none FY.out.1) hds) ?_
  rintro e u1 ⟨a6, c6, bs6, rfl, hg, hn6⟩
  refine hK.out _ _ ⟨Tri.none T0.out.1 hg, Tri.none T0.out.2 hg⟩ (fun hH2 => ?_)
  clear hK K hH
  have hH := hH2
  clear hH2
  have FX : Hid (w.grownBy u1 none ∧ SlF u1 a4 l d ∧ SlF u1 a6 l d) := ⟨grown_trans FY.out.1 hg, FY.out.2.none hg, hn6.1.reads⟩
  have T1 : Hid (Tri p 0 (.int .i64 k) (.int .i64 n) (.slice a l c) u1 ∧ Tri r 0 (.int .i64 k) (.int .i64 n) (.slice a4 l c4) u1) := ⟨Tri.none T0.out.1 hg, Tri.none T0.out.2 hg⟩
  clear FY hg hn6 T0
  simp only [Act.put, List.setIfInBounds_toArray, List.set_cons_zero, List.set_cons_succ, List.getElem_toArray, List.getElem_cons_succ, List.getElem_cons_zero]
  refine wpAnyH_ready (rs := [3]) (by kernel_rfl) (by simp) ?_
  refine AllReadyH.cons rfl (fun K hK => ?_) AllReadyH.nil
  go_simp
  refine Calls.mono (eqTr d k n a4 a6 l c4 c6 u1 FX.out.2.1 FX.out.2.2) ?_
  rintro e u2 ⟨rfl, hg⟩
  refine hK.out _ _ ⟨Tri.none T1.out.1 hg, Tri.none T1.out.2 hg⟩ (fun hH2 => ?_)
  clear hK K hH
  have hH := hH2
  clear hH2
  have FIN : Hid (w.grownBy u2 none) := grown_trans FX.out.1 hg
  clear FX hg T1
  simp only [Act.put, List.setIfInBounds_toArray, List.set_cons_zero, List.set_cons_succ, List.getElem_toArray, List.getElem_cons_succ, List.getElem_cons_zero]
  refine wpAnyH_take (i := 4) (v := ?_) rfl (by kernel_rfl) (by kernel_rfl) (by kernel_rfl) (fun _ _ _ h => h) (Or.inl ⟨by rfl, ?_⟩) hH ?_
  rotate_left
  · (intro v hS; go_simp; try with_reducible rfl)
  simp only [Act.put, List.setIfInBounds_toArray, List.set_cons_zero, List.set_cons_succ, List.getElem_toArray, List.getElem_cons_succ, List.getElem_cons_zero]
  refine wpAnyH_done (by kernel_rfl) ?_ _
  go_wp2
  go_ret
  exact ⟨rfl, FIN.out⟩

set_option maxHeartbeats 2000000 in
theorem lawTySize (d : F) (k n : Int) (a : Option Addr) (l c : Nat) (w : World) (h : SlF w a l d) :
    Calls Try.prog 7 #[.agg #[.int .i64 k, .int .i64 n, .slice a l c]] w fun e u => e = .returned (.bool true) ∧ w.grownBy u none := by
  have g0 := World.grownBy_alloc w (.cells #[.int .i64 k, .int .i64 n, .slice a l c] 48) none
  have b0 := heap_alloc_new w (.cells #[.int .i64 k, .int .i64 n, .slice a l c] 48)
  have C1 : Hid _ := szTr d k n a l c 1048576 _ (h.none g0) (by omega) (by omega)
  by_cases hs : (d.size : Int) ≤ 1048576
  rotate_left
  · have e1 : szV d 1048576 = -1 := if_neg hs
    rw [e1] at C1
    have G0 : Hid (w.grownBy _ none) := g0
    clear g0 b0 e1 h hs
    go_enter Try.func7, Try.ntmps7
    go_wp2_with fail
    refine Calls.mono C1.out ?_
    rintro e w1 ⟨rfl, hg⟩
    have G1 : Hid (w.grownBy w1 none) := grown_trans G0.out hg
    clear hg G0 C1
    simp only []
    go_wp2
    go_ret
    exact ⟨rfl, G1.out⟩
  have e1 : szV d 1048576 = 1048576 - d.size := if_pos hs
  rw [e1] at C1
  have hpos : ¬ ((1048576 : Int) - d.size < 0) := by omega
  have hds : d.size ≤ 1048576 := by omega
  have S0 : w.heap.size < (w.alloc (.cells #[.int .i64 k, .int .i64 n, .slice a l c] 48)).heap.size := by simp
  have HD : Hid (SlF w a l d) := h
  have FX : Hid (w.grownBy _ none ∧ _ = some (Obj.cells #[.int .i64 k, .int .i64 n, .slice a l c] 48) ∧ _ < _) := ⟨g0, b0, S0⟩
  clear g0 b0 e1 h hs S0
  go_enter Try.func7, Try.ntmps7
  go_wp2_with fail
  refine Calls.mono C1.out ?_
  rintro e w1 ⟨rfl, hg⟩
  obtain ⟨g0, b0, s0⟩ := FX.out
  have b1 := (hg.block _ s0 (by simp)).trans b0
  have g1 := grown_trans g0 hg
  have s1 := Nat.lt_of_lt_of_le s0 hg.size
  clear hg FX C1 g0 b0 s0
  generalize ep : w.heap.size = p at *
  obtain ⟨⟨x0, x1, x2⟩, -⟩ := three b1
  have FX : Hid (w.grownBy w1 none ∧ w1.heap[p]? = _ ∧ p < w1.heap.size) := ⟨g1, b1, s1⟩
  clear b1 g1 s1
  generalize hq : (1048576 : Int) - d.size = q at *
  simp only []
  go_wp2_with fail
  -- a tree of our own for the specification
  refine Calls.mono (toTr d k n a l c w1 (HD.out.none FX.out.1) hds) ?_
  rintro e w2 ⟨a2, c2, bs2, rfl, hg, hn2⟩
  obtain ⟨g1, b1, s1⟩ := FX.out
  have FY : Hid (w.grownBy w2 none ∧ w2.heap[p]? = _ ∧ p < w2.heap.size) := ⟨grown_trans g1 hg, (hg.block _ s1 (by simp)).trans b1, Nat.lt_of_lt_of_le s1 hg.size⟩
  have C2 : Hid _ := specTySizeT d k n a2 l c2 w2 hn2.1.reads
  clear hg hn2 FX g1 b1 s1 x0 x1 x2
  simp only []
  go_wp2_with fail
  refine Calls.mono C2.out ?_
  rintro e w3 ⟨rfl, hg⟩
  obtain ⟨g1, b1, s1⟩ := FY.out
  have FX : Hid (w.grownBy w3 none ∧ w3.heap[p]? = _ ∧ p < w3.heap.size) := ⟨grown_trans g1 hg, (hg.block _ s1 (by simp)).trans b1, Nat.lt_of_lt_of_le s1 hg.size⟩
  obtain ⟨⟨x0, x1, x2⟩, -⟩ := three FX.out.2.1
  clear hg C2 FY g1 b1 s1
  generalize hans : tyV 0 k n d 10 60 = ans at *
  simp only []
  go_wp2_with fail
  -- the argument of the program itself
  refine Calls.mono (toTr d k n a l c w3 (HD.out.none FX.out.1) hds) ?_
  rintro e w4 ⟨a4, c4, bs4, rfl, hg, hn4⟩
  obtain ⟨g1, b1, s1⟩ := FX.out
  have ga := World.grownBy_alloc w4 (.cells #[.int .i64 k, .int .i64 n, .slice a4 l c4] 25) none
  have ba := heap_alloc_new w4 (.cells #[.int .i64 k, .int .i64 n, .slice a4 l c4] 25)
  have hg' := grown_trans hg ga
  have sa : w4.heap.size < (w4.alloc (.cells #[.int .i64 k, .int .i64 n, .slice a4 l c4] 25)).heap.size := by simp
  have FY : Hid (w.grownBy _ none ∧ _ = some (Obj.cells #[.int .i64 k, .int .i64 n, .slice a l c] 48) ∧ p < _ ∧ _ = some (Obj.cells #[.int .i64 k, .int .i64 n, .slice a4 l c4] 25) ∧ w4.heap.size < _ ∧ SlF _ a4 l d ∧ p < w4.heap.size) := ⟨grown_trans g1 hg', (hg'.block _ s1 (by simp)).trans b1, Nat.lt_of_lt_of_le s1 hg'.size, ba, sa, hn4.1.reads.none ga, Nat.lt_of_lt_of_le s1 hg.size⟩
  have C4 : Hid _ := implTySizeT d k n a4 l c4 _ FY.out.2.2.2.2.2.1
  clear hg hg' hn4 FX g1 b1 s1 x0 x1 x2 ga ba sa
  rw [hans] at C4
  simp only []
  go_wp2_with fail
  refine Calls.mono C4.out ?_
  rintro e w5 ⟨rfl, hg⟩
  obtain ⟨g1, b1, s1, b2, s2, hr, s3⟩ := FY.out
  have b5 := (hg.block _ s1 (by simp)).trans b1
  have c5 := (hg.block _ s2 (by simp)).trans b2
  generalize eq : w4.heap.size = r at *
  have hpr : p ≠ r := by omega
  have gd := grown_drew (World.grownBy.refl w5 none)
  have FX : Hid (w.grownBy w5.drew none ∧ w5.heap[p]? = _ ∧ p < w5.heap.size ∧ w5.heap[r]? = _ ∧ r < w5.heap.size ∧ SlF w5.drew a4 l d) := ⟨grown_trans (grown_trans g1 hg) gd, b5, Nat.lt_of_lt_of_le s1 hg.size, c5, Nat.lt_of_lt_of_le s2 hg.size, (hr.none hg).none gd⟩
  have T0 : Hid (Tri p 0 (.int .i64 k) (.int .i64 n) (.slice a l c) w5.drew ∧ Tri r 0 (.int .i64 k) (.int .i64 n) (.slice a4 l c4) w5.drew) := ⟨Tri.none (three b5).1 gd, Tri.none (three c5).1 gd⟩
  clear hg C4 FY g1 b1 s1 b2 s2 hr s3 b5 c5 eq gd hans
  simp only []
  go_wp2_with fail
  refine wp_region_held_drew (S := (fun u => Tri p 0 (.int .i64 k) (.int .i64 n) (.slice a l c) u ∧ Tri r 0 (.int .i64 k) (.int .i64 n) (.slice a4 l c4) u)) (by kernel_rfl) T0.out (fun hH => ?_)
  obtain ⟨g1, -, -, -, -, hr⟩ := FX.out
  have FY : Hid (w.grownBy w5.drew none ∧ SlF w5.drew a4 l d) := ⟨g1, hr⟩
  clear FX g1 hr
  generalize w5.drew = u at *
  clear w5
  simp only [List.size_toArray, List.length_cons, List.length_nil, Nat.reduceAdd, Array.replicate, List.replicate]
  refine wpAnyH_take (i := 0) (v := ?_) rfl (by kernel_rfl) (by kernel_rfl) (by kernel_rfl) (fun _ _ _ h => h) (Or.inl ⟨by rfl, ?_⟩) hH ?_
  rotate_left
  · (intro v hS; obtain ⟨⟨s0, s1, s2⟩, t0, t1, t2⟩ := hS; go_simp; try with_reducible rfl)
  simp only [Act.put, List.setIfInBounds_toArray, List.set_cons_zero, List.set_cons_succ, List.getElem_toArray, List.getElem_cons_succ, List.getElem_cons_zero]
  refine wpAnyH_take (i := 1) (v := ?_) rfl (by kernel_rfl) (by kernel_rfl) (by kernel_rfl) (fun _ _ _ h => h) (Or.inl ⟨by rfl, ?_⟩) hH ?_
  rotate_left
  · (intro v hS; obtain ⟨⟨s0, s1, s2⟩, t0, t1, t2⟩ := hS; go_simp; try with_reducible rfl)
  simp only [Act.put, List.setIfInBounds_toArray, List.set_cons_zero, List.set_cons_succ, List.getElem_toArray, List.getElem_cons_succ, List.getElem_cons_zero]
  refine wpAnyH_ready (rs := [2]) (by kernel_rfl) (by simp) ?_
  refine AllReadyH.cons rfl (fun K hK => ?_) AllReadyH.nil
  go_simp
  refine Calls.mono (toTr d k n a l c u (HD.out.none FY.out.1) hds) ?_
  rintro e u1 ⟨a6, c6, bs6, rfl, hg, hn6⟩
  refine hK.out _ _ ⟨Tri.none T0.out.1 hg, Tri.none T0.out.2 hg⟩ (fun hH2 => ?_)
  clear hK K hH
  have hH := hH2
  clear hH2
  have FX : Hid (w.grownBy u1 none ∧ SlF u1 a4 l d ∧ SlF u1 a6 l d) := ⟨grown_trans FY.out.1 hg, FY.out.2.none hg, hn6.1.reads⟩
  have T1 : Hid (Tri p 0 (.int .i64 k) (.int .i64 n) (.slice a l c) u1 ∧ Tri r 0 (.int .i64 k) (.int .i64 n) (.slice a4 l c4) u1) := ⟨Tri.none T0.out.1 hg, Tri.none T0.out.2 hg⟩
  clear FY hg hn6 T0
  simp only [Act.put, List.setIfInBounds_toArray, List.set_cons_zero, List.set_cons_succ, List.getElem_toArray, List.getElem_cons_succ, List.getElem_cons_zero]
  refine wpAnyH_ready (rs := [3]) (by kernel_rfl) (by simp) ?_
  refine AllReadyH.cons rfl (fun K hK => ?_) AllReadyH.nil
  go_simp
  refine Calls.mono (eqTr d k n a4 a6 l c4 c6 u1 FX.out.2.1 FX.out.2.2) ?_
  rintro e u2 ⟨rfl, hg⟩
  refine hK.out _ _ ⟨Tri.none T1.out.1 hg, Tri.none T1.out.2 hg⟩ (fun hH2 => ?_)
  clear hK K hH
  have hH := hH2
  clear hH2
  have FIN : Hid (w.grownBy u2 none) := grown_trans FX.out.1 hg
  clear FX hg T1
  simp only [Act.put, List.setIfInBounds_toArray, List.set_cons_zero, List.set_cons_succ, List.getElem_toArray, List.getElem_cons_succ, List.getElem_cons_zero]
  refine wpAnyH_take (i := 4) (v := ?_) rfl (by kernel_rfl) (by kernel_rfl) (by kernel_rfl) (fun _ _ _ h => h) (Or.inl ⟨by rfl, ?_⟩) hH ?_
  rotate_left
  · (intro v hS; go_simp; try with_reducible rfl)
  simp only [Act.put, List.setIfInBounds_toArray, List.set_cons_zero, List.set_cons_succ, List.getElem_toArray, List.getElem_cons_succ, List.getElem_cons_zero]
  refine wpAnyH_done (by kernel_rfl) ?_ _
  go_wp2
  go_ret
  exact ⟨rfl, FIN.out⟩
end Go.Proofs.Ytbannlaeapfllaa.By
