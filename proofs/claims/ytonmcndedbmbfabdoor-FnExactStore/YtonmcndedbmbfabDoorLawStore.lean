/-
  The walk of laws.FnExactStore. No statement is proved here.
-/
import Derived.Test.YtonmcndedbmbfabDoorHAnsStore
namespace Go.Proofs.YtonmcndedbmbfabDoor.By
open Go.RowKit
set_option linter.unusedVariables false
set_option linter.unusedSimpArgs false

set_option maxHeartbeats 4000000 in
theorem lawStore (n m c d : Nat) (a b : Option Addr) (half low next : Int) (ws ls : List Int) (k0 k1 k2 : Int) (er : Addr) (w : World) (h1 : ReadsI w a n ws) (h2 : ReadsI w b (m * 3) ls) (hn : n ≤ 9223372036854775807) (hm : m ≤ 9223372036854775807)
    (he : w.cell? ⟨1, 0, none⟩ = some (.iface 93 (.pointer (some er))))
    (n' m' : Nat) (half' low' next' : Int) (ws' ls' : List Int) (t : Bool) (AI : Ans 16 [.int .i64 k0, .int .i64 k1, .int .i64 k2] n m half low next ws ls n' m' half' low' next' ws' ls' [.bool t] 1 er) (AS : Ans 15 [.int .i64 k0, .int .i64 k1, .int .i64 k2] n m half low next ws ls n' m' half' low' next' ws' ls' [.bool t] 1 er) (hn' : n' ≤ 1048576) (hm' : m' ≤ 1048576) :
    Calls Tryd.prog 5 #[.agg #[.slice a n c, .int .i64 half, .int .i64 low, .int .i64 next, .slice b m d], .int .i64 k0, .int .i64 k1, .int .i64 k2] w fun e w' => e = .returned (.bool true) ∧ w.grownBy w' none := by
  have g0 := World.grownBy_alloc w (.cells #[.slice a n c, .int .i64 half, .int .i64 low, .int .i64 next, .slice b m d] 25) none
  have b0 := heap_alloc_new w (.cells #[.slice a n c, .int .i64 half, .int .i64 low, .int .i64 next, .slice b m d] 25)
  by_cases hs : n + m ≤ 1048576
  rotate_left
  · go_enter Tryd.func5, Tryd.ntmps5
    go_wp2_with fail
    refine (szBig n m c d a b half low next _ (by omega) hn hm).mono ?_
    rintro e w1 ⟨rfl, hg⟩
    simp only []
    go_wp2
    go_ret
    exact ⟨rfl, grown_trans g0 hg⟩
  have AI0 : Hid _ := AI
  have AS0 : Hid _ := AS
  clear AI AS
  have AI := AI0
  have AS := AS0
  clear AI0 AS0
  have HR : Hid _ := And.intro h1 (And.intro h2 he)
  have S0 : w.heap.size < (w.alloc (.cells #[.slice a n c, .int .i64 half, .int .i64 low, .int .i64 next, .slice b m d] 25)).heap.size := by simp
  have W0 : Hid _ := And.intro g0 (And.intro b0 S0)
  have hpos : ¬ ((1048576 : Int) - n - m < 0) := by omega
  have q1 : ¬ ((1 : Int) + n + m * 3 < 0) := by omega
  have q2 : ¬ ((1 : Int) + n' + m' * 3 < 0) := by omega
  clear h1 h2 he g0 b0 S0 hn hm
  go_enter Tryd.func5, Tryd.ntmps5
  go_wp2_with fail
  refine (szSmall n m c d a b half low next _ hs).mono ?_
  rintro e u1 ⟨rfl, k1⟩
  obtain ⟨g0, b0, S0⟩ := W0.out
  have W1 : Hid _ := And.intro (grown_trans g0 k1) (And.intro (blk k1 b0) (show w.heap.size < u1.heap.size from Nat.lt_of_lt_of_le S0 k1.size))
  obtain ⟨⟨x0, x1, x2, x3, x4⟩, -⟩ := five (blk k1 b0)
  clear W0 g0 b0 S0 k1
  generalize ep : w.heap.size = p2 at *
  simp only []
  go_wp2_with fail
  -- a heap of our own; the specification
  obtain ⟨G, b2, s1⟩ := W1.out
  refine (toH a b n m c d half low next ws ls u1 (HR.out.1.none G) (HR.out.2.1.none G) (by omega) (by omega)).mono ?_
  rintro e u2 ⟨q5, q5', rfl, k2, -, -, -, o5, o5'⟩
  have W2 : Hid _ := And.intro (grown_trans G k2) (And.intro (blk k2 b2) (And.intro o5 (And.intro o5' (show p2 < u2.heap.size from Nat.lt_of_lt_of_le s1 k2.size))))
  clear W1 G b2 s1 k2 o5 o5' x0 x1 x2 x3 x4
  simp only []
  go_wp2_with fail
  obtain ⟨G, b2, o5, o5', s2⟩ := W2.out
  refine (AS.out (some ⟨q5, 0, none⟩) (some ⟨q5', 0, none⟩) n m u2 o5.reads o5'.reads (fun h => by cases h) (fun h => by cases h) (G.cell HR.out.2.2 (by simp))).mono ?_
  rintro e u3 ⟨sa, sb, sc, sd, gs, gs', rfl, k3, l1, l2, l3, o6, o6'⟩
  have s3 := k3.size
  have j1 := o6.lt
  have j2 := o6'.lt
  have ga := World.grownBy_alloc u3 (.cells #[.slice sa n' sc, .int .i64 half', .int .i64 low', .int .i64 next', .slice sb m' sd] 29) none
  have ba := heap_alloc_new u3 (.cells #[.slice sa n' sc, .int .i64 half', .int .i64 low', .int .i64 next', .slice sb m' sd] 29)
  have b2' := blk k3 b2
  have W3 : Hid _ := And.intro (grown_trans (grown_trans G k3) ga) (And.intro (blk ga b2') (And.intro ba (And.intro (o6.kept ga (by simp)) (And.intro (o6'.kept ga (by simp)) (show (u3.alloc (.cells #[.slice sa n' sc, .int .i64 half', .int .i64 low', .int .i64 next', .slice sb m' sd] 29)).heap.size = u3.heap.size + 1 by simp)))))
  have N3 : Hid _ := And.intro (show n' = 0 ∨ gs < u3.heap.size by omega) (And.intro (show m' = 0 ∨ gs' < u3.heap.size by omega) (And.intro (show p2 < gs by omega) (And.intro (show p2 < gs' by omega) (show p2 < u3.heap.size by omega))))
  have lt26 : p2 < u3.heap.size := by omega
  obtain ⟨⟨x0, x1, x2, x3, x4⟩, -⟩ := five b2'
  clear W2 G b2 b2' o5 o5' s2 s3 k3 l1 l2 l3 o6 o6' j1 j2 ga ba
  generalize e6 : u3.heap.size = p6 at *
  simp only []
  go_wp2_with fail
  -- the argument of the program
  obtain ⟨G, b2, b6, o6, o6', s4⟩ := W3.out
  refine (toH a b n m c d half low next ws ls _ (HR.out.1.none G) (HR.out.2.1.none G) (by omega) (by omega)).mono ?_
  rintro e u5 ⟨q9, q9', rfl, k5, l1, l2, l3, o9, o9'⟩
  clear x0 x1 x2 x3 x4 lt26
  obtain ⟨n1, n2, n3, n4, n5⟩ := N3.out
  have s5 := k5.size
  rw [s4] at s5 l1 l2
  have j1 := o9.lt
  have j2 := o9'.lt
  have ga := World.grownBy_alloc u5 (.cells #[.slice (some ⟨q9, 0, none⟩) n n, .int .i64 half, .int .i64 low, .int .i64 next, .slice (some ⟨q9', 0, none⟩) m m] 29) none
  have ba := heap_alloc_new u5 (.cells #[.slice (some ⟨q9, 0, none⟩) n n, .int .i64 half, .int .i64 low, .int .i64 next, .slice (some ⟨q9', 0, none⟩) m m] 29)
  have W5 : Hid _ := And.intro (grown_trans (grown_trans G k5) ga) (And.intro (blk ga (blk k5 b2)) (And.intro (blk ga (blk k5 b6)) (And.intro ba (And.intro ((o6.kept k5 (by simp)).kept ga (by simp)) (And.intro ((o6'.kept k5 (by simp)).kept ga (by simp)) (And.intro (o9.kept ga (by simp)) (And.intro (o9'.kept ga (by simp)) (show (u5.alloc (.cells #[.slice (some ⟨q9, 0, none⟩) n n, .int .i64 half, .int .i64 low, .int .i64 next, .slice (some ⟨q9', 0, none⟩) m m] 29)).heap.size = u5.heap.size + 1 by simp))))))))
  have N5 : Hid _ := And.intro n1 (And.intro n2 (And.intro n3 (And.intro n4 (And.intro n5 (And.intro (show p6 < q9 by omega) (And.intro (show p6 < q9' by omega) (And.intro (show n = 0 ∨ q9 < u5.heap.size by omega) (And.intro (show m = 0 ∨ q9' < u5.heap.size by omega) (And.intro l3 (show p6 < u5.heap.size by omega))))))))))
  clear W3 N3 G b2 b6 o6 o6' s4 k5 l1 l2 l3 o9 o9' n1 n2 n3 n4 n5 s5 j1 j2 ga ba
  generalize e9 : u5.heap.size = p9 at *
  simp only []
  go_wp2_with fail
  -- the program
  obtain ⟨G, b2, b6, b9, o6, o6', o9, o9', s6⟩ := W5.out
  refine (AI.out (some ⟨q9, 0, none⟩) (some ⟨q9', 0, none⟩) n m _ o9.reads o9'.reads (fun h => by cases h) (fun h => by cases h) (G.cell HR.out.2.2 (by simp))).mono ?_
  rintro e u7 ⟨ya, yb, yc, yd, gi, gi', rfl, k7, l1, l2, l3, o10, o10'⟩
  obtain ⟨n1, n2, n3, n4, n5, n6, n7, n8, n9, n10, n11⟩ := N5.out
  have s7 := k7.size
  rw [s6] at s7 l1 l2
  have j1 := o10.lt
  have j2 := o10'.lt
  have ga := World.grownBy_alloc u7 (.cells #[.slice ya n' yc, .int .i64 half', .int .i64 low', .int .i64 next', .slice yb m' yd] 29) none
  have ba := heap_alloc_new u7 (.cells #[.slice ya n' yc, .int .i64 half', .int .i64 low', .int .i64 next', .slice yb m' yd] 29)
  have b6' := blk k7 b6
  have lt6 : p6 < u7.heap.size := by omega
  have W7 : Hid _ := And.intro (grown_trans (grown_trans G k7) ga) (And.intro (blk ga (blk k7 b2)) (And.intro (blk ga b6') (And.intro (blk ga (blk k7 b9)) (And.intro ba (And.intro ((o6.kept k7 (by simp)).kept ga (by simp)) (And.intro ((o6'.kept k7 (by simp)).kept ga (by simp)) (And.intro ((o9.kept k7 (by simp)).kept ga (by simp)) (And.intro ((o9'.kept k7 (by simp)).kept ga (by simp)) (And.intro (o10.kept ga (by simp)) (And.intro (o10'.kept ga (by simp)) (show u7.heap.size < (u7.alloc (.cells #[.slice ya n' yc, .int .i64 half', .int .i64 low', .int .i64 next', .slice yb m' yd] 29)).heap.size by simp)))))))))))
  have N7 : Hid ((n' = 0 ∨ gs < p6) ∧ (m' = 0 ∨ gs' < p6) ∧ p2 < gs ∧ p2 < gs' ∧ p2 < p6 ∧ p6 < q9 ∧ p6 < q9' ∧ (n = 0 ∨ q9 < p9) ∧ (m = 0 ∨ q9' < p9) ∧ q9 ≠ q9' ∧ p6 < p9 ∧ p9 < gi ∧ p9 < gi' ∧ (n' = 0 ∨ gi < u7.heap.size) ∧ (m' = 0 ∨ gi' < u7.heap.size) ∧ p9 < u7.heap.size ∧ (n' = 0 ∨ m' = 0 ∨ gi ≠ gi')) :=
    ⟨n1, n2, n3, n4, n5, n6, n7, n8, n9, n10, n11, by omega, by omega, by omega, by omega, by omega, l3⟩
  obtain ⟨⟨x0, x1, x2, x3, x4⟩, -⟩ := five b6'
  clear W5 N5 G b2 b6 b6' b9 o6 o6' o9 o9' s6 k7 l1 l2 l3 o10 o10' n1 n2 n3 n4 n5 n6 n7 n8 n9 n10 n11 s7 j1 j2 ga ba
  generalize e10 : u7.heap.size = p10 at *
  simp only []
  go_wp2_with fail
  -- the same answer
  obtain ⟨G, b2, b6, b9, b10, o6, o6', o9, o9', o10, o10', s8⟩ := W7.out
  refine (eqH ya sa yb sb n' m' yc sc yd sd half' low' next' ws' ls' _ o10.reads o6.reads o10'.reads o6'.reads hn' hm').mono ?_
  rintro e u9 ⟨rfl, k9⟩
  have s9 : p10 < u9.heap.size := Nat.lt_of_lt_of_le s8 k9.size
  have b2 := blk k9 b2
  have b9 := blk k9 b9
  have W9 : Hid _ := And.intro (grown_trans G k9) (And.intro b2 (And.intro (blk k9 b6) (And.intro b9 (And.intro (blk k9 b10) (And.intro (o6.kept k9 (by simp)) (And.intro (o6'.kept k9 (by simp)) (And.intro (o9.kept k9 (by simp)) (And.intro (o9'.kept k9 (by simp)) (And.intro (o10.kept k9 (by simp)) (And.intro (o10'.kept k9 (by simp)) s9))))))))))
  have HS : Hid (Box p2 (.slice a n c) (.int .i64 half) (.int .i64 low) (.int .i64 next) (.slice b m d) u9.drew ∧ Box p9 (.slice (some ⟨q9, 0, none⟩) n n) (.int .i64 half) (.int .i64 low) (.int .i64 next) (.slice (some ⟨q9', 0, none⟩) m m) u9.drew) := ⟨Box.kept (five b2).1 (grown_drew (World.grownBy.refl _ _)) (by simp), Box.kept (five b9).1 (grown_drew (World.grownBy.refl _ _)) (by simp)⟩
  clear W7 x0 x1 x2 x3 x4 lt6
  clear G b6 b10 o6 o6' o9 o9' o10 o10' s8 k9 s9 b2 b9
  simp only []
  go_wp2_with fail
  -- the argument is sa it was
  refine wp_region_held_drew (S := fun v => Box p2 (.slice a n c) (.int .i64 half) (.int .i64 low) (.int .i64 next) (.slice b m d) v ∧ Box p9 (.slice (some ⟨q9, 0, none⟩) n n) (.int .i64 half) (.int .i64 low) (.int .i64 next) (.slice (some ⟨q9', 0, none⟩) m m) v) (by kernel_rfl) HS.out (fun hH => ?_)
  simp only [List.size_toArray, List.length_cons, List.length_nil, Nat.reduceAdd, Array.replicate, List.replicate]
  refine wpAnyH_take (i := 0) (v := ?_) rfl (by kernel_rfl) (by kernel_rfl) (by kernel_rfl) (fun _ _ _ h => h) (Or.inl ⟨by rfl, ?_⟩) hH ?_
  rotate_left
  · (intro v hS; obtain ⟨⟨s0, s1, s2, s3, s4⟩, t0, t1, t2, t3, t4⟩ := hS; go_simp; try with_reducible rfl)
  simp only [Act.put, List.setIfInBounds_toArray, List.set_cons_zero, List.set_cons_succ, List.getElem_toArray, List.getElem_cons_succ, List.getElem_cons_zero]
  refine wpAnyH_take (i := 1) (v := ?_) rfl (by kernel_rfl) (by kernel_rfl) (by kernel_rfl) (fun _ _ _ h => h) (Or.inl ⟨by rfl, ?_⟩) hH ?_
  rotate_left
  · (intro v hS; obtain ⟨⟨s0, s1, s2, s3, s4⟩, t0, t1, t2, t3, t4⟩ := hS; go_simp; try with_reducible rfl)
  simp only [Act.put, List.setIfInBounds_toArray, List.set_cons_zero, List.set_cons_succ, List.getElem_toArray, List.getElem_cons_succ, List.getElem_cons_zero]
  refine wpAnyH_ready (rs := [2]) (by kernel_rfl) (by simp) ?_
  refine AllReadyH.cons rfl (fun K hK => ?_) AllReadyH.nil
  go_simp
  obtain ⟨G, b2, b6, b9, b10, o6, o6', o9, o9', o10, o10', s9⟩ := W9.out
  have gd : u9.grownBy u9.drew none := grown_drew (World.grownBy.refl _ _)
  refine (toH a b n m c d half low next ws ls u9.drew (HR.out.1.none (grown_trans G gd)) (HR.out.2.1.none (grown_trans G gd)) (by omega) (by omega)).mono ?_
  rintro e u10 ⟨q, q', rfl, k10, -, -, -, oq, oq'⟩
  have kd := grown_trans gd k10
  have W10 : Hid _ := And.intro (grown_trans G kd) (And.intro (blk kd b2) (And.intro (blk kd b6) (And.intro (blk kd b9) (And.intro (blk kd b10) (And.intro (o6.kept kd (by simp)) (And.intro (o6'.kept kd (by simp)) (And.intro (o9.kept kd (by simp)) (And.intro (o9'.kept kd (by simp)) (And.intro (o10.kept kd (by simp)) (And.intro (o10'.kept kd (by simp)) (Nat.lt_of_lt_of_le s9 kd.size)))))))))))
  have Q10 : Hid _ := And.intro oq oq'
  have HS2 : Hid _ := And.intro (hH.1.kept k10 (by simp)) (hH.2.kept k10 (by simp))
  clear W9 HS G b2 b6 b9 b10 o6 o6' o9 o9' o10 o10' s9 gd k10 oq oq' kd hH
  refine hK.out _ _ HS2.out (fun hH => ?_)
  clear hK K HS2
  simp only [Act.put, List.setIfInBounds_toArray, List.set_cons_zero, List.set_cons_succ, List.getElem_toArray, List.getElem_cons_succ, List.getElem_cons_zero]
  refine wpAnyH_ready (rs := [3]) (by kernel_rfl) (by simp) ?_
  refine AllReadyH.cons rfl (fun K hK => ?_) AllReadyH.nil
  go_simp
  obtain ⟨G, b2, b6, b9, b10, o6, o6', o9, o9', o10, o10', s10⟩ := W10.out
  refine (eqH (some ⟨q9, 0, none⟩) (some ⟨q, 0, none⟩) (some ⟨q9', 0, none⟩) (some ⟨q', 0, none⟩) n m n n m m half low next ws ls u10 o9.reads Q10.out.1.reads o9'.reads Q10.out.2.reads (by omega) (by omega)).mono ?_
  rintro e u11 ⟨rfl, k11⟩
  have b9 := blk k11 b9
  have W11 : Hid _ := And.intro (grown_trans G k11) (And.intro (blk k11 b2) (And.intro (blk k11 b6) (And.intro b9 (And.intro (blk k11 b10) (And.intro (o6.kept k11 (by simp)) (And.intro (o6'.kept k11 (by simp)) (And.intro (o9.kept k11 (by simp)) (And.intro (o9'.kept k11 (by simp)) (And.intro (o10.kept k11 (by simp)) (And.intro (o10'.kept k11 (by simp)) (Nat.lt_of_lt_of_le s10 k11.size)))))))))))
  have HS2 : Hid _ := And.intro (hH.1.kept k11 (by simp)) (hH.2.kept k11 (by simp))
  obtain ⟨⟨x0, x1, x2, x3, x4⟩, -⟩ := five b9
  clear W10 Q10 G b2 b6 b10 o6 o6' o9 o9' o10 o10' s10 k11 hH
  clear b9
  refine hK.out _ _ HS2.out (fun hH => ?_)
  clear hK K HS2
  simp only [Act.put, List.setIfInBounds_toArray, List.set_cons_zero, List.set_cons_succ, List.getElem_toArray, List.getElem_cons_succ, List.getElem_cons_zero]
  refine wpAnyH_take (i := 4) (v := ?_) rfl (by kernel_rfl) (by kernel_rfl) (by kernel_rfl) (fun _ _ _ h => h) (Or.inl ⟨by rfl, ?_⟩) hH ?_
  rotate_left
  · (intro v hS; obtain ⟨⟨s0, s1, s2, s3, s4⟩, t0, t1, t2, t3, t4⟩ := hS; go_simp; try with_reducible rfl)
  simp only [Act.put, List.setIfInBounds_toArray, List.set_cons_zero, List.set_cons_succ, List.getElem_toArray, List.getElem_cons_succ, List.getElem_cons_zero]
  clear hH
  refine wpAnyH_done (by kernel_rfl) ?_ _
  go_wp2_with fail
  -- marks on the argument
  obtain ⟨G, b2, b6, b9, b10, o6, o6', o9, o9', o10, o10', s11⟩ := W11.out
  obtain ⟨n1, n2, n3, n4, n5, n6, n7, n8, n9, n10, n11, n12, n13, n14, n15, n16, n17⟩ := N7.out
  refine (markH (some ⟨q9, 0, none⟩) (some ⟨q9', 0, none⟩) n m n m q9 q9' half low next 1 ws ls u11 o9 o9' (by omega) (by omega) (by omega) (by omega) (by omega)).mono ?_
  rintro e u12 ⟨rfl, T, -, -⟩
  have s12 := T.size
  have b6' := (T.block p6 (by omega) (by omega) (by omega)).trans b6
  have b10' := (T.block p10 (by omega) (by omega) (by omega)).trans b10
  have W12 : Hid _ := And.intro (T.grown G (by omega) (by omega)) (And.intro ((T.block p2 (by omega) (by omega) (by omega)).trans b2) (And.intro b6' (And.intro b10' (And.intro (T.own0 o6 (by omega)) (And.intro (T.own0 o6' (by omega)) (And.intro (T.own0 o10 (by omega)) (And.intro (T.own0 o10' (by omega)) (show p10 < u12.heap.size by omega))))))))
  clear x0 x1 x2 x3 x4
  obtain ⟨⟨x0, x1, x2, x3, x4⟩, -⟩ := five b6'
  obtain ⟨⟨y0, y1, y2, y3, y4⟩, -⟩ := five b10'
  clear W11 G b2 b6 b9 b10 o6 o6' o9 o9' o10 o10' s11 T s12 b6' b10' n1 n2 n3 n4 n5 n6 n7 n8 n9 n10 n11 n12 n13 n14 n15 n16 n17
  simp only []
  go_wp2_with fail
  obtain ⟨G, b2, b6, b10, o6, o6', o10, o10', s12⟩ := W12.out
  refine (eqH ya sa yb sb n' m' yc sc yd sd half' low' next' ws' ls' _ o10.reads o6.reads o10'.reads o6'.reads hn' hm').mono ?_
  rintro e u13 ⟨rfl, k13⟩
  have b10' := blk k13 b10
  have W13 : Hid _ := And.intro (grown_trans G k13) (And.intro (blk k13 b2) (And.intro (blk k13 b6) (And.intro b10' (And.intro (o6.kept k13 (by simp)) (And.intro (o6'.kept k13 (by simp)) (And.intro (o10.kept k13 (by simp)) (And.intro (o10'.kept k13 (by simp)) (Nat.lt_of_lt_of_le s12 k13.size))))))))
  clear x0 x1 x2 x3 x4 y0 y1 y2 y3 y4
  obtain ⟨⟨y0, y1, y2, y3, y4⟩, -⟩ := five b10'
  clear W12 G b2 b6 b10 o6 o6' o10 o10' s12 k13 b10'
  simp only []
  go_wp2_with fail
  -- marks on the answer
  obtain ⟨G, b2, b6, b10, o6, o6', o10, o10', s13⟩ := W13.out
  obtain ⟨n1, n2, n3, n4, n5, n6, n7, n8, n9, n10, n11, n12, n13, n14, n15, n16, n17⟩ := N7.out
  refine (markH ya yb n' m' yc yd gi gi' half' low' next' 1 ws' ls' u13 o10 o10' n17 hn' hm' (by omega) (by omega)).mono ?_
  rintro e u14 ⟨rfl, T, m10, m10'⟩
  have s14 := T.size
  have b10' := (T.block p10 (by omega) (by omega) (by omega)).trans b10
  have W14 : Hid _ := And.intro (T.grown G (by omega) (by omega)) (And.intro ((T.block p2 (by omega) (by omega) (by omega)).trans b2) (And.intro ((T.block p6 (by omega) (by omega) (by omega)).trans b6) (And.intro b10' (And.intro (T.own0 o6 (by omega)) (And.intro (T.own0 o6' (by omega)) (And.intro m10 (And.intro m10' (show p10 < u14.heap.size by omega))))))))
  clear y0 y1 y2 y3 y4
  obtain ⟨⟨y0, y1, y2, y3, y4⟩, -⟩ := five b10'
  clear W13 G b2 b6 b10 o6 o6' o10 o10' s13 T m10 m10' s14 b10' n1 n2 n3 n4 n5 n6 n7 n8 n9 n10 n11 n12 n13 n14 n15 n16 n17
  simp only []
  go_wp2_with fail
  obtain ⟨G, b2, b6, b10, o6, o6', m10, m10', s14⟩ := W14.out
  refine (heldH ya yb n' m' yc yd half' low' next' 1 u14 m10.reads m10'.reads hn' hm' (by omega) (by omega)).mono ?_
  rintro e u15 ⟨rfl, k15⟩
  have b2' := blk k15 b2
  have W15 : Hid _ := And.intro (grown_trans G k15) (And.intro b2' (And.intro (blk k15 b6) (And.intro (blk k15 b10) (And.intro (o6.kept k15 (by simp)) (And.intro (o6'.kept k15 (by simp)) (And.intro (m10.kept k15 (by simp)) (And.intro (m10'.kept k15 (by simp)) (Nat.lt_of_lt_of_le s14 k15.size))))))))
  clear y0 y1 y2 y3 y4
  obtain ⟨⟨x0, x1, x2, x3, x4⟩, -⟩ := five b2'
  clear W14 G b2 b6 b10 o6 o6' m10 m10' s14 k15 b2'
  simp only []
  go_wp2_with fail
  -- another call
  obtain ⟨G, b2, b6, b10, o6, o6', m10, m10', s15⟩ := W15.out
  refine (toH a b n m c d half low next ws ls u15 (HR.out.1.none G) (HR.out.2.1.none G) (by omega) (by omega)).mono ?_
  rintro e u16 ⟨q, q', rfl, k16, -, -, -, oq, oq'⟩
  have W16 : Hid _ := And.intro (grown_trans G k16) (And.intro (blk k16 b6) (And.intro (blk k16 b10) (And.intro (o6.kept k16 (by simp)) (And.intro (o6'.kept k16 (by simp)) (And.intro (m10.kept k16 (by simp)) (And.intro (m10'.kept k16 (by simp)) (And.intro oq (And.intro oq' (Nat.lt_of_lt_of_le s15 k16.size)))))))))
  clear W15 G b2 b6 b10 o6 o6' m10 m10' s15 k16 oq oq' x0 x1 x2 x3 x4
  simp only []
  go_wp2_with fail
  obtain ⟨G, b6, b10, o6, o6', m10, m10', oq, oq', s16⟩ := W16.out
  refine (AI.out (some ⟨q, 0, none⟩) (some ⟨q', 0, none⟩) n m u16 oq.reads oq'.reads (fun h => by cases h) (fun h => by cases h) (G.cell HR.out.2.2 (by simp))).mono ?_
  rintro e u17 ⟨za, zb, zc, zd, gh, gh', rfl, k17, -, -, -, oh, oh'⟩
  have b6' := blk k17 b6
  have ga := World.grownBy_alloc u17 (.cells #[.slice za n' zc, .int .i64 half', .int .i64 low', .int .i64 next', .slice zb m' zd] 29) none
  obtain ⟨-, -, -, -, n5, -, -, -, -, -, n11, -, -, -, -, n16, -⟩ := N7.out
  have lt6 : p6 < u17.heap.size := by have := k17.size; omega
  have lt10 : p10 < u17.heap.size := by have := k17.size; omega
  have W17 : Hid _ := And.intro (grown_trans (grown_trans G k17) ga) (And.intro (blk ga (blk k17 b10)) (And.intro ((o6.kept k17 (by simp)).kept ga (by simp)) (And.intro ((o6'.kept k17 (by simp)).kept ga (by simp)) (And.intro ((m10.kept k17 (by simp)).kept ga (by simp)) (And.intro ((m10'.kept k17 (by simp)).kept ga (by simp)) (And.intro (oh.kept ga (by simp)) (oh'.kept ga (by simp))))))))
  obtain ⟨⟨x0, x1, x2, x3, x4⟩, -⟩ := five b6'
  clear W16 G b6 b10 o6 o6' m10 m10' oq oq' s16 k17 oh oh' b6' ga n5 n11 n16
  simp only []
  go_wp2_with fail
  obtain ⟨G, b10, o6, o6', m10, m10', oh, oh'⟩ := W17.out
  refine (eqH za sa zb sb n' m' zc sc zd sd half' low' next' ws' ls' _ oh.reads o6.reads oh'.reads o6'.reads hn' hm').mono ?_
  rintro e u18 ⟨rfl, k18⟩
  have b10' := blk k18 b10
  have W18 : Hid _ := And.intro (grown_trans G k18) (And.intro (m10.kept k18 (by simp)) (m10'.kept k18 (by simp)))
  clear x0 x1 x2 x3 x4
  obtain ⟨⟨y0, y1, y2, y3, y4⟩, -⟩ := five b10'
  clear W17 G b10 o6 o6' m10 m10' oh oh' k18 b10' lt6 lt10
  simp only []
  go_wp2_with fail
  obtain ⟨G, m10, m10'⟩ := W18.out
  refine (heldH ya yb n' m' yc yd half' low' next' 1 u18 m10.reads m10'.reads hn' hm' (by omega) (by omega)).mono ?_
  rintro e u19 ⟨rfl, k19⟩
  have FIN : Hid _ := grown_trans G k19
  clear W18 G m10 m10' k19 N7 AI AS HR y0 y1 y2 y3 y4
  simp only []
  go_wp2
  go_ret
  exact ⟨rfl, FIN.out⟩

theorem lawAllStore (n m c d : Nat) (a b : Option Addr) (half low next : Int) (ws ls : List Int) (k0 k1 k2 : Int) (er : Addr) (w : World) (h1 : ReadsI w a n ws) (h2 : ReadsI w b (m * 3) ls) (hn : n ≤ 9223372036854775807) (hm : m ≤ 9223372036854775807)
    (he : w.cell? ⟨1, 0, none⟩ = some (.iface 93 (.pointer (some er)))) :
    Calls Tryd.prog 5 #[.agg #[.slice a n c, .int .i64 half, .int .i64 low, .int .i64 next, .slice b m d], .int .i64 k0, .int .i64 k1, .int .i64 k2] w fun e w' => e = .returned (.bool true) ∧ w.grownBy w' none := by
  by_cases hs : n + m ≤ 1048576
  · obtain ⟨n', m', half', low', next', ws', ls', t, AI, AS, hn', hm'⟩ := ansStore n m half low next k0 k1 k2 ws ls er (by omega) (by omega) h1.1
    exact lawStore n m c d a b half low next ws ls k0 k1 k2 er w h1 h2 hn hm he n' m' half' low' next' ws' ls' t AI AS hn' hm'
  · have g0 := World.grownBy_alloc w (.cells #[.slice a n c, .int .i64 half, .int .i64 low, .int .i64 next, .slice b m d] 25) none
    go_enter Tryd.func5, Tryd.ntmps5
    go_wp2_with fail
    refine (szBig n m c d a b half low next _ (by omega) hn hm).mono ?_
    rintro e w1 ⟨rfl, hg⟩
    simp only []
    go_wp2
    go_ret
    exact ⟨rfl, grown_trans g0 hg⟩
end Go.Proofs.YtonmcndedbmbfabDoor.By
