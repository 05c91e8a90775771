/-
  The walk of laws.FnExactHeapNew. No statement is proved here.
-/
import Derived.Test.YtonmcndedbmbfaaHNew
namespace Go.Proofs.Ytonmcndedbmbfaa.By
open Go.RowKit
set_option linter.unusedVariables false

theorem noLog (w : World) : ReadsI w none (0 * 3) [] := ⟨rfl, .inl rfl⟩
theorem ownLog (w : World) (g : Nat) : OwnI w 75 g none (0 * 3) [] := ⟨rfl, .inl rfl⟩

set_option maxHeartbeats 2000000 in
theorem lawHeapNew (half : Int) (w : World) :
    Calls Try.prog 4 #[.int .i64 half] w fun e w' => e = .returned (.bool true) ∧ w.grownBy w' none := by
  obtain ⟨n, hf, t, hN, hn⟩ := newIs half
  have HN : Hid (NewIs half n hf t) := hN
  have q1 : ¬ ((1 : Int) + n < 0) := by omega
  clear hN
  go_enter Try.func4, Try.ntmps4
  go_wp2_with fail
  -- the specification's answer
  refine (newSpec half hf n t HN.out w).mono ?_
  rintro e w1 ⟨a0, r, rfl, g1, l1, l1', o1⟩
  have ga := World.grownBy_alloc w1 (.cells #[.slice a0 n n, .int .i64 hf, .int .i64 0, .int .i64 0, .slice none 0 0] 34) none
  have ba := heap_alloc_new w1 (.cells #[.slice a0 n n, .int .i64 hf, .int .i64 0, .int .i64 0, .slice none 0 0] 34)
  have sa : (w1.alloc (.cells #[.slice a0 n n, .int .i64 hf, .int .i64 0, .int .i64 0, .slice none 0 0] 34)).heap.size = w1.heap.size + 1 := by simp
  have F1 : Hid _ := And.intro (grown_trans g1 ga) (And.intro ba (And.intro sa (And.intro (o1.kept ga (by simp)) (And.intro l1 l1'))))
  clear ga ba sa g1 l1 l1' o1
  simp only []
  go_wp2_with fail
  -- the program's answer
  refine (newImpl half hf n t HN.out _).mono ?_
  rintro e w2 ⟨a, g, rfl, g2, l2, l2', o2⟩
  obtain ⟨g1, b1, s1, o1, l1, l1'⟩ := F1.out
  have ga := World.grownBy_alloc w2 (.cells #[.slice a n n, .int .i64 hf, .int .i64 0, .int .i64 0, .slice none 0 0] 34) none
  have ba := heap_alloc_new w2 (.cells #[.slice a n n, .int .i64 hf, .int .i64 0, .int .i64 0, .slice none 0 0] 34)
  have sa : (w2.alloc (.cells #[.slice a n n, .int .i64 hf, .int .i64 0, .int .i64 0, .slice none 0 0] 34)).heap.size = w2.heap.size + 1 := by simp
  have s2 := g2.size
  rw [s1] at l2 s2
  have b1' := (g2.block _ (by omega) (by simp)).trans b1
  have b1 := (ga.block _ (by omega) (by simp)).trans b1'
  have o1 := (o1.kept g2 (by simp)).kept ga (by simp)
  have o2 := o2.kept ga (by simp)
  have G2 := grown_trans (grown_trans g1 g2) ga
  generalize e1 : w1.heap.size = p3 at *
  generalize e2 : w2.heap.size = p5 at *
  have W2 : Hid _ := And.intro G2 (And.intro b1 (And.intro ba (And.intro o1 (And.intro o2 sa))))
  have N2 : Hid (r < p3 ∧ p3 < p5 ∧ p3 < g ∧ g < p5 ∧ w.heap.size ≤ r) := ⟨by omega, by omega, by omega, by omega, by omega⟩
  have lt35 : p3 < p5 := by omega
  obtain ⟨⟨x0, x1, x2, x3, x4⟩, -⟩ := five b1'
  clear b1'
  clear F1 g1 b1 s1 o1 l1 l1' g2 l2 l2' o2 ga ba sa s2 G2 e1
  simp only []
  go_wp2_with fail
  obtain ⟨G2, b1, b2, o1, o2, sa⟩ := W2.out
  refine (eqH a a0 none none n 0 n n 0 0 hf 0 0 (List.replicate n 0) [] _ o2.reads o1.reads (noLog _) (noLog _) (by omega) (by omega)).mono ?_
  rintro e w3 ⟨rfl, g3⟩
  clear x0 x1 x2 x3 x4
  obtain ⟨n1, n2, n3, n4, n5⟩ := N2.out
  have s3 := g3.size
  rw [sa] at s3
  have b1 := (g3.block _ (by omega) (by simp)).trans b1
  have b2 := (g3.block _ (by omega) (by simp)).trans b2
  have o1 := o1.kept g3 (by simp)
  have o2 := o2.kept g3 (by simp)
  have G3 := grown_trans G2 g3
  obtain ⟨⟨x0, x1, x2, x3, x4⟩, -⟩ := five b2
  have W3 : Hid _ := And.intro G3 (And.intro b1 (And.intro b2 (And.intro o1 (And.intro o2 s3))))
  clear W2 G2 b1 b2 o1 o2 sa g3 s3 G3 n1 n2 n3 n4 n5
  simp only []
  go_wp2_with fail
  -- marks
  obtain ⟨G3, b1, b2, o1, o2, s3⟩ := W3.out
  obtain ⟨n1, n2, n3, n4, n5⟩ := N2.out
  refine (markH a none n 0 n 0 g (g + 1) hf 0 0 1 (List.replicate n 0) [] w3 o2 (ownLog _ _) (by omega) (by omega) (by omega) (by omega) (by omega)).mono ?_
  rintro e w4 ⟨rfl, T, m1, -⟩
  clear x0 x1 x2 x3 x4
  have s4 := T.size
  have b1 := (T.block _ (by omega) (.inr (by omega)) (.inl rfl)).trans b1
  have b2 := (T.block _ (by omega) (.inr (by omega)) (.inl rfl)).trans b2
  have o1 := T.own o1 (.inr (by omega)) (.inl rfl)
  have G4 := T.grown G3 (by omega) (by omega)
  obtain ⟨⟨x0, x1, x2, x3, x4⟩, -⟩ := five b2
  have W4 : Hid _ := And.intro G4 (And.intro b1 (And.intro b2 (And.intro o1 (And.intro m1 (show p5 < w4.heap.size by omega)))))
  clear W3 G3 b1 b2 o1 o2 s3 T m1 s4 G4 n1 n2 n3 n4 n5
  simp only []
  go_wp2_with fail
  obtain ⟨G4, b1, b2, o1, m1, s4⟩ := W4.out
  refine (heldH a none n 0 n 0 hf 0 0 1 w4 m1.reads ⟨rfl, .inl rfl⟩ (by omega) (by omega) (by omega) (by omega)).mono ?_
  rintro e w5 ⟨rfl, g5⟩
  have s5 := g5.size
  obtain ⟨n1, n2, n3, n4, n5⟩ := N2.out
  have b1 := (g5.block _ (by omega) (by simp)).trans b1
  have b2 := (g5.block _ (by omega) (by simp)).trans b2
  have W5 : Hid _ := And.intro (grown_trans G4 g5) (And.intro b1 (And.intro b2 (And.intro (o1.kept g5 (by simp)) (And.intro (m1.kept g5 (by simp)) (show p5 < w5.heap.size by omega)))))
  clear W4 G4 b1 b2 o1 m1 s4 s5 g5 n1 n2 n3 n4 n5 x0 x1 x2 x3 x4
  simp only []
  go_wp2_with fail
  -- another call
  refine (newImpl half hf n t HN.out w5).mono ?_
  rintro e w6 ⟨a', g', rfl, g6, l6, l6', o6⟩
  obtain ⟨G5, b1, b2, o1, m1, s5⟩ := W5.out
  obtain ⟨n1, n2, n3, n4, n5⟩ := N2.out
  have s6 := g6.size
  have ga := World.grownBy_alloc w6 (.cells #[.slice a' n n, .int .i64 hf, .int .i64 0, .int .i64 0, .slice none 0 0] 34) none
  have b1 := (g6.block _ (by omega) (by simp)).trans b1
  have b2 := (ga.block _ (by omega) (by simp)).trans ((g6.block _ (by omega) (by simp)).trans b2)
  have sa : (w6.alloc (.cells #[.slice a' n n, .int .i64 hf, .int .i64 0, .int .i64 0, .slice none 0 0] 34)).heap.size = w6.heap.size + 1 := by simp
  obtain ⟨⟨x0, x1, x2, x3, x4⟩, -⟩ := five b1
  have lt6 : p3 < w6.heap.size := by omega
  have W6 : Hid _ := And.intro (grown_trans (grown_trans G5 g6) ga) (And.intro b2 (And.intro ((o1.kept g6 (by simp)).kept ga (by simp)) (And.intro ((m1.kept g6 (by simp)).kept ga (by simp)) (And.intro (o6.kept ga (by simp)) (And.intro (show p5 < w6.heap.size by omega) sa)))))
  clear W5 G5 b1 b2 o1 m1 s5 s6 g6 l6 l6' o6 ga sa n1 n2 n3 n4 n5
  simp only []
  go_wp2_with fail
  obtain ⟨G6, b2, o1, m1, o6, s6, sa⟩ := W6.out
  refine (eqH a' a0 none none n 0 n n 0 0 hf 0 0 (List.replicate n 0) [] _ o6.reads o1.reads (noLog _) (noLog _) (by omega) (by omega)).mono ?_
  rintro e w7 ⟨rfl, g7⟩
  have b2 := (g7.block _ (by omega) (by simp)).trans b2
  obtain ⟨⟨y0, y1, y2, y3, y4⟩, -⟩ := five b2
  have W7 : Hid _ := And.intro (grown_trans G6 g7) (m1.kept g7 (by simp))
  clear W6 G6 b2 o1 m1 o6 s6 sa g7 x0 x1 x2 x3 x4
  simp only []
  go_wp2_with fail
  refine (heldH a none n 0 n 0 hf 0 0 1 w7 W7.out.2.reads ⟨rfl, .inl rfl⟩ (by omega) (by omega) (by omega) (by omega)).mono ?_
  rintro e w8 ⟨rfl, g8⟩
  have FIN : Hid _ := grown_trans W7.out.1 g8
  clear W7 g8
  simp only []
  go_wp2
  go_ret
  exact ⟨rfl, FIN.out⟩
end Go.Proofs.Ytonmcndedbmbfaa.By
