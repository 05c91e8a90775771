/-
  The walk of laws.FnExactLogInside. No statement is proved here.
-/
import Derived.Test.YtonmcndedbmbfabHLog
namespace Go.Proofs.Ytonmcndedbmbfab.By
open Go.RowKit
set_option linter.unusedVariables false

set_option maxHeartbeats 2000000 in
theorem lawLogInside (n m c d : Nat) (a b : Option Addr) (half low next : Int) (ws ls : List Int) (w : World) (h1 : ReadsI w a n ws) (h2 : ReadsI w b (m * 3) ls) (hn : n ≤ 9223372036854775807) (hm : m ≤ 9223372036854775807) :
    Calls Try.prog 3 #[.agg #[.slice a n c, .int .i64 half, .int .i64 low, .int .i64 next, .slice b m d]] w fun e w' => e = .returned (.bool true) ∧ w.grownBy w' none := by
  have g0 := World.grownBy_alloc w (.cells #[.slice a n c, .int .i64 half, .int .i64 low, .int .i64 next, .slice b m d] 25) none
  have b0 := heap_alloc_new w (.cells #[.slice a n c, .int .i64 half, .int .i64 low, .int .i64 next, .slice b m d] 25)
  by_cases hs : n + m ≤ 1048576
  rotate_left
  · go_enter Try.func3, Try.ntmps3
    go_wp2_with fail
    refine (szBig n m c d a b half low next _ (by omega) hn hm).mono ?_
    rintro e w1 ⟨rfl, hg⟩
    simp only []
    go_wp2
    go_ret
    exact ⟨rfl, grown_trans g0 hg⟩
  have G0 : Hid (w.grownBy _ none) := g0
  have B0 : Hid (_ = some (Obj.cells #[.slice a n c, .int .i64 half, .int .i64 low, .int .i64 next, .slice b m d] 25)) := b0
  have S0 : w.heap.size < (w.alloc (.cells #[.slice a n c, .int .i64 half, .int .i64 low, .int .i64 next, .slice b m d] 25)).heap.size := by simp
  have H1 : Hid (ReadsI w a n ws) := h1
  have H2 : Hid (ReadsI w b (m * 3) ls) := h2
  have hpos : ¬ ((1048576 : Int) - n - m < 0) := by omega
  clear h1 h2 g0 b0 hn hm
  go_enter Try.func3, Try.ntmps3
  go_wp2_with fail
  refine (szSmall n m c d a b half low next _ hs).mono ?_
  rintro e w1 ⟨rfl, hg⟩
  have b1 := (hg.block _ S0 (by simp)).trans B0.out
  have g1 := grown_trans G0.out hg
  have s1 : w.heap.size < w1.heap.size := Nat.lt_of_lt_of_le S0 hg.size
  clear hg S0 B0 G0
  generalize ep : w.heap.size = p at *
  obtain ⟨⟨x0, x1, x2, x3, x4⟩, -⟩ := five b1
  have B1 : Hid (_ = _) := b1
  have G1 : Hid (w.grownBy w1 none) := g1
  clear b1 g1
  simp only []
  go_wp2_with fail
  -- to a heap of our own; the specification
  refine (toH a b n m c d half low next ws ls w1 (H1.out.none G1.out) (H2.out.none G1.out) (by omega) (by omega)).mono ?_
  rintro e w2 ⟨q1, q1', rfl, hg, -, -, -, -, oL⟩
  have b2 := (hg.block _ s1 (by simp)).trans B1.out
  have g2 := grown_trans G1.out hg
  have s2 := Nat.lt_of_lt_of_le s1 hg.size
  have OL : Hid (OwnI w2 37 q1' (some ⟨q1', 0, none⟩) (m * 3) ls) := oL
  clear oL hg x0 x1 x2 x3 x4 B1 G1 s1
  simp only []
  go_wp2_with fail
  refine (specLog n m n m (some ⟨q1, 0, none⟩) (some ⟨q1', 0, none⟩) half low next ls w2 OL.out.reads).mono ?_
  rintro e w3 ⟨rfl, hg⟩
  generalize hok : (okB half n low next m && insideB half ls m) = t at *
  have b3 := (hg.block _ s2 (by simp)).trans b2
  have g3 := grown_trans g2 hg
  have s3 := Nat.lt_of_lt_of_le s2 hg.size
  clear hg b2 g2 s2
  obtain ⟨⟨x0, x1, x2, x3, x4⟩, -⟩ := five b3
  have B3 : Hid (_ = _) := b3
  have G3 : Hid (w.grownBy w3 none) := g3
  clear b3 g3
  simp only []
  go_wp2_with fail
  -- the argument of the program itself
  refine (toH a b n m c d half low next ws ls w3 (H1.out.none G3.out) (H2.out.none G3.out) (by omega) (by omega)).mono ?_
  rintro e w4 ⟨g, g', rfl, hg, l1, l2, -, o1, o2⟩
  have b4 := (hg.block _ s3 (by simp)).trans B3.out
  have g4 := grown_alloc (grown_trans G3.out hg) (.cells #[.slice (some ⟨g, 0, none⟩) n n, .int .i64 half, .int .i64 low, .int .i64 next, .slice (some ⟨g', 0, none⟩) m m] 30)
  have s4 := Nat.lt_of_lt_of_le s3 hg.size
  have ga := World.grownBy_alloc w4 (.cells #[.slice (some ⟨g, 0, none⟩) n n, .int .i64 half, .int .i64 low, .int .i64 next, .slice (some ⟨g', 0, none⟩) m m] 30) none
  have ba := heap_alloc_new w4 (.cells #[.slice (some ⟨g, 0, none⟩) n n, .int .i64 half, .int .i64 low, .int .i64 next, .slice (some ⟨g', 0, none⟩) m m] 30)
  have b4' := (ga.block _ s4 (by simp)).trans b4
  have o1 := o1.kept ga (by simp)
  have o2 := o2.kept ga (by simp)
  have sa : w4.heap.size < (w4.alloc (.cells #[.slice (some ⟨g, 0, none⟩) n n, .int .i64 half, .int .i64 low, .int .i64 next, .slice (some ⟨g', 0, none⟩) m m] 30)).heap.size := by simp
  have FX : Hid _ := And.intro g4 (And.intro b4' (And.intro ba (And.intro o1 (And.intro o2 (And.intro sa s4)))))
  clear hg x0 x1 x2 x3 x4 B3 G3 s3 b4 g4 ga ba b4' o1 o2 sa l1 l2 s4
  simp only []
  go_wp2_with fail
  refine (implLog n m n m (some ⟨g, 0, none⟩) (some ⟨g', 0, none⟩) half low next ls _ FX.out.2.2.2.2.1.reads).mono ?_
  rintro e w5 ⟨rfl, hg⟩
  rw [hok]
  obtain ⟨g4, b4, ba, o1, o2, sa, s4⟩ := FX.out
  have g5 := grown_trans g4 hg
  have b5 := (hg.block _ (Nat.lt_trans s4 sa) (by simp)).trans b4
  have c5 := (hg.block _ sa (by simp)).trans ba
  have o1 := o1.kept hg (by simp)
  have o2 := o2.kept hg (by simp)
  have s5 := Nat.lt_of_lt_of_le sa hg.size
  clear FX g4 b4 ba sa hg
  generalize eq : w4.heap.size = q at *
  have hpq : p ≠ q := by omega
  have s5' : p < w5.heap.size := by omega
  obtain ⟨⟨x0, x1, x2, x3, x4⟩, -⟩ := five b5
  obtain ⟨⟨y0, y1, y2, y3, y4⟩, -⟩ := five c5
  have G5 : Hid (w.grownBy w5 none) := g5
  have B5 : Hid (_ = _) := b5
  have C5 : Hid (_ = _) := c5
  have O1 : Hid (OwnI w5 3 g (some ⟨g, 0, none⟩) n ws) := o1
  have O2 : Hid (OwnI w5 37 g' (some ⟨g', 0, none⟩) (m * 3) ls) := o2
  have SS : Hid (p < w5.heap.size ∧ q < w5.heap.size) := ⟨s5', s5⟩
  clear g5 b5 c5 o1 o2 s5 s5' s4 eq
  simp only []
  go_wp2
  clear hok ep hpos
  go_region_with (first
    | (go_at_call 6
       have gd : w5.grownBy w5.drew none := grown_drew (World.grownBy.refl _ _)
       refine (toH a b n m c d half low next ws ls w5.drew (H1.out.none (grown_trans G5.out gd)) (H2.out.none (grown_trans G5.out gd)) (by omega) (by omega)).mono ?_
       rintro e w6 ⟨r, r', rfl, hg6, -, -, -, u1, u2⟩
       have G56 : Hid (w5.grownBy w6 none) := grown_trans gd hg6
       have U1 : Hid (ReadsI w6 (some ⟨r, 0, none⟩) n ws) := u1.reads
       have U2 : Hid (ReadsI w6 (some ⟨r', 0, none⟩) (m * 3) ls) := u2.reads
       have y6 := five ((G56.out.block _ SS.out.2 (by simp)).trans C5.out)
       obtain ⟨⟨z0, z1, z2, z3, z4⟩, -⟩ := y6
       clear u1 u2 hg6 gd
       simp only [])
    | (go_at_call 8
       refine (eqH (some ⟨g, 0, none⟩) (some ⟨r, 0, none⟩) (some ⟨g', 0, none⟩) (some ⟨r', 0, none⟩) n m n n m m half low next ws ls w6 (O1.out.reads.none G56.out) U1.out (O2.out.reads.none G56.out) U2.out (by omega) (by omega)).mono ?_
       rintro e w7 ⟨rfl, hg7⟩
       have FIN : Hid (w.grownBy w7 none) := grown_trans (grown_trans G5.out G56.out) hg7
       clear hg7
       simp only []))
  all_goals go_wp2
  all_goals (go_ret; exact ⟨rfl, FIN.out⟩)
end Go.Proofs.Ytonmcndedbmbfab.By
