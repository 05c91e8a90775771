/-
  Contracts of the law's own helpers for whole heaps, for this seat's proofs. No statement is proved here.
-/
import Derived.Test.YtonmcndedbmbfabDoorHAcc
namespace Go.Proofs.YtonmcndedbmbfabDoor.By
open Go.RowKit
set_option linter.unusedVariables false

set_option maxHeartbeats 1000000 in
theorem eqH (a a' b b' : Option Addr) (n m c c' d d' : Nat) (half low next : Int) (ws ls : List Int) (w : World) (h1 : ReadsI w a n ws) (h2 : ReadsI w a' n ws) (h3 : ReadsI w b (m * 3) ls) (h4 : ReadsI w b' (m * 3) ls) (hn : n ≤ 1048576) (hm : m ≤ 1048576) :
    Calls Tryd.prog 10 #[.agg #[.slice a n c, .int .i64 half, .int .i64 low, .int .i64 next, .slice b m d], .agg #[.slice a' n c', .int .i64 half, .int .i64 low, .int .i64 next, .slice b' m d']] w fun e w' => e = .returned (.bool true) ∧ w.grownBy w' none := by
  go_enter Tryd.func10, Tryd.ntmps10
  go_wp2_with fail
  have g0 := grown_alloc (grown_alloc (World.grownBy.refl w none) (.cells #[.slice a n c, .int .i64 half, .int .i64 low, .int .i64 next, .slice b m d] 29)) (.cells #[.slice a' n c', .int .i64 half, .int .i64 low, .int .i64 next, .slice b' m d'] 29)
  refine (eqI a a' n c c' ws _ (h1.none g0) (h2.none g0) (by omega)).mono ?_
  rintro e w1 ⟨rfl, q, rfl⟩
  simp only []
  go_wp2_with fail
  have g1 := grown_qN g0 q
  refine (eqA b b' m d d' ls _ (h3.none g1) (h4.none g1) (by omega)).mono ?_
  rintro e w2 ⟨rfl, hg⟩
  simp only []
  go_wp2
  go_ret
  exact ⟨rfl, grown_trans g1 hg⟩

set_option maxHeartbeats 1000000 in
theorem toH (a b : Option Addr) (n m c d : Nat) (half low next : Int) (ws ls : List Int) (w : World) (h1 : ReadsI w a n ws) (h2 : ReadsI w b (m * 3) ls) (hn : n ≤ 1048576) (hm : m ≤ 1048576) :
    Calls Tryd.prog 8 #[.agg #[.slice a n c, .int .i64 half, .int .i64 low, .int .i64 next, .slice b m d]] w fun e w' => ∃ g g', e = .returned (.agg #[.slice (some ⟨g, 0, none⟩) n n, .int .i64 half, .int .i64 low, .int .i64 next, .slice (some ⟨g', 0, none⟩) m m]) ∧ w.grownBy w' none ∧ w.heap.size ≤ g ∧ w.heap.size ≤ g' ∧ g ≠ g' ∧ OwnI w' 3 g (some ⟨g, 0, none⟩) n ws ∧ OwnI w' 65 g' (some ⟨g', 0, none⟩) (m * 3) ls := by
  go_enter Tryd.func8, Tryd.ntmps8
  go_wp2_with fail
  obtain ⟨b0, b1, b2, bs⟩ := alloc3_blocks w (.cells #[.slice a n c, .int .i64 half, .int .i64 low, .int .i64 next, .slice b m d] 25) (.cells #[.slice none 0 0, .int .i64 0, .int .i64 0, .int .i64 0, .slice none 0 0] 29) (.cells #[.slice none 0 0, .int .i64 0, .int .i64 0, .int .i64 0, .slice none 0 0] 29)
  have g0 := grown_alloc (grown_alloc (grown_alloc (World.grownBy.refl w none) (.cells #[.slice a n c, .int .i64 half, .int .i64 low, .int .i64 next, .slice b m d] 25)) (.cells #[.slice none 0 0, .int .i64 0, .int .i64 0, .int .i64 0, .slice none 0 0] 29)) (.cells #[.slice none 0 0, .int .i64 0, .int .i64 0, .int .i64 0, .slice none 0 0] 29)
  refine (toI a n c ws _ (h1.none g0) hn).mono ?_
  rintro e w1 ⟨g, rfl, hg1, hsz, hrow⟩
  rw [bs] at hsz
  have b0 := (hg1.block _ (by rw [bs]; omega) (by simp)).trans b0
  have b1 := (hg1.block _ (by rw [bs]; omega) (by simp)).trans b1
  have b2 := (hg1.block _ (by rw [bs]; omega) (by simp)).trans b2
  have g1 := grown_trans g0 hg1
  have hs1 := hg1.size
  rw [bs] at hs1
  clear hg1 g0 bs
  generalize e0 : w.heap.size = p0 at *
  generalize e1 : p0 + 1 = p1 at *
  generalize e2 : p1 + 1 = p2 at *
  have n01 : p0 ≠ p1 := by omega
  have n02 : p0 ≠ p2 := by omega
  have n12 : p1 ≠ p2 := by omega
  have HF : Hid (p0 ≤ p2 ∧ p2 < g ∧ p1 < p2 ∧ p0 < p1 ∧ p2 < w1.heap.size) := ⟨by omega, by omega, by omega, by omega, by omega⟩
  have G1 : Hid (w.grownBy w1 none) := g1
  have R1 : Hid (RowI w1 3 g n ws) := hrow
  have B0 : Hid (w1.heap[p0]? = _) := b0
  have B1 : Hid (w1.heap[p1]? = _) := b1
  have B2 : Hid (w1.heap[p2]? = _) := b2
  have H2 : Hid (ReadsI w b (m * 3) ls) := h2
  have E0 : Hid (w.heap.size = p0) := e0
  obtain ⟨⟨x0, x1, x2, x3, x4⟩, -⟩ := five b0
  obtain ⟨⟨y0, y1, y2, y3, y4⟩, f0, f1, f2, f3, f4⟩ := five b2
  have hlw := h1.1
  have L1 : Hid (ws.length = n) := hlw
  clear hlw h1 h2 g1 hrow b0 b1 b2 hs1 hsz e0 e1 e2
  simp only []
  go_wp2_with fail
  obtain ⟨p02, p2g, p12, p01, p2w⟩ := HF.out
  obtain ⟨c2, k2⟩ := fill4 (.slice (some ⟨g, 0, none⟩) n n) (.int .i64 half) (.int .i64 low) (.int .i64 next) B2.out
  have g2 := grown_into G1.out k2 (by rw [E0.out]; omega)
  have c0 := (k2.block p0 (by omega) (by simp; omega)).trans B0.out
  have c1 := (k2.block p1 (by omega) (by simp; omega)).trans B1.out
  have r2 := R1.out.kept k2 (by simp; omega)
  have s2 := k2.size
  clear x0 x1 x2 x3 x4 y0 y1 y2 y3 y4 f0 f1 f2 f3 f4 k2 B0 B1 B2 G1 R1
  generalize ((((w1.setCell ⟨p2, 0, none⟩ (.slice (some ⟨g, 0, none⟩) n n)).setCell ⟨p2, 1, none⟩ (.int .i64 half)).setCell ⟨p2, 2, none⟩ (.int .i64 low)).setCell ⟨p2, 3, none⟩ (.int .i64 next)) = u at *
  refine (toA b m d ls u (H2.out.none g2) hm).mono ?_
  rintro e w2 ⟨g', rfl, hg2, hsz, hrow⟩
  have c0 := (hg2.block p0 (by omega) (by simp)).trans c0
  have c1 := (hg2.block p1 (by omega) (by simp)).trans c1
  have c2 := (hg2.block p2 (by omega) (by simp)).trans c2
  have r2 := r2.kept hg2 (by simp)
  have hgl := r2.lt
  have g3 := grown_trans g2 hg2
  have hgg : g ≠ g' := by
    intro e; subst e
    obtain ⟨_, q1, _⟩ := r2
    obtain ⟨_, q2, _⟩ := hrow
    rw [q1] at q2; simp at q2
  have q1 := (heap_setCell_other w2 ⟨p2, 4, none⟩ p1 (.slice (some ⟨g', 0, none⟩) m m) (by simp; omega)).trans c1
  obtain ⟨d1, k1⟩ := fill5 (.slice (some ⟨g, 0, none⟩) n n) (.int .i64 half) (.int .i64 low) (.int .i64 next) (.slice (some ⟨g', 0, none⟩) m m) q1
  have G3 := grown_into (grown_into g3 (grown_setCell w2 p2 4 (.slice (some ⟨g', 0, none⟩) m m)) (by rw [E0.out]; omega)) k1 (by rw [E0.out]; omega)
  have hg'u : p2 < g' := by omega
  have R3 := (r2.kept (grown_setCell w2 p2 4 (.slice (some ⟨g', 0, none⟩) m m)) (by simp; omega)).kept k1 (by simp; omega)
  have R4 := (hrow.kept (grown_setCell w2 p2 4 (.slice (some ⟨g', 0, none⟩) m m)) (by simp; omega)).kept k1 (by simp; omega)
  have FIN : Hid _ := And.intro G3 (And.intro R3 (And.intro R4 (And.intro hgg (And.intro (show w.heap.size ≤ g by rw [E0.out]; omega) (show w.heap.size ≤ g' by rw [E0.out]; omega)))))
  obtain ⟨⟨x0, x1, x2, x3, x4⟩, e0, e1, e2, e3, e4⟩ := five c1
  obtain ⟨⟨y0, y1, y2, y3, y4⟩, f0, f1, f2, f3, f4⟩ := five c2
  have N1 : Hid (ws.length = n ∧ ls.length = m * 3) := ⟨L1.out, H2.out.1⟩
  have D1 : Hid _ := d1
  clear G3 R3 R4 hgg c0 c1 c2 d1 k1 q1 g3 hg2 r2 hrow g2 s2 hsz hgl
  simp only []
  go_wp2
  (try simp only [Exit.inBlock, Exit.then])
  refine bodyPost_ret (results_cell_row (P := Tryd.prog) Tryd.results8 _ _ p1 _ _ _ _ rfl D1.out Tryd.underlying29 rfl (by kernel_rfl)) rfl ?_
  obtain ⟨z1, z2, z3, z4, z5, z6⟩ := FIN.out
  exact ⟨g, g', rfl, z1, z5, z6, z4, z2.own N1.out.1, z3.own N1.out.2⟩
end Go.Proofs.YtonmcndedbmbfabDoor.By
