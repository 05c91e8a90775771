/-
  The contract of own (a heap whose lists are copied), for this seat's proofs. No statement is proved here.
-/
import Derived.Test.YtonmcndedbmbfaaDoorHFresh
namespace Go.Proofs.YtonmcndedbmbfaaDoor.By
open Go.RowKit
set_option linter.unusedVariables false

theorem alloc2_blocks (w : World) (A B : Obj) : ((w.alloc A).alloc B).heap[w.heap.size]? = some A ∧ ((w.alloc A).alloc B).heap[w.heap.size + 1]? = some B ∧ ((w.alloc A).alloc B).heap.size = w.heap.size + 1 + 1 := by
  have e1 : (w.alloc A).heap.size = w.heap.size + 1 := by simp
  refine ⟨?_, ?_, by simp⟩
  · rw [heap_alloc_old _ _ (by omega)]; exact heap_alloc_new w A
  · have := heap_alloc_new (w.alloc A) B; rw [e1] at this; exact this

theorem OwnI.keep2 {w w' w'' : World} {t : TypeId} {g k p q : Nat} {a : Option Addr} {zs : List Int} (o : OwnI w t g a k zs) (k1 : w.grownBy w' (some p)) (k2 : w'.grownBy w'' (some q)) (h : k = 0 ∨ (g ≠ p ∧ g ≠ q)) : OwnI w'' t g a k zs := by
  rcases h with h | ⟨h1, h2⟩
  · exact ⟨o.1, .inl h⟩
  · exact (o.kept k1 (by simpa using h1)).kept k2 (by simpa using h2)

set_option maxHeartbeats 1000000 in
theorem ownL (p n m c d : Nat) (a b : Option Addr) (half low next : Int) (ws ls : List Int) (w : World) (hp : w.heap[p]? = some (.cells #[.slice a n c, .int .i64 half, .int .i64 low, .int .i64 next, .slice b m d] 26 (0, 0))) (h1 : ReadsI w a n ws) (h2 : ReadsI w b (m * 3) ls) (ha : a = none → c = 0) (hb : b = none → d = 0) (hn : n ≤ 1048576) (hm : m ≤ 1048576) :
    Calls Tryd.prog 22 #[.pointer (some ⟨p, 0, none⟩)] w fun e w' => ∃ a' b' c' d' g g', e = .returned (.agg #[.slice a' n c', .int .i64 half, .int .i64 low, .int .i64 next, .slice b' m d']) ∧ w.grownBy w' none ∧ w.heap.size ≤ g ∧ w.heap.size ≤ g' ∧ (n = 0 ∨ g ≠ g') ∧ OwnI w' 3 g a' n ws ∧ LogI w' 59 g' b' m d' ls ∧ n ≤ c' := by
  have hlt := lt_of_block hp
  obtain ⟨⟨v0, v1, v2, v3, v4⟩, -⟩ := five hp
  have HP : Hid _ := And.intro hp (And.intro h1 (And.intro h2 hlt))
  obtain ⟨b0, b1, bs⟩ := alloc2_blocks w (.cells #[.slice none 0 0, .int .i64 0, .int .i64 0, .int .i64 0, .slice none 0 0] 26) (.cells #[.slice a n c, .int .i64 half, .int .i64 low, .int .i64 next, .slice b m d] 26)
  have g0 := grown_alloc (grown_alloc (World.grownBy.refl w none) (.cells #[.slice none 0 0, .int .i64 0, .int .i64 0, .int .i64 0, .slice none 0 0] 26)) (.cells #[.slice a n c, .int .i64 half, .int .i64 low, .int .i64 next, .slice b m d] 26)
  have H0 : Hid _ := And.intro b0 (And.intro b1 (And.intro bs g0))
  clear hp h1 h2 b0 b1 bs g0
  go_enter Tryd.func22, Tryd.ntmps22
  go_wp2_with fail
  obtain ⟨b0, b1, bs, g0⟩ := H0.out
  obtain ⟨hp, h1, h2, -⟩ := HP.out
  refine (freshI n c a ws _ (h1.none g0) ha hn).mono ?_
  rintro e w1 ⟨a', g, c', rfl, hg1, hsz, o1, hc1⟩
  rw [bs] at hsz
  have b0 := (hg1.block _ (by rw [bs]; omega) (by simp)).trans b0
  have b1 := (hg1.block _ (by rw [bs]; omega) (by simp)).trans b1
  have g1 := grown_trans g0 hg1
  have bp := (g1.block _ hlt (by simp)).trans hp
  have hs1 := hg1.size
  rw [bs] at hs1
  clear hg1 g0 bs H0 v0 v1 v2 v3 v4 hp h1 h2
  generalize e0 : w.heap.size = p1 at *
  generalize e1 : p1 + 1 = p2 at *
  have k1 := heap_setCell_same w1 p2 0 _ 26 (.slice a' n c') b1
  have kg := grown_setCell w1 p2 0 (.slice a' n c')
  have bp' := (kg.block p (by omega) (by simp; omega)).trans bp
  have b0' := (kg.block p1 (by omega) (by simp; omega)).trans b0
  have F1 : Hid _ := And.intro (grown_into g1 kg (by omega)) (And.intro bp' (And.intro b0' (And.intro k1 (And.intro (o1.kept kg (by simp; omega)) (And.intro (show p2 < (w1.setCell ⟨p2, 0, none⟩ (.slice a' n c')).heap.size from Nat.lt_of_lt_of_le (show p2 < w1.heap.size by omega) kg.size) (show p2 < g ∨ n = 0 by omega))))))
  obtain ⟨⟨x0, x1, x2, x3, x4⟩, f0, f1, f2, f3, f4⟩ := five b1
  obtain ⟨⟨y0, y1, y2, y3, y4⟩, -⟩ := five bp
  have n1 : p ≠ p2 := by omega
  have n2 : p1 ≠ p2 := by omega
  have LT : Hid (p < p1 ∧ p1 < p2 ∧ p1 ≤ g ∧ w.heap.size = p1 ∧ n ≤ c') := ⟨by omega, by omega, by omega, e0, hc1⟩
  clear b0 b1 bp g1 hs1 hsz o1 k1 kg bp' b0' hc1 e1
  simp only []
  go_wp2_with fail
  obtain ⟨G1, bp, b0, b1, o1, s2, gg⟩ := F1.out
  obtain ⟨l1, l2, l3, l4, l5⟩ := LT.out
  obtain ⟨-, -, h2, -⟩ := HP.out
  generalize w1.setCell ⟨p2, 0, none⟩ (.slice a' n c') = u at *
  refine (freshL m d b ls u (h2.none G1) hb hm).mono ?_
  rintro e w2 ⟨b', g', d', rfl, hg2, hsz2, o2⟩
  clear x0 x1 x2 x3 x4 y0 y1 y2 y3 y4 f0 f1 f2 f3 f4
  have b0 := (hg2.block p1 (by omega) (by simp)).trans b0
  have b1 := (hg2.block p2 (by omega) (by simp)).trans b1
  have o1l := o1.lt
  have o1 := o1.kept hg2 (by simp)
  have g3 := grown_trans G1 hg2
  have b1' : w2.heap[p2]? = some (.cells #[.slice a' n c', .int .i64 half, .int .i64 low, .int .i64 next, .slice b m d] 26 (0, 0)) := b1
  have k4 := heap_setCell_same w2 p2 4 _ 26 (.slice b' m d') b1'
  have kg := grown_setCell w2 p2 4 (.slice b' m d')
  have q1 := (kg.block p1 (by have := hg2.size; omega) (by simp; omega)).trans b0
  obtain ⟨d1, k5⟩ := fill5 (.slice a' n c') (.int .i64 half) (.int .i64 low) (.int .i64 next) (.slice b' m d') q1
  have G3 := grown_into (grown_into g3 kg (by omega)) k5 (by omega)
  have R3 := o1.keep2 kg k5 (by omega)
  have R4 := (o2.kept kg (by simp; omega)).kept k5 (by simp; omega)
  have FIN : Hid _ := And.intro G3 (And.intro R3 (And.intro R4 (And.intro (show n = 0 ∨ g ≠ g' by omega) (And.intro (show w.heap.size ≤ g by omega) (And.intro (show w.heap.size ≤ g' by omega) l5)))))
  have D1 : Hid _ := d1
  obtain ⟨⟨x0, x1, x2, x3, x4⟩, e0, e1, e2, e3, e4⟩ := five b0
  obtain ⟨⟨y0, y1, y2, y3, y4⟩, f0, f1, f2, f3, f4⟩ := five b1'
  have n3 : p2 ≠ p1 := by omega
  clear HP F1 LT G1 bp b0 b1 b1' o1 s2 gg l1 l2 l3 l4 l5 h2 hg2 hsz2 o2 o1l g3 k4 kg q1 d1 k5 G3 R3 R4
  simp only []
  go_wp2
  (try simp only [Exit.inBlock, Exit.then])
  refine bodyPost_ret (results_cell_row (P := Tryd.prog) Tryd.results22 _ _ p1 _ _ _ _ rfl D1.out Tryd.underlying26 rfl (by kernel_rfl)) rfl ?_
  obtain ⟨z1, z2, z3, z4, z5, z6, z7⟩ := FIN.out
  exact ⟨a', b', c', d', g, g', rfl, z1, z5, z6, z4, z2, z3, z7⟩

theorem ownT (p n m c d : Nat) (a b : Option Addr) (half low next : Int) (ws ls : List Int) (w : World) (hp : w.heap[p]? = some (.cells #[.slice a n c, .int .i64 half, .int .i64 low, .int .i64 next, .slice b m d] 26 (0, 0))) (h1 : ReadsI w a n ws) (h2 : ReadsI w b (m * 3) ls) (ha : a = none → c = 0) (hb : b = none → d = 0) (hn : n ≤ 1048576) (hm : m ≤ 1048576) :
    Calls Tryd.prog 22 #[.pointer (some ⟨p, 0, none⟩)] w fun e w' => ∃ a' b' c' d' g g', e = .returned (.agg #[.slice a' n c', .int .i64 half, .int .i64 low, .int .i64 next, .slice b' m d']) ∧ w.grownBy w' none ∧ w.heap.size ≤ g ∧ w.heap.size ≤ g' ∧ (n = 0 ∨ m = 0 ∨ g ≠ g') ∧ OwnI w' 3 g a' n ws ∧ OwnI w' 59 g' b' (m * 3) ls ∧ n ≤ c' ∧ m ≤ d' :=
  (ownL p n m c d a b half low next ws ls w hp h1 h2 ha hb hn hm).mono fun e w' ⟨a', b', c', d', g, g', he, k1, k2, k3, k4, k5, k6, k7⟩ => ⟨a', b', c', d', g, g', he, k1, k2, k3, by omega, k5, k6.own, k7, k6.le⟩
end Go.Proofs.YtonmcndedbmbfaaDoor.By
