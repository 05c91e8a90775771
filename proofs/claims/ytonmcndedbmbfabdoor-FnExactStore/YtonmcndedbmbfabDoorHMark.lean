/-
  Contracts of the law's own marks on whole heaps, for this seat's proofs. No statement is proved here.
-/
import Derived.Test.YtonmcndedbmbfabDoorHHeap
namespace Go.Proofs.YtonmcndedbmbfabDoor.By
open Go.RowKit
set_option linter.unusedVariables false

/-- Of what was there the block g (if n is not 0) and the block g' (if m is not 0) alone may have turned. -/
def Turn (w w' : World) (n g m g' : Nat) : Prop := ∃ wa wb, w.grownBy wa none ∧ wa.grownBy wb (tgt n g) ∧ wb.grownBy w' (tgt m g')
theorem Turn.block {w w' : World} {n g m g' : Nat} (h : Turn w w' n g m g') (k : Nat) (hk : k < w.heap.size) (h1 : n = 0 ∨ k ≠ g) (h2 : m = 0 ∨ k ≠ g') : w'.heap[k]? = w.heap[k]? := by
  obtain ⟨wa, wb, ha, hb, hc⟩ := h
  have s1 := ha.size
  have s2 := hb.size
  exact (hc.block k (by omega) (tgt_ne h2)).trans ((hb.block k (by omega) (tgt_ne h1)).trans (ha.block k hk (by simp)))
theorem Turn.size {w w' : World} {n g m g' : Nat} (h : Turn w w' n g m g') : w.heap.size ≤ w'.heap.size := by
  obtain ⟨wa, wb, ha, hb, hc⟩ := h
  exact Nat.le_trans ha.size (Nat.le_trans hb.size hc.size)
theorem grown_tgt {a w w' : World} {n g : Nat} (h : a.grownBy w none) (k : w.grownBy w' (tgt n g)) (hp : a.heap.size ≤ g) : a.grownBy w' none := by
  unfold tgt at k
  split at k
  · exact grown_trans h k
  · exact grown_into h k hp
theorem Turn.grown {w w' v : World} {n g m g' : Nat} (h : Turn w w' n g m g') (hv : v.grownBy w none) (h1 : v.heap.size ≤ g) (h2 : v.heap.size ≤ g') : v.grownBy w' none := by
  obtain ⟨wa, wb, ha, hb, hc⟩ := h
  exact grown_tgt (grown_tgt (grown_trans hv ha) hb h1) hc h2
theorem Turn.own {w w' : World} {n g m g' : Nat} (h : Turn w w' n g m g') {t : TypeId} {r k : Nat} {a : Option Addr} {zs : List Int} (o : OwnI w t r a k zs) (h1 : n = 0 ∨ r ≠ g) (h2 : m = 0 ∨ r ≠ g') : OwnI w' t r a k zs := by
  obtain ⟨wa, wb, ha, hb, hc⟩ := h
  exact ((o.kept ha (by simp)).kept hb (tgt_ne h1)).kept hc (tgt_ne h2)

set_option maxHeartbeats 1000000 in
theorem markH (a b : Option Addr) (n m c d g g' : Nat) (half low next k0 : Int) (ws ls : List Int) (w : World) (h1 : OwnI w 3 g a n ws) (h2 : OwnI w 65 g' b (m * 3) ls) (hne : n = 0 ∨ m = 0 ∨ g ≠ g') (hn : n ≤ 1048576) (hm : m ≤ 1048576) (hk0 : 0 ≤ k0) (hk1 : k0 ≤ 4194304) :
    Calls Tryd.prog 11 #[.agg #[.slice a n c, .int .i64 half, .int .i64 low, .int .i64 next, .slice b m d], .int .i64 k0] w fun e w' => e = .returned (.int .i64 (k0 + n + m * 3)) ∧ Turn w w' n g m g' ∧ OwnI w' 3 g a n (marksI k0 n) ∧ OwnI w' 65 g' b (m * 3) (marksI (k0 + n) (m * 3)) := by
  have ga := World.grownBy_alloc w (.cells #[.slice a n c, .int .i64 half, .int .i64 low, .int .i64 next, .slice b m d] 29) none
  have ba := heap_alloc_new w (.cells #[.slice a n c, .int .i64 half, .int .i64 low, .int .i64 next, .slice b m d] 29)
  have sa : w.heap.size < (w.alloc (.cells #[.slice a n c, .int .i64 half, .int .i64 low, .int .i64 next, .slice b m d] 29)).heap.size := by simp
  have F : Hid _ := And.intro ga (And.intro ba (And.intro sa (And.intro h1 h2)))
  clear ga ba sa h1 h2
  go_enter Tryd.func11, Tryd.ntmps11
  go_wp2_with fail
  obtain ⟨ga, ba, sa, h1, h2⟩ := F.out
  refine (markI g n c a ws k0 _ (h1.kept ga (by simp)) (by omega) hk0 (by omega)).mono ?_
  rintro e w1 ⟨rfl, hgr, o1⟩
  have b1 := (hgr.block _ sa (tgt_ne (by rcases h1.lt with h | h <;> omega))).trans ba
  obtain ⟨⟨x0, x1, x2, x3, x4⟩, -⟩ := five b1
  have F1 : Hid _ := And.intro hgr o1
  clear ga ba sa h1 h2 hgr o1 b1
  simp only []
  go_wp2_with fail
  obtain ⟨ga, ba, sa, h1, h2⟩ := F.out
  obtain ⟨hgr, o1⟩ := F1.out
  have h2k : OwnI w1 65 g' b (m * 3) ls := by
    by_cases hm0 : m = 0
    · exact ⟨h2.1, .inl (by omega)⟩
    · exact (h2.kept ga (by simp)).kept hgr (tgt_ne (by omega))
  refine (markA g' m d b ls (k0 + n) w1 h2k (by omega) (by omega) (by omega)).mono ?_
  rintro e w2 ⟨rfl, hgr2, o2⟩
  have o1' : OwnI w2 3 g a n (marksI k0 n) := by
    by_cases hn0 : n = 0
    · exact ⟨o1.1, .inl hn0⟩
    · exact o1.kept hgr2 (tgt_ne (by omega))
  have FIN : Hid _ := And.intro (show Turn w w2 n g m g' from ⟨_, _, ga, hgr, hgr2⟩) (And.intro o1' o2)
  clear ga ba sa h1 h2 hgr o1 h2k hgr2 o2 o1' F F1 x0 x1 x2 x3 x4
  simp only []
  go_wp2
  go_ret
  exact ⟨rfl, FIN.out⟩

set_option maxHeartbeats 1000000 in
theorem heldH (a b : Option Addr) (n m c d : Nat) (half low next k0 : Int) (w : World) (h1 : ReadsI w a n (marksI k0 n)) (h2 : ReadsI w b (m * 3) (marksI (k0 + n) (m * 3))) (hn : n ≤ 1048576) (hm : m ≤ 1048576) (hk0 : 0 ≤ k0) (hk1 : k0 ≤ 4194304) :
    Calls Tryd.prog 12 #[.agg #[.slice a n c, .int .i64 half, .int .i64 low, .int .i64 next, .slice b m d], .int .i64 k0] w fun e w' => e = .returned (.int .i64 (k0 + n + m * 3)) ∧ w.grownBy w' none := by
  have ga := World.grownBy_alloc w (.cells #[.slice a n c, .int .i64 half, .int .i64 low, .int .i64 next, .slice b m d] 29) none
  have F : Hid _ := And.intro ga (And.intro h1 h2)
  have q1 : ¬ (k0 + n < 0) := by omega
  have q2 : ¬ (k0 + n + m * 3 < 0) := by omega
  clear ga h1 h2
  go_enter Tryd.func12, Tryd.ntmps12
  go_wp2_with fail
  obtain ⟨ga, h1, h2⟩ := F.out
  refine (heldI a n c k0 _ (h1.none ga) (by omega) hk0 (by omega)).mono ?_
  rintro e w1 ⟨rfl, q, rfl⟩
  clear ga h1 h2
  simp only []
  go_wp2_with fail
  obtain ⟨ga, h1, h2⟩ := F.out
  refine (heldA b m d (k0 + n) _ (h2.none (grown_qN ga q)) (by omega) (by omega) (by omega)).mono ?_
  rintro e w2 ⟨rfl, q', rfl⟩
  clear ga h1 h2 F
  simp only []
  go_wp2
  go_ret
  exact ⟨rfl, grown_qN (World.grownBy_alloc _ _ _) _⟩
end Go.Proofs.YtonmcndedbmbfabDoor.By
