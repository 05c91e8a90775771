/-
  Contracts of HeapRoom, of the specification's questions on heaps, and of the law's measure, for this seat's proofs. No statement is proved here.
-/
import Derived.Test.YtonmcndedbmbfaaDoorHOk
namespace Go.Proofs.YtonmcndedbmbfaaDoor.By
open Go.RowKit
set_option linter.unusedVariables false

/-- How many words are not taken. -/
def roomI (half : Int) (n : Nat) (low next : Int) (m : Nat) : Int := if okB half n low next m = true then low + half - next else 0
theorem okB_out {half : Int} {n : Nat} {low next : Int} {m : Nat} (h : okB half n low next m = true) : 16 ≤ half ∧ half ≤ 4096 ∧ (n : Int) = 2 * half ∧ m ≤ 4000 ∧ (low = 0 ∨ low = half) ∧ low ≤ next ∧ next ≤ low + half := by
  simp only [okB, Bool.and_eq_true, Bool.or_eq_true, decide_eq_true_eq] at h
  obtain ⟨⟨⟨⟨⟨⟨h1, h2⟩, h3⟩, h4⟩, h5⟩, h6⟩, h7⟩ := h
  exact ⟨h1, h2, h3, h4, h5, h6, h7⟩

set_option maxHeartbeats 1000000 in
theorem roomT (p : Nat) (half low next : Int) (w : World) (c1 : w.cell? ⟨p, 1, none⟩ = some (.int .i64 half)) (c2 : w.cell? ⟨p, 2, none⟩ = some (.int .i64 low)) (c3 : w.cell? ⟨p, 3, none⟩ = some (.int .i64 next)) (b0 : 0 ≤ half) (b1 : half ≤ 4096) (b2 : 0 ≤ low) (b3 : low ≤ 4096) (b4 : 0 ≤ next) (b5 : next ≤ 8192) :
    Calls Tryd.prog 25 #[.pointer (some ⟨p, 0, none⟩)] w fun e w' => e = .returned (.int .i64 (low + half - next)) ∧ ∃ q, w' = w.drewN q := by
  go_enter Tryd.func25, Tryd.ntmps25
  go_wp2
  go_quiet (fail)
  go_wp2
  go_ret
  exact ⟨by first | rfl | (simp; go_num) | simp, _, rfl⟩

set_option maxHeartbeats 1000000 in
theorem implRoom (n m c d : Nat) (a b : Option Addr) (half low next : Int) (w : World) :
    Calls Tryd.prog 10 #[.agg #[.slice a n c, .int .i64 half, .int .i64 low, .int .i64 next, .slice b m d]] w fun e w' => e = .returned (.int .i64 (roomI half n low next m)) ∧ w.grownBy w' none := by
  by_cases hok : okB half n low next m = true
  · obtain ⟨h1, h2, h3, h4, h5, h6, h7⟩ := okB_out hok
    have E : Hid (roomI half n low next m = low + half - next) := if_pos hok
    have b2 : 0 ≤ low := by omega
    have b3 : low ≤ 4096 := by omega
    have b4 : next ≤ 8192 := by omega
    have O := okT w.heap.size n m c d a b half low next
    simp only [hok] at O
    clear hok h3 h5 h7
    go_enter Tryd.func10, Tryd.ntmps10
    go_wp2_with fail
    refine (O _ (by simp) (by simp) (by simp) (by simp) (by simp)).mono ?_
    rintro e w' ⟨rfl, q, rfl⟩
    simp only []
    go_wp2_with fail
    refine (roomT w.heap.size half low next _ (by simp) (by simp) (by simp) (by omega) (by omega) (by omega) (by omega) (by omega) (by omega)).mono ?_
    rintro e w' ⟨rfl, q', rfl⟩
    simp only []
    go_wp2
    go_ret
    exact ⟨by rw [E.out]; rfl, grown_qN (grown_qN (World.grownBy_alloc _ _ _) q) q'⟩
  · have hok' : okB half n low next m = false := by simpa using hok
    have E : Hid (roomI half n low next m = 0) := if_neg hok
    have O := okT w.heap.size n m c d a b half low next
    simp only [hok'] at O
    clear hok hok'
    go_enter Tryd.func10, Tryd.ntmps10
    go_wp2_with fail
    refine (O _ (by simp) (by simp) (by simp) (by simp) (by simp)).mono ?_
    rintro e w' ⟨rfl, q, rfl⟩
    simp only []
    go_wp2
    go_ret
    exact ⟨by rw [E.out]; rfl, grown_qN (World.grownBy_alloc _ _ _) q⟩

set_option maxHeartbeats 2000000 in
theorem specOk (n m c d : Nat) (a b : Option Addr) (half low next : Int) (w : World) :
    Calls Tryd.prog 8 #[.agg #[.slice a n c, .int .i64 half, .int .i64 low, .int .i64 next, .slice b m d]] w fun e w' => e = .returned (.bool (okB half n low next m)) ∧ w.grownBy w' none := by
  by_cases h1 : 16 ≤ half
  rotate_left
  · have E : okB half n low next m = false := by simp [okB, h1]
    rw [E]; clear E
    have k1 : half < 16 := by omega
    clear h1
    go_enter Tryd.func8, Tryd.ntmps8
    go_wp2
    go_ret
    exact ⟨by first | rfl | (simp; omega), World.grownBy_alloc _ _ _⟩
  by_cases h2 : half ≤ 4096
  rotate_left
  · have E : okB half n low next m = false := by simp [okB, h2]
    rw [E]; clear E
    have k2 : 4096 < half := by omega
    clear h2
    go_enter Tryd.func8, Tryd.ntmps8
    go_wp2
    go_ret
    exact ⟨by first | rfl | (simp; omega), World.grownBy_alloc _ _ _⟩
  have k1 : ¬ half < 16 := by omega
  have k2 : ¬ 4096 < half := by omega
  by_cases h3 : (n : Int) = 2 * half
  rotate_left
  · have E : okB half n low next m = false := by simp [okB, h3]
    rw [E]; clear E
    go_enter Tryd.func8, Tryd.ntmps8
    go_wp2
    go_ret
    exact ⟨by first | rfl | (simp; omega), World.grownBy_alloc _ _ _⟩
  by_cases h4 : m ≤ 4000
  rotate_left
  · have E : okB half n low next m = false := by simp [okB, h4]
    rw [E]; clear E
    have k4 : 4000 < (m : Int) := by omega
    clear h4
    go_enter Tryd.func8, Tryd.ntmps8
    go_wp2
    go_ret
    exact ⟨by first | rfl | (simp; omega), World.grownBy_alloc _ _ _⟩
  have k4 : ¬ 4000 < (m : Int) := by omega
  by_cases h5 : low = 0 ∨ low = half
  rotate_left
  · have E : okB half n low next m = false := by simp only [not_or] at h5; simp [okB, h5.1, h5.2]
    rw [E]; clear E
    simp only [not_or] at h5
    obtain ⟨l1, l2⟩ := h5
    go_enter Tryd.func8, Tryd.ntmps8
    go_wp2
    go_ret
    exact ⟨by first | rfl | (simp; omega), World.grownBy_alloc _ _ _⟩
  have EE : okB half n low next m = (decide (low ≤ next) && decide (next ≤ low + half)) := by
    have hI : (decide (low = 0) || decide (low = half)) = true := by simpa using h5
    simp only [okB, hI]; simp [h1, h2, h3, h4]
  rw [EE]; clear EE h4
  by_cases h6 : low ≤ next
  rotate_left
  · have E : (decide (low ≤ next) && decide (next ≤ low + half)) = false := by simp [h6]
    rw [E]; clear E
    have k6 : next < low := by omega
    clear h6
    rcases h5 with h5 | h5
    · subst h5
      go_enter Tryd.func8, Tryd.ntmps8
      go_wp2
      go_ret
      exact ⟨by first | rfl | (simp; omega), World.grownBy_alloc _ _ _⟩
    · have hn0 : ¬ low = 0 := by omega
      go_enter Tryd.func8, Tryd.ntmps8
      go_wp2
      go_ret
      exact ⟨by first | rfl | (simp; omega), World.grownBy_alloc _ _ _⟩
  by_cases h7 : next ≤ low + half
  · have E : (decide (low ≤ next) && decide (next ≤ low + half)) = true := by simp [h6, h7]
    rw [E]; clear E
    rcases h5 with h5 | h5
    · subst h5
      go_enter Tryd.func8, Tryd.ntmps8
      go_wp2
      go_ret
      exact ⟨by first | rfl | (simp; omega), World.grownBy_alloc _ _ _⟩
    · have hn0 : ¬ low = 0 := by omega
      go_enter Tryd.func8, Tryd.ntmps8
      go_wp2
      go_ret
      exact ⟨by first | rfl | (simp; omega), World.grownBy_alloc _ _ _⟩
  · have E : (decide (low ≤ next) && decide (next ≤ low + half)) = false := by simp [h7]
    rw [E]; clear E
    have k7 : low + half < next := by omega
    clear h7
    rcases h5 with h5 | h5
    · subst h5
      go_enter Tryd.func8, Tryd.ntmps8
      go_wp2
      go_ret
      exact ⟨by first | rfl | (simp; omega), World.grownBy_alloc _ _ _⟩
    · have hn0 : ¬ low = 0 := by omega
      go_enter Tryd.func8, Tryd.ntmps8
      go_wp2
      go_ret
      exact ⟨by first | rfl | (simp; omega), World.grownBy_alloc _ _ _⟩

set_option maxHeartbeats 1000000 in
theorem specRoom (n m c d : Nat) (a b : Option Addr) (half low next : Int) (w : World) :
    Calls Tryd.prog 9 #[.agg #[.slice a n c, .int .i64 half, .int .i64 low, .int .i64 next, .slice b m d]] w fun e w' => e = .returned (.int .i64 (roomI half n low next m)) ∧ w.grownBy w' none := by
  have g0 := World.grownBy_alloc w (.cells #[.slice a n c, .int .i64 half, .int .i64 low, .int .i64 next, .slice b m d] 26) none
  have b0 := heap_alloc_new w (.cells #[.slice a n c, .int .i64 half, .int .i64 low, .int .i64 next, .slice b m d] 26)
  have S0 : w.heap.size < (w.alloc (.cells #[.slice a n c, .int .i64 half, .int .i64 low, .int .i64 next, .slice b m d] 26)).heap.size := by simp
  have G0 : Hid (w.grownBy _ none) := g0
  have B0 : Hid (_ = some (Obj.cells #[.slice a n c, .int .i64 half, .int .i64 low, .int .i64 next, .slice b m d] 26)) := b0
  have O := specOk n m c d a b half low next
  clear g0 b0
  by_cases hok : okB half n low next m = true
  · obtain ⟨h1, h2, h3, h4, h5, h6, h7⟩ := okB_out hok
    have E : Hid (roomI half n low next m = low + half - next) := if_pos hok
    have b2 : 0 ≤ low := by omega
    have b3 : low ≤ 4096 := by omega
    have b4 : next ≤ 8192 := by omega
    simp only [hok] at O
    clear hok h3 h5 h7
    go_enter Tryd.func9, Tryd.ntmps9
    go_wp2_with fail
    refine (O _).mono ?_
    rintro e w1 ⟨rfl, hg⟩
    have c0 := (hg.block _ S0 (by simp)).trans B0.out
    have FIN : Hid (w.grownBy w1 none) := grown_trans G0.out hg
    obtain ⟨⟨x0, x1, x2, x3, x4⟩, -⟩ := five c0
    clear c0 hg G0 B0 S0 O
    simp only []
    go_wp2
    go_ret
    exact ⟨by rw [E.out]; rfl, FIN.out⟩
  · have hok' : okB half n low next m = false := by simpa using hok
    have E : Hid (roomI half n low next m = 0) := if_neg hok
    simp only [hok'] at O
    clear hok hok'
    go_enter Tryd.func9, Tryd.ntmps9
    go_wp2_with fail
    refine (O _).mono ?_
    rintro e w1 ⟨rfl, hg⟩
    have FIN : Hid (w.grownBy w1 none) := grown_trans G0.out hg
    clear hg G0 B0 S0 O
    simp only []
    go_wp2
    go_ret
    exact ⟨by rw [E.out]; rfl, FIN.out⟩
end Go.Proofs.YtonmcndedbmbfaaDoor.By
