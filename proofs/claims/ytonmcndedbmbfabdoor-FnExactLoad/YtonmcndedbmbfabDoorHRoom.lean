/-
  Contracts of HeapRoom, of the specification's questions on heaps, and of the law's measure, for this seat's proofs. No statement is proved here.
-/
import Derived.Test.YtonmcndedbmbfabDoorHOk
namespace Go.Proofs.YtonmcndedbmbfabDoor.By
open Go.RowKit
set_option linter.unusedVariables false

/-- How many words are not taken. -/
def roomI (half : Int) (n : Nat) (low next : Int) (m : Nat) : Int := if okB half n low next m = true then low + half - next else 0
theorem okB_out {half : Int} {n : Nat} {low next : Int} {m : Nat} (h : okB half n low next m = true) : 16 ≤ half ∧ half ≤ 4096 ∧ (n : Int) = 2 * half ∧ m ≤ 4000 ∧ (low = 0 ∨ low = half) ∧ low ≤ next ∧ next ≤ low + half := by
  simp only [okB, Bool.and_eq_true, Bool.or_eq_true, decide_eq_true_eq] at h
  obtain ⟨⟨⟨⟨⟨⟨h1, h2⟩, h3⟩, h4⟩, h5⟩, h6⟩, h7⟩ := h
  exact ⟨h1, h2, h3, h4, h5, h6, h7⟩

set_option maxHeartbeats 1000000 in
theorem roomT (p : Nat) (half low next : Int) (w : World) (c1 : w.cell? ⟨p, 1, none⟩ = some (.int .i64 half)) (c2 : w.cell? ⟨p, 2, none⟩ = some (.int .i64 low)) (c3 : w.cell? ⟨p, 3, none⟩ = some (.int .i64 next)) (b0 : 0 ≤ half) (b1 : half ≤ 4096) (b2 : 0 ≤ low) (b3 : low ≤ 4096) (b4 : 0 ≤ next) (b5 : next ≤ 8192) :
    Calls Tryd.prog 42 #[.pointer (some ⟨p, 0, none⟩)] w fun e w' => e = .returned (.int .i64 (low + half - next)) ∧ ∃ q, w' = w.drewN q := by
  go_enter Tryd.func42, Tryd.ntmps42
  go_wp2
  go_quiet (fail)
  go_wp2
  go_ret
  exact ⟨by first | rfl | (simp; go_num) | simp, _, rfl⟩

set_option maxHeartbeats 2000000 in
theorem specOk (n m c d : Nat) (a b : Option Addr) (half low next : Int) (w : World) :
    Calls Tryd.prog 19 #[.agg #[.slice a n c, .int .i64 half, .int .i64 low, .int .i64 next, .slice b m d]] w fun e w' => e = .returned (.bool (okB half n low next m)) ∧ w.grownBy w' none := by
  by_cases h1 : 16 ≤ half
  rotate_left
  · have E : okB half n low next m = false := by simp [okB, h1]
    rw [E]; clear E
    have k1 : half < 16 := by omega
    clear h1
    go_enter Tryd.func19, Tryd.ntmps19
    go_wp2
    go_ret
    exact ⟨by first | rfl | (simp; omega), World.grownBy_alloc _ _ _⟩
  by_cases h2 : half ≤ 4096
  rotate_left
  · have E : okB half n low next m = false := by simp [okB, h2]
    rw [E]; clear E
    have k2 : 4096 < half := by omega
    clear h2
    go_enter Tryd.func19, Tryd.ntmps19
    go_wp2
    go_ret
    exact ⟨by first | rfl | (simp; omega), World.grownBy_alloc _ _ _⟩
  have k1 : ¬ half < 16 := by omega
  have k2 : ¬ 4096 < half := by omega
  by_cases h3 : (n : Int) = 2 * half
  rotate_left
  · have E : okB half n low next m = false := by simp [okB, h3]
    rw [E]; clear E
    go_enter Tryd.func19, Tryd.ntmps19
    go_wp2
    go_ret
    exact ⟨by first | rfl | (simp; omega), World.grownBy_alloc _ _ _⟩
  by_cases h4 : m ≤ 4000
  rotate_left
  · have E : okB half n low next m = false := by simp [okB, h4]
    rw [E]; clear E
    have k4 : 4000 < (m : Int) := by omega
    clear h4
    go_enter Tryd.func19, Tryd.ntmps19
    go_wp2
    go_ret
    exact ⟨by first | rfl | (simp; omega), World.grownBy_alloc _ _ _⟩
  have k4 : ¬ 4000 < (m : Int) := by omega
  by_cases h5 : low = 0 ∨ low = half
  rotate_left
  · have E : okB half n low next m = false := by simp only [not_or] at h5; simp [okB, h5.1, h5.2]
    rw [E]; clear E
    simp only [not_or] at h5
    obtain ⟨l1, l2⟩ := h5
    go_enter Tryd.func19, Tryd.ntmps19
    go_wp2
    go_ret
    exact ⟨by first | rfl | (simp; omega), World.grownBy_alloc _ _ _⟩
  have EE : okB half n low next m = (decide (low ≤ next) && decide (next ≤ low + half)) := by
    have hI : (decide (low = 0) || decide (low = half)) = true := by simpa using h5
    simp only [okB, hI]; simp [h1, h2, h3, h4]
  rw [EE]; clear EE h4
  by_cases h6 : low ≤ next
  rotate_left
  · have E : (decide (low ≤ next) && decide (next ≤ low + half)) = false := by simp [h6]
    rw [E]; clear E
    have k6 : next < low := by omega
    clear h6
    rcases h5 with h5 | h5
    · subst h5
      go_enter Tryd.func19, Tryd.ntmps19
      go_wp2
      go_ret
      exact ⟨by first | rfl | (simp; omega), World.grownBy_alloc _ _ _⟩
    · have hn0 : ¬ low = 0 := by omega
      go_enter Tryd.func19, Tryd.ntmps19
      go_wp2
      go_ret
      exact ⟨by first | rfl | (simp; omega), World.grownBy_alloc _ _ _⟩
  by_cases h7 : next ≤ low + half
  · have E : (decide (low ≤ next) && decide (next ≤ low + half)) = true := by simp [h6, h7]
    rw [E]; clear E
    rcases h5 with h5 | h5
    · subst h5
      go_enter Tryd.func19, Tryd.ntmps19
      go_wp2
      go_ret
      exact ⟨by first | rfl | (simp; omega), World.grownBy_alloc _ _ _⟩
    · have hn0 : ¬ low = 0 := by omega
      go_enter Tryd.func19, Tryd.ntmps19
      go_wp2
      go_ret
      exact ⟨by first | rfl | (simp; omega), World.grownBy_alloc _ _ _⟩
  · have E : (decide (low ≤ next) && decide (next ≤ low + half)) = false := by simp [h7]
    rw [E]; clear E
    have k7 : low + half < next := by omega
    clear h7
    rcases h5 with h5 | h5
    · subst h5
      go_enter Tryd.func19, Tryd.ntmps19
      go_wp2
      go_ret
      exact ⟨by first | rfl | (simp; omega), World.grownBy_alloc _ _ _⟩
    · have hn0 : ¬ low = 0 := by omega
      go_enter Tryd.func19, Tryd.ntmps19
      go_wp2
      go_ret
      exact ⟨by first | rfl | (simp; omega), World.grownBy_alloc _ _ _⟩

set_option maxHeartbeats 1000000 in
theorem szSmall (n m c d : Nat) (a b : Option Addr) (half low next : Int) (w : World) (h : n + m ≤ 1048576) :
    Calls Tryd.prog 6 #[.agg #[.slice a n c, .int .i64 half, .int .i64 low, .int .i64 next, .slice b m d], .int .i64 1048576] w fun e w' => e = .returned (.int .i64 (1048576 - n - m)) ∧ w.grownBy w' none := by
  have i1 : Calls Tryd.prog 17 #[.slice a n c, .int .i64 1048576] (w.alloc (.cells #[.slice a n c, .int .i64 half, .int .i64 low, .int .i64 next, .slice b m d] 25)) fun e w' => e = .returned (.int .i64 (1048576 - n)) ∧ w' = (w.alloc (.cells #[.slice a n c, .int .i64 half, .int .i64 low, .int .i64 next, .slice b m d] 25)) := by
    have h1 : ¬ ((1048576 : Int) - n < 0) := by omega
    go_enter Tryd.func17, Tryd.ntmps17
    go_wp2
    go_ret
    exact ⟨rfl, rfl⟩
  have i2 : Calls Tryd.prog 18 #[.slice b m d, .int .i64 (1048576 - n)] (w.alloc (.cells #[.slice a n c, .int .i64 half, .int .i64 low, .int .i64 next, .slice b m d] 25)) fun e w' => e = .returned (.int .i64 (1048576 - n - m)) ∧ w' = (w.alloc (.cells #[.slice a n c, .int .i64 half, .int .i64 low, .int .i64 next, .slice b m d] 25)) := by
    have h1 : ¬ ((1048576 : Int) - n - m < 0) := by omega
    go_enter Tryd.func18, Tryd.ntmps18
    go_wp2
    go_ret
    exact ⟨rfl, rfl⟩
  have h1 : ¬ ((1048576 : Int) - n < 0) := by omega
  have h2 : ¬ ((1048576 : Int) - n - m < 0) := by omega
  go_enter Tryd.func6, Tryd.ntmps6
  go_wp2_with fail
  refine i1.mono ?_
  rintro e w' ⟨rfl, rfl⟩
  simp only []
  go_wp2_with fail
  refine i2.mono ?_
  rintro e w' ⟨rfl, rfl⟩
  simp only []
  go_wp2
  go_ret
  exact ⟨rfl, World.grownBy_alloc _ _ _⟩

set_option maxHeartbeats 1000000 in
theorem szBig (n m c d : Nat) (a b : Option Addr) (half low next : Int) (w : World) (h : 1048576 < n + m) (hn : n ≤ 9223372036854775807) (hm : m ≤ 9223372036854775807) :
    Calls Tryd.prog 6 #[.agg #[.slice a n c, .int .i64 half, .int .i64 low, .int .i64 next, .slice b m d], .int .i64 1048576] w fun e w' => e = .returned (.int .i64 (-1)) ∧ w.grownBy w' none := by
  by_cases hb : 1048576 < n
  · have i1 : Calls Tryd.prog 17 #[.slice a n c, .int .i64 1048576] (w.alloc (.cells #[.slice a n c, .int .i64 half, .int .i64 low, .int .i64 next, .slice b m d] 25)) fun e w' => e = .returned (.int .i64 (-1)) ∧ w' = (w.alloc (.cells #[.slice a n c, .int .i64 half, .int .i64 low, .int .i64 next, .slice b m d] 25)) := by
      have h1 : ((1048576 : Int) - n < 0) := by omega
      go_enter Tryd.func17, Tryd.ntmps17
      go_wp2
      go_ret
      exact ⟨rfl, rfl⟩
    go_enter Tryd.func6, Tryd.ntmps6
    go_wp2_with fail
    refine i1.mono ?_
    rintro e w' ⟨rfl, rfl⟩
    simp only []
    go_wp2
    go_ret
    exact ⟨rfl, World.grownBy_alloc _ _ _⟩
  · have i1 : Calls Tryd.prog 17 #[.slice a n c, .int .i64 1048576] (w.alloc (.cells #[.slice a n c, .int .i64 half, .int .i64 low, .int .i64 next, .slice b m d] 25)) fun e w' => e = .returned (.int .i64 (1048576 - n)) ∧ w' = (w.alloc (.cells #[.slice a n c, .int .i64 half, .int .i64 low, .int .i64 next, .slice b m d] 25)) := by
      have h1 : ¬ ((1048576 : Int) - n < 0) := by omega
      go_enter Tryd.func17, Tryd.ntmps17
      go_wp2
      go_ret
      exact ⟨rfl, rfl⟩
    have i2 : Calls Tryd.prog 18 #[.slice b m d, .int .i64 (1048576 - n)] (w.alloc (.cells #[.slice a n c, .int .i64 half, .int .i64 low, .int .i64 next, .slice b m d] 25)) fun e w' => e = .returned (.int .i64 (-1)) ∧ w' = (w.alloc (.cells #[.slice a n c, .int .i64 half, .int .i64 low, .int .i64 next, .slice b m d] 25)) := by
      have h1 : ((1048576 : Int) - n - m < 0) := by omega
      go_enter Tryd.func18, Tryd.ntmps18
      go_wp2
      go_ret
      exact ⟨rfl, rfl⟩
    have h1 : ¬ ((1048576 : Int) - n < 0) := by omega
    go_enter Tryd.func6, Tryd.ntmps6
    go_wp2_with fail
    refine i1.mono ?_
    rintro e w' ⟨rfl, rfl⟩
    simp only []
    go_wp2_with fail
    refine i2.mono ?_
    rintro e w' ⟨rfl, rfl⟩
    simp only []
    go_wp2
    go_ret
    exact ⟨rfl, World.grownBy_alloc _ _ _⟩

end Go.Proofs.YtonmcndedbmbfabDoor.By
