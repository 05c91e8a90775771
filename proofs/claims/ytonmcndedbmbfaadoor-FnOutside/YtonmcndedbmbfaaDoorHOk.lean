/-
  Contracts of the questions on heaps (HeapOk, HeapRoom and what they ask), for this seat's proofs. No statement is proved here.
-/
import Derived.Test.YtonmcndedbmbfaaDoorHHeap
namespace Go.Proofs.YtonmcndedbmbfaaDoor.By
open Go.RowKit
set_option linter.unusedVariables false

set_option maxHeartbeats 400000 in
theorem isLowT (p : Nat) (half x : Int) (w : World) (h1 : w.cell? ⟨p, 1, none⟩ = some (.int .i64 half)) :
    Calls Tryd.prog 37 #[.pointer (some ⟨p, 0, none⟩), .int .i64 x] w fun e w' => e = .returned (.bool (decide (x = 0) || decide (x = half))) ∧ w' = w := by
  by_cases h0 : x = 0
  · subst h0
    go_enter Tryd.func37, Tryd.ntmps37
    go_wp2
    go_ret
    exact ⟨by simp, rfl⟩
  · by_cases h2 : x = half
    · subst h2
      go_enter Tryd.func37, Tryd.ntmps37
      go_wp2
      go_ret
      exact ⟨by simp, rfl⟩
    · go_enter Tryd.func37, Tryd.ntmps37
      go_wp2
      go_ret
      exact ⟨by simp [h0, h2], rfl⟩

set_option maxHeartbeats 4000000 in
theorem okT (p n m c d : Nat) (a b : Option Addr) (half low next : Int) (w : World) (c0 : w.cell? ⟨p, 0, none⟩ = some (.slice a n c)) (c1 : w.cell? ⟨p, 1, none⟩ = some (.int .i64 half)) (c2 : w.cell? ⟨p, 2, none⟩ = some (.int .i64 low)) (c3 : w.cell? ⟨p, 3, none⟩ = some (.int .i64 next)) (c4 : w.cell? ⟨p, 4, none⟩ = some (.slice b m d)) :
    Calls Tryd.prog 21 #[.pointer (some ⟨p, 0, none⟩)] w fun e w' => e = .returned (.bool (okB half n low next m)) ∧ ∃ q, w' = w.drewN q := by
  go_enter Tryd.func21, Tryd.ntmps21
  go_wp2
  simp only [List.append_eq, List.cons_append, List.nil_append]
  refine wp_region_quiet_lit (by kernel_rfl) (by kernel_rfl) ?_
  by_cases h1 : 16 ≤ half
  rotate_left
  · have E : Hid (okB half n low next m = false) := by
      show okB half n low next m = false
      simp [okB, h1]
    have k1 : decide (16 ≤ half) = false := by simp [h1]
    clear h1
    repeat (go_big_quiet_step (fail))
    refine wpQuiet_nil ?_
    intro _ hw'
    obtain ⟨nq, hw''⟩ := hw'
    subst hw''
    go_wp2
    go_ret
    exact ⟨by rw [E.out]; rfl, _, rfl⟩
  by_cases h2 : half ≤ 4096
  rotate_left
  · have E : Hid (okB half n low next m = false) := by
      show okB half n low next m = false
      simp [okB, h2]
    have k2 : decide (half ≤ 4096) = false := by simp [h2]
    clear h2
    repeat (go_big_quiet_step (fail))
    refine wpQuiet_nil ?_
    intro _ hw'
    obtain ⟨nq, hw''⟩ := hw'
    subst hw''
    go_wp2
    go_ret
    exact ⟨by rw [E.out]; rfl, _, rfl⟩
  have hw : IntKind.i64.wrap (2 * half) = 2 * half := IntWalk.i64_in _ (by omega)
  by_cases h3 : (n : Int) = 2 * half
  rotate_left
  · have E : Hid (okB half n low next m = false) := by
      show okB half n low next m = false
      simp [okB, h3]
    have k3 : ((n : Int) == 2 * half) = false := by simp [h3]
    clear h3
    repeat (go_big_quiet_step (fail))
    refine wpQuiet_nil ?_
    intro _ hw'
    obtain ⟨nq, hw''⟩ := hw'
    subst hw''
    go_wp2
    go_ret
    exact ⟨by rw [E.out]; rfl, _, rfl⟩
  by_cases h4 : m ≤ 4000
  rotate_left
  · have E : Hid (okB half n low next m = false) := by
      show okB half n low next m = false
      simp [okB, h4]
    have k4 : decide ((m : Int) ≤ 4000) = false := by simp; omega
    clear h4
    repeat (go_big_quiet_step (fail))
    refine wpQuiet_nil ?_
    intro _ hw'
    obtain ⟨nq, hw''⟩ := hw'
    subst hw''
    go_wp2
    go_ret
    exact ⟨by rw [E.out]; rfl, _, rfl⟩
  have h4' : (m : Int) ≤ 4000 := by omega
  by_cases h5 : low = 0 ∨ low = half
  rotate_left
  · have E : Hid (okB half n low next m = false) := by
      show okB half n low next m = false
      simp only [not_or] at h5; simp [okB, h5.1, h5.2]
    have hI : (decide (low = 0) || decide (low = half)) = false := by simp only [not_or] at h5; simp [h5.1, h5.2]
    have HI := isLowT p half low
    simp only [hI] at HI
    clear hI h5
    repeat (go_big_quiet_step (first | (go_at_call 37; refine Calls.quiet_of_same (HI _ ?_); simpa using c1)))
    refine wpQuiet_nil ?_
    intro _ hw'
    obtain ⟨nq, hw''⟩ := hw'
    subst hw''
    go_wp2
    go_ret
    exact ⟨by rw [E.out]; rfl, _, rfl⟩
  have hI : (decide (low = 0) || decide (low = half)) = true := by simpa using h5
  have HI := isLowT p half low
  have EE : okB half n low next m = (decide (low ≤ next) && decide (next ≤ low + half)) := by
    simp only [okB, hI]; simp [h1, h2, h3, h4]
  have EH : Hid (okB half n low next m = (decide (low ≤ next) && decide (next ≤ low + half))) := EE
  clear EE
  simp only [hI] at HI
  have hlo : 0 ≤ low ∧ low ≤ 4096 := by omega
  obtain ⟨l0, l1⟩ := hlo
  clear hI h5 h4
  have hw2 : IntKind.i64.wrap (low + half) = low + half := IntWalk.i64_in _ (by omega)
  by_cases h6 : low ≤ next
  rotate_left
  · have E : Hid (okB half n low next m = false) := by
      show okB half n low next m = false
      rw [EH.out]; simp [h6]
    have k6 : decide (low ≤ next) = false := by simp [h6]
    clear h6
    repeat (go_big_quiet_step (first | (go_at_call 37; refine Calls.quiet_of_same (HI _ ?_); simpa using c1)))
    refine wpQuiet_nil ?_
    intro _ hw'
    obtain ⟨nq, hw''⟩ := hw'
    subst hw''
    go_wp2
    go_ret
    exact ⟨by rw [E.out]; rfl, _, rfl⟩
  by_cases h7 : next ≤ low + half
  · have E : Hid (okB half n low next m = true) := by
      show okB half n low next m = true
      rw [EH.out]; simp [h6, h7]
    repeat (go_big_quiet_step (first | (go_at_call 37; refine Calls.quiet_of_same (HI _ ?_); simpa using c1)))
    refine wpQuiet_nil ?_
    intro _ hw'
    obtain ⟨nq, hw''⟩ := hw'
    subst hw''
    go_wp2
    go_ret
    exact ⟨by rw [E.out]; rfl, _, rfl⟩
  · have E : Hid (okB half n low next m = false) := by
      show okB half n low next m = false
      rw [EH.out]; simp [h7]
    have k7 : decide (next ≤ low + half) = false := by simp [h7]
    clear h7
    repeat (go_big_quiet_step (first | (go_at_call 37; refine Calls.quiet_of_same (HI _ ?_); simpa using c1)))
    refine wpQuiet_nil ?_
    intro _ hw'
    obtain ⟨nq, hw''⟩ := hw'
    subst hw''
    go_wp2
    go_ret
    exact ⟨by rw [E.out]; rfl, _, rfl⟩

set_option maxHeartbeats 1000000 in
theorem implOk (n m c d : Nat) (a b : Option Addr) (half low next : Int) (w : World) :
    Calls Tryd.prog 11 #[.agg #[.slice a n c, .int .i64 half, .int .i64 low, .int .i64 next, .slice b m d]] w fun e w' => e = .returned (.bool (okB half n low next m)) ∧ w.grownBy w' none := by
  go_enter Tryd.func11, Tryd.ntmps11
  go_wp2_with fail
  refine (okT w.heap.size n m c d a b half low next _ (by simp) (by simp) (by simp) (by simp) (by simp)).mono ?_
  rintro e w' ⟨rfl, q, rfl⟩
  simp only []
  go_wp2
  go_ret
  exact ⟨rfl, grown_qN (World.grownBy_alloc _ _ _) q⟩
end Go.Proofs.YtonmcndedbmbfaaDoor.By
