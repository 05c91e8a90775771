/-
  Contracts of the law's own helpers (toByteS, eqByteS, markByteS, heldByteS) for this seat's proofs. No statement is proved here.
-/
import Derived.Test.YtpmndefmibnaeaaDoorMk
namespace Go.Proofs.YtpmndefmibnaeaaDoor.By
open Go.RowKit
set_option linter.unusedVariables false

set_option maxHeartbeats 1000000 in
theorem toB0 (a : Option Addr) (n cap : Nat) (zs : List Int) (w : World) (h : Reads w a n zs) (hn : n ≤ 1048576) :
    Calls Tryd.prog 23 #[.slice a n cap] w fun e w' => e = .returned (.slice (some ⟨w.heap.size, 0, none⟩) n n) ∧ w.grownBy w' none ∧ w'.heap.size = w.heap.size + 1 ∧ Row w' w.heap.size n zs := by
  obtain ⟨hl, h⟩ := h
  have hmk := make_run n (by omega)
  have hr0 := made_row w n
  rcases h with h0 | ⟨b, off, rfl, hc⟩
  · subst h0
    obtain rfl : zs = [] := List.eq_nil_of_length_eq_zero hl
    clear hmk
    have hmk := make_run0
    go_enter Tryd.func23, Tryd.ntmps23
    go_wp2
    refine wp_loop_rounds 1 ?_
    rw [rounds_succ]
    go_wp2
    go_ret
    exact ⟨rfl, World.grownBy_alloc _ _ _, by simp, hr0⟩
  · go_enter Tryd.func23, Tryd.ntmps23
    go_wp2
    go_loopw [4] (fun i wr => ∃ k : Nat, k ≤ n ∧ i = .int .i64 k ∧ w.grownBy wr none ∧ wr.heap.size = w.heap.size + 1 ∧ Row wr w.heap.size n (zs.take k ++ List.replicate (n - k) 0)) (fun i _ => n - (intOf i).toNat)
    case atStart => exact ⟨0, Nat.zero_le _, rfl, World.grownBy_alloc _ _ _, by simp, by simpa using hr0⟩
    case round =>
      obtain ⟨k, hk, rfl, hg, hs, hrow⟩ := hrel
      have hlt0 : k < n → w.cell? ⟨b, off + k, none⟩ = some (.int .u8 (zs.getD k 0)) := hc k
      by_cases hlt : k < n
      · have hcb := hg.cell (hc k hlt) (by simp)
        have hlen : (zs.take k ++ List.replicate (n - k) 0).length = n := by simp; omega
        have hco := hrow.cell k (by omega)
        have hfr := hrow.free k
        have hst := hrow.store k (zs.getD k 0)
        have hrow' : Row (wr.setCell ⟨w.heap.size, k, none⟩ (.int .u8 (zs.getD k 0))) w.heap.size n (zs.take (k + 1) ++ List.replicate (n - (k + 1)) 0) := by
          have e : (zs.take k ++ List.replicate (n - k) 0).set k (zs.getD k 0) = zs.take (k + 1) ++ List.replicate (n - (k + 1)) 0 := set_step zs n k hl hlt
          rw [← e]; exact hst
        have HR : Hid (Row (wr.setCell ⟨w.heap.size, k, none⟩ (.int .u8 (zs.getD k 0))) w.heap.size n (zs.take (k + 1) ++ List.replicate (n - (k + 1)) 0)) := hrow'
        have HG : Hid (w.grownBy (wr.setCell ⟨w.heap.size, k, none⟩ (.int .u8 (zs.getD k 0))) none) := grown_own hg _ (Nat.le_refl _) _ _
        clear hst hrow' hmk hr0 hrow hlen
        have hkz : k < zs.length := by omega
        go_wp2
        go_roundw
        case rel => exact ⟨k + 1, by omega, by go_num, by simpa [hkz] using HG.out, by simpa [World.setCell] using hs, by simpa [hkz] using HR.out⟩
        case measure => simp [intOf]; omega
      · obtain rfl : k = n := by omega
        clear hmk hr0
        go_wp2
        go_ret
        exact ⟨rfl, hg, hs, by simpa [List.take_of_length_le (Nat.le_of_eq hl)] using hrow⟩

theorem toB (a : Option Addr) (n cap : Nat) (zs : List Int) (w : World) (h : Reads w a n zs) (hn : n ≤ 1048576) :
    Calls Tryd.prog 23 #[.slice a n cap] w fun e w' => ∃ g, e = .returned (.slice (some ⟨g, 0, none⟩) n n) ∧ w.grownBy w' none ∧ w.heap.size ≤ g ∧ Row w' g n zs :=
  (toB0 a n cap zs w h hn).mono fun e w' ⟨he, hg, _, hr⟩ => ⟨_, he, hg, Nat.le_refl _, hr⟩

set_option maxHeartbeats 1000000 in
theorem eqT (a a' : Option Addr) (n cap cap' : Nat) (zs : List Int) (w : World) (h : Reads w a n zs) (h' : Reads w a' n zs) (hn : n ≤ 4194304) :
    Calls Tryd.prog 11 #[.slice a n cap, .slice a' n cap'] w fun e w' => e = .returned (.bool true) ∧ ∃ m, w' = w.drewN m := by
  obtain ⟨hl, h⟩ := h
  obtain ⟨-, h'⟩ := h'
  by_cases h0 : n = 0
  · subst h0
    clear h h'
    go_enter Tryd.func11, Tryd.ntmps11
    go_wp2
    refine wp_loop_rounds 1 ?_
    rw [rounds_succ]
    go_wp2
    go_ret
    exact ⟨rfl, 0, rfl⟩
  · rcases h with h | ⟨b, off, rfl, hc⟩
    · exact absurd h h0
    rcases h' with h' | ⟨b', off', rfl, hc'⟩
    · exact absurd h' h0
    go_enter Tryd.func11, Tryd.ntmps11
    go_wp2
    go_loopw [5] (fun i wr => ∃ k m : Nat, k ≤ n ∧ i = .int .i64 k ∧ wr = w.drewN m) (fun i _ => n - (intOf i).toNat)
    case atStart => exact ⟨0, 0, Nat.zero_le _, rfl, rfl⟩
    case round =>
      obtain ⟨k, m, hk, rfl, rfl⟩ := hrel
      by_cases hlt : k < n
      · have c1 := hc k hlt
        have c2 := hc' k hlt
        have hki : (k : Int) < (n : Int) := by omega
        go_wp2
        go_quiet (fail)
        go_wp2
        go_roundw
        case rel => exact ⟨k + 1, _, by omega, by go_num, rfl⟩
        case measure => simp [intOf]; omega
      · go_wp2
        go_ret
        exact ⟨rfl, m, rfl⟩

set_option maxHeartbeats 1000000 in
theorem markT (g n cap : Nat) (zs : List Int) (k0 : Int) (w : World) (h : Row w g cap zs) (hl : zs.length = n) (hn : n ≤ 4194304) (hk0 : 0 ≤ k0) (hk1 : k0 ≤ 4194304) :
    Calls Tryd.prog 16 #[.slice (some ⟨g, 0, none⟩) n cap, .int .i64 k0] w fun e w' => e = .returned (.int .i64 (k0 + n)) ∧ w.grownBy w' (some g) ∧ w'.heap.size = w.heap.size ∧ Row w' g cap (marks k0 n) := by
  go_enter Tryd.func16, Tryd.ntmps16
  go_wp2
  go_loopw [1, 5] (fun v i wr => ∃ k : Nat, k ≤ n ∧ i = .int .i64 k ∧ v = .int .i64 (k0 + k) ∧ w.grownBy wr (some g) ∧ wr.heap.size = w.heap.size ∧ Row wr g cap (half zs k0 k)) (fun _ i _ => n - (intOf i).toNat)
  case atStart => exact ⟨0, Nat.zero_le _, rfl, by simp, World.grownBy.refl _ _, rfl, by rw [half_zero]; exact h⟩
  case round =>
    obtain ⟨k, hk, rfl, rfl, hg, hs, hrow⟩ := hrel
    by_cases hlt : k < n
    · have hco := hrow.cell k (by rw [half_len _ _ _ (by omega)]; omega)
      have hfr := hrow.free k
      have hst := hrow.store k ((k0 + k) % 256)
      rw [half_step _ _ _ (by omega)] at hst
      have HR : Hid (Row (wr.setCell ⟨g, k, none⟩ (.int .u8 ((k0 + k) % 256))) g cap (half zs k0 (k + 1))) := hst
      have HG : Hid (w.grownBy (wr.setCell ⟨g, k, none⟩ (.int .u8 ((k0 + k) % 256))) (some g)) := grown_trans hg (grown_setCell _ _ _ _)
      obtain ⟨old, hold⟩ : ∃ x, wr.cell? ⟨g, k, none⟩ = some (.int .u8 x) := ⟨_, hco⟩
      clear hst hrow hco h
      go_wp2
      go_roundw
      case rel => exact ⟨k + 1, by omega, by go_num, by go_num, HG.out, by simpa [World.setCell] using hs, HR.out⟩
      case measure => simp [intOf]; omega
    · obtain rfl : k = n := by omega
      go_wp2
      go_ret
      refine ⟨rfl, hg, hs, ?_⟩
      rw [← hl] at hrow ⊢
      rw [half_all] at hrow
      exact hrow

set_option maxHeartbeats 1000000 in
theorem heldT (a : Option Addr) (n cap : Nat) (k0 : Int) (w : World) (h : Reads w a n (marks k0 n)) (hn : n ≤ 4194304) (hk0 : 0 ≤ k0) (hk1 : k0 ≤ 4194304) :
    Calls Tryd.prog 17 #[.slice a n cap, .int .i64 k0] w fun e w' => e = .returned (.int .i64 (k0 + n)) ∧ ∃ m, w' = w.drewN m := by
  obtain ⟨hl, h⟩ := h
  by_cases h0 : n = 0
  · subst h0
    clear h
    go_enter Tryd.func17, Tryd.ntmps17
    go_wp2
    refine wp_loop_rounds 1 ?_
    rw [rounds_succ]
    go_wp2
    go_ret
    exact ⟨by simp, 0, rfl⟩
  · rcases h with h | ⟨b, off, rfl, hc⟩
    · exact absurd h h0
    go_enter Tryd.func17, Tryd.ntmps17
    go_wp2
    go_loopw [1, 5] (fun v i wr => ∃ k m : Nat, k ≤ n ∧ i = .int .i64 k ∧ v = .int .i64 (k0 + k) ∧ wr = w.drewN m) (fun _ i _ => n - (intOf i).toNat)
    case atStart => exact ⟨0, 0, Nat.zero_le _, rfl, by simp, rfl⟩
    case round =>
      obtain ⟨k, m, hk, rfl, rfl, rfl⟩ := hrel
      by_cases hlt : k < n
      · have c1 : w.cell? ⟨b, off + k, none⟩ = some (.int .u8 ((k0 + (k : Int)) % 256)) := by
          have := hc k hlt
          rw [List.getD_eq_getElem?_getD, marks_get k0 n k hlt] at this; exact this
        clear hc hl
        go_wp2
        go_roundw
        case rel => exact ⟨k + 1, _, by omega, by go_num, by go_num, rfl⟩
        case measure => simp [intOf]; omega
      · obtain rfl : k = n := by omega
        go_wp2
        go_ret
        exact ⟨rfl, m, rfl⟩
end Go.Proofs.YtpmndefmibnaeaaDoor.By
