/-
  Several texts in one (Mk, EEq, GQ). No statement is proved here.
-/
import Derived.Test.YtccnninmkfhejaaRows
import Derived.Test.YtccnninmkfhejaaBase
import Derived.WalkKit
import Derived.ProofKit
import Derived.WalkSpells
import Derived.RegionTactic
import Derived.Deep.QuietTactic
import Derived.BigQuiet
import Derived.Test.YtccnninmkfhejaaHMkAlso
import Derived.Test.YtccnninmkfhejaaEObAlso
import Derived.Test.YtccnninmkfhejaaHHelp
namespace Go.Proofs.Ytccnninmkfhejaa.By
open Go.RowKit
set_option linter.unusedVariables false

theorem info5 : (Try.prog.info? 5).map (fun i => (i.zero, i.size, i.bytes)) = some (some (.int .u8 0), 1, 1) := by kernel_rfl

/-- 'make([]byte, n)'. -/
theorem make_run (n : Nat) (hn : n ≤ 4194304) (w : World) : (Instr.makeSlice 22 (.int .i64 (n : Int)) (.int .i64 (n : Int))).run Try.prog w = .ok (.slice (some ⟨w.heap.size, 0, none⟩) n n) (w.alloc (.cells (madeCells #[.int .u8 0] n) 5)) := by
  obtain ⟨i0, hi, hz0, hz1, hz2⟩ := info_parts info5
  have h := run_make (P := Try.prog) (w := w) 22 5 i0 (.int .u8 0) Try.underlying22 hi hz0 .i64 .i64 (n : Int) (n : Int) (by omega) (by omega) (by rw [hz2]; omega) (by omega)
  rw [hz1] at h
  simpa [Value.cells] using h

theorem make_run0 (w : World) : (Instr.makeSlice 22 (.int .i64 0) (.int .i64 0)).run Try.prog w = .ok (.slice (some ⟨w.heap.size, 0, none⟩) 0 0) (w.alloc (.cells (madeCells #[.int .u8 0] 0) 5)) := make_run 0 (by omega) w
end Go.Proofs.Ytccnninmkfhejaa.By

namespace Go.Proofs.Ytccnninmkfhejaa.By
open Go.RowKit
set_option linter.unusedVariables false
set_option linter.unusedSimpArgs false

set_option maxHeartbeats 1000000 in
theorem eqBy0 (a a' : Option Addr) (n cap cap' : Nat) (zs : List Int) (w : World) (h : Reads w a n zs) (h' : Reads w a' n zs) (hn : n ≤ 4194304) :
    Calls Try.prog 16 #[.slice a n cap, .slice a' n cap'] w fun e w' => e = .returned (.bool true) ∧ ∃ m, w' = w.drewN m := by
  obtain ⟨hl, h⟩ := h
  obtain ⟨-, h'⟩ := h'
  by_cases h0 : n = 0
  · subst h0
    clear h h'
    go_enter Try.func16, Try.ntmps16
    go_wp2
    refine wp_loop_rounds 1 ?_
    rw [rounds_succ]
    go_wp2
    go_ret
    exact ⟨rfl, 0, rfl⟩
  · rcases h with h | ⟨b, off, rfl, hc⟩
    · exact absurd h h0
    rcases h' with h' | ⟨b', off', rfl, hc'⟩
    · exact absurd h' h0
    go_enter Try.func16, Try.ntmps16
    go_wp2
    go_loopw [5] (fun i wr => ∃ k m : Nat, k ≤ n ∧ i = .int .i64 k ∧ wr = w.drewN m) (fun i _ => n - (intOf i).toNat)
    case atStart => exact ⟨0, 0, Nat.zero_le _, rfl, rfl⟩
    case round =>
      obtain ⟨k, m, hk, rfl, rfl⟩ := hrel
      by_cases hlt : k < n
      · have c1 := hc k hlt
        have c2 := hc' k hlt
        have hki : (k : Int) < (n : Int) := by omega
        go_wp2
        go_quiet (fail)
        go_wp2
        go_roundw
        case rel => exact ⟨k + 1, _, by omega, by go_num, rfl⟩
        case measure => simp [intOf]; omega
      · go_wp2
        go_ret
        exact ⟨rfl, m, rfl⟩

theorem eqBy (a a' : Option Addr) (n cap cap' : Nat) (zs : List Int) (w : World) (h : Reads w a n zs) (h' : Reads w a' n zs) (hn : n ≤ 4194304) :
    Calls Try.prog 16 #[.slice a n cap, .slice a' n cap'] w fun e u => e = .returned (.bool true) ∧ w.grownBy u none := by
  refine (eqBy0 a a' n cap cap' zs w h h' hn).mono ?_
  rintro e u ⟨he, hm⟩
  exact ⟨he, quiet hm⟩
end Go.Proofs.Ytccnninmkfhejaa.By

namespace Go.Proofs.Ytccnninmkfhejaa.By
open Go.RowKit
set_option linter.unusedVariables false
set_option linter.unusedSimpArgs false

set_option maxHeartbeats 1000000 in
theorem eqIn0 (a a' : Option Addr) (n cap cap' : Nat) (zs : List Int) (w : World) (h : ReadsI w a n zs) (h' : ReadsI w a' n zs) (hn : n ≤ 4194304) :
    Calls Try.prog 41 #[.slice a n cap, .slice a' n cap'] w fun e w' => e = .returned (.bool true) ∧ ∃ m, w' = w.drewN m := by
  obtain ⟨hl, h⟩ := h
  obtain ⟨-, h'⟩ := h'
  by_cases h0 : n = 0
  · subst h0
    clear h h'
    go_enter Try.func41, Try.ntmps41
    go_wp2
    refine wp_loop_rounds 1 ?_
    rw [rounds_succ]
    go_wp2
    go_ret
    exact ⟨rfl, 0, rfl⟩
  · rcases h with h | ⟨b, off, rfl, hc⟩
    · exact absurd h h0
    rcases h' with h' | ⟨b', off', rfl, hc'⟩
    · exact absurd h' h0
    go_enter Try.func41, Try.ntmps41
    go_wp2
    go_loopw [5] (fun i wr => ∃ k m : Nat, k ≤ n ∧ i = .int .i64 k ∧ wr = w.drewN m) (fun i _ => n - (intOf i).toNat)
    case atStart => exact ⟨0, 0, Nat.zero_le _, rfl, rfl⟩
    case round =>
      obtain ⟨k, m, hk, rfl, rfl⟩ := hrel
      by_cases hlt : k < n
      · have c1 := hc k hlt
        have c2 := hc' k hlt
        have hki : (k : Int) < (n : Int) := by omega
        go_wp2
        go_quiet (fail)
        go_wp2
        go_roundw
        case rel => exact ⟨k + 1, _, by omega, by go_num, rfl⟩
        case measure => simp [intOf]; omega
      · go_wp2
        go_ret
        exact ⟨rfl, m, rfl⟩

theorem eqIn (a a' : Option Addr) (n cap cap' : Nat) (zs : List Int) (w : World) (h : RdI w a n zs) (h' : RdI w a' n zs) (hn : n ≤ 4194304) :
    Calls Try.prog 41 #[.slice a n cap, .slice a' n cap'] w fun e u => e = .returned (.bool true) ∧ w.grownBy u none := by
  refine (eqIn0 a a' n cap cap' zs w h.1 h'.1 hn).mono ?_
  rintro e u ⟨he, hm⟩
  exact ⟨he, quiet hm⟩
end Go.Proofs.Ytccnninmkfhejaa.By
