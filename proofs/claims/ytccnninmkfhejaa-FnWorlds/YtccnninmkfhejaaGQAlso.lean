/-
  Several texts in one (HHelp, Mk, EEq, GQ). No statement is proved here.
-/
import Derived.Test.YtccnninmkfhejaaHMkAlso
import Derived.Test.YtccnninmkfhejaaRows
import Derived.Test.YtccnninmkfhejaaBase
import Derived.WalkKit
import Derived.ProofKit
import Derived.WalkSpells
import Derived.RegionTactic
import Derived.Deep.QuietTactic
import Derived.BigQuiet
namespace Go.Proofs.Ytccnninmkfhejaa.By
open Go.RowKit
set_option linter.unusedVariables false

set_option maxHeartbeats 1000000 in
theorem toI0 (a : Option Addr) (n cap : Nat) (zs : List Int) (w : World) (h : ReadsI w a n zs) (hn : n ≤ 1048576) :
    Calls Try.prog 38 #[.slice a n cap] w fun e w' => e = .returned (.slice (some ⟨w.heap.size, 0, none⟩) n n) ∧ w.grownBy w' none ∧ w'.heap.size = w.heap.size + 1 ∧ RowI w' 3 w.heap.size n zs := by
  obtain ⟨hl, h⟩ := h
  have hmk := makeI n (by omega)
  have hr0 := madeI_row w n
  rcases h with h0 | ⟨b, off, rfl, hc⟩
  · subst h0
    obtain rfl : zs = [] := List.eq_nil_of_length_eq_zero hl
    clear hmk
    have hmk := makeI0
    go_enter Try.func38, Try.ntmps38
    go_wp2
    refine wp_loop_rounds 1 ?_
    rw [rounds_succ]
    go_wp2
    go_ret
    exact ⟨rfl, World.grownBy_alloc _ _ _, by simp, hr0⟩
  · go_enter Try.func38, Try.ntmps38
    go_wp2
    go_loopw [4] (fun i wr => ∃ k : Nat, k ≤ n ∧ i = .int .i64 k ∧ w.grownBy wr none ∧ wr.heap.size = w.heap.size + 1 ∧ RowI wr 3 w.heap.size n (zs.take k ++ List.replicate (n - k) 0)) (fun i _ => n - (intOf i).toNat)
    case atStart => exact ⟨0, Nat.zero_le _, rfl, World.grownBy_alloc _ _ _, by simp, by simpa using hr0⟩
    case round =>
      obtain ⟨k, hk, rfl, hg, hs, hrow⟩ := hrel
      by_cases hlt : k < n
      · have hcb := hg.cell (hc k hlt) (by simp)
        have hlen : (zs.take k ++ List.replicate (n - k) 0).length = n := by simp; omega
        have hco := hrow.cell k (by omega)
        have hfr := hrow.free k
        have hst := hrow.store k (zs.getD k 0)
        have hrow' : RowI (wr.setCell ⟨w.heap.size, k, none⟩ (.int .i64 (zs.getD k 0))) 3 w.heap.size n (zs.take (k + 1) ++ List.replicate (n - (k + 1)) 0) := by
          have e : (zs.take k ++ List.replicate (n - k) 0).set k (zs.getD k 0) = zs.take (k + 1) ++ List.replicate (n - (k + 1)) 0 := set_step zs n k hl hlt
          rw [← e]; exact hst
        have HR : Hid (RowI (wr.setCell ⟨w.heap.size, k, none⟩ (.int .i64 (zs.getD k 0))) 3 w.heap.size n (zs.take (k + 1) ++ List.replicate (n - (k + 1)) 0)) := hrow'
        have HG : Hid (w.grownBy (wr.setCell ⟨w.heap.size, k, none⟩ (.int .i64 (zs.getD k 0))) none) := grown_own hg _ (Nat.le_refl _) _ _
        clear hst hrow' hmk hr0 hrow hlen
        have hkz : k < zs.length := by omega
        go_wp2
        go_roundw
        case rel => exact ⟨k + 1, by omega, by go_num, by simpa [hkz] using HG.out, by simpa [World.setCell] using hs, by simpa [hkz] using HR.out⟩
        case measure => simp [intOf]; omega
      · obtain rfl : k = n := by omega
        clear hmk hr0
        go_wp2
        go_ret
        exact ⟨rfl, hg, hs, by simpa [List.take_of_length_le (Nat.le_of_eq hl)] using hrow⟩

theorem toI (a : Option Addr) (n cap : Nat) (zs : List Int) (w : World) (h : ReadsI w a n zs) (hn : n ≤ 1048576) :
    Calls Try.prog 38 #[.slice a n cap] w fun e w' => ∃ g, e = .returned (.slice (some ⟨g, 0, none⟩) n n) ∧ w.grownBy w' none ∧ w.heap.size ≤ g ∧ RowI w' 3 g n zs :=
  (toI0 a n cap zs w h hn).mono fun e w' ⟨he, hg, _, hr⟩ => ⟨_, he, hg, Nat.le_refl _, hr⟩

set_option maxHeartbeats 1000000 in
theorem eqI (a a' : Option Addr) (n cap cap' : Nat) (zs : List Int) (w : World) (h : ReadsI w a n zs) (h' : ReadsI w a' n zs) (hn : n ≤ 4194304) :
    Calls Try.prog 41 #[.slice a n cap, .slice a' n cap'] w fun e w' => e = .returned (.bool true) ∧ ∃ m, w' = w.drewN m := by
  obtain ⟨hl, h⟩ := h
  obtain ⟨-, h'⟩ := h'
  by_cases h0 : n = 0
  · subst h0
    clear h h'
    go_enter Try.func41, Try.ntmps41
    go_wp2
    refine wp_loop_rounds 1 ?_
    rw [rounds_succ]
    go_wp2
    go_ret
    exact ⟨rfl, 0, rfl⟩
  · rcases h with h | ⟨b, off, rfl, hc⟩
    · exact absurd h h0
    rcases h' with h' | ⟨b', off', rfl, hc'⟩
    · exact absurd h' h0
    go_enter Try.func41, Try.ntmps41
    go_wp2
    go_loopw [5] (fun i wr => ∃ k m : Nat, k ≤ n ∧ i = .int .i64 k ∧ wr = w.drewN m) (fun i _ => n - (intOf i).toNat)
    case atStart => exact ⟨0, 0, Nat.zero_le _, rfl, rfl⟩
    case round =>
      obtain ⟨k, m, hk, rfl, rfl⟩ := hrel
      by_cases hlt : k < n
      · have c1 := hc k hlt
        have c2 := hc' k hlt
        have hki : (k : Int) < (n : Int) := by omega
        go_wp2
        go_quiet (fail)
        go_wp2
        go_roundw
        case rel => exact ⟨k + 1, _, by omega, by go_num, rfl⟩
        case measure => simp [intOf]; omega
      · go_wp2
        go_ret
        exact ⟨rfl, m, rfl⟩

set_option maxHeartbeats 1000000 in
theorem markI (g n cap : Nat) (a : Option Addr) (zs : List Int) (k0 : Int) (w : World) (h : OwnI w 3 g a n zs) (hn : n ≤ 4194304) (hk0 : 0 ≤ k0) (hk1 : k0 ≤ 16777216) :
    Calls Try.prog 44 #[.slice a n cap, .int .i64 k0] w fun e w' => e = .returned (.int .i64 (k0 + n)) ∧ w.grownBy w' (tgt n g) ∧ OwnI w' 3 g a n (marksI k0 n) := by
  obtain ⟨hl, h⟩ := h
  by_cases h0 : n = 0
  · subst h0
    clear h
    go_enter Try.func44, Try.ntmps44
    go_wp2
    refine wp_loop_rounds 1 ?_
    rw [rounds_succ]
    go_wp2
    go_ret
    exact ⟨by simp, World.grownBy.refl _ _, OwnI.empty _ _ _ _⟩
  rcases h with h | ⟨off, rfl, h⟩
  · exact absurd h h0
  have et : tgt n g = some g := if_neg h0
  rw [et]
  clear et
  go_enter Try.func44, Try.ntmps44
  go_wp2
  go_loopw [1, 5] (fun v i wr => ∃ k : Nat, k ≤ n ∧ i = .int .i64 k ∧ v = .int .i64 (k0 + k) ∧ w.grownBy wr (some g) ∧ RowAt wr 3 g off (halfI zs k0 k)) (fun _ i _ => n - (intOf i).toNat)
  case atStart => exact ⟨0, Nat.zero_le _, rfl, by simp, World.grownBy.refl _ _, by rw [halfI_zero]; exact h⟩
  case round =>
    obtain ⟨k, hk, rfl, rfl, hg, hrow⟩ := hrel
    by_cases hlt : k < n
    · have hco := hrow.cell k (by rw [halfI_len _ _ _ (by omega)]; omega)
      have hfr := hrow.free (off + k)
      have hst := hrow.store k (k0 + k)
      rw [halfI_step _ _ _ (by omega)] at hst
      have HR : Hid (RowAt (wr.setCell ⟨g, off + k, none⟩ (.int .i64 (k0 + k))) 3 g off (halfI zs k0 (k + 1))) := hst
      have HG : Hid (w.grownBy (wr.setCell ⟨g, off + k, none⟩ (.int .i64 (k0 + k))) (some g)) := grown_trans hg (grown_setCell _ _ _ _)
      obtain ⟨old, hold⟩ : ∃ x, wr.cell? ⟨g, off + k, none⟩ = some (.int .i64 x) := ⟨_, hco⟩
      clear hst hrow hco h
      go_wp2
      go_roundw
      case rel => exact ⟨k + 1, by omega, by go_num, by go_num, HG.out, HR.out⟩
      case measure => simp [intOf]; omega
    · obtain rfl : k = n := by omega
      go_wp2
      go_ret
      refine ⟨rfl, hg, marksI_len _ _, .inr ⟨off, rfl, ?_⟩⟩
      rw [← hl] at hrow ⊢
      rw [halfI_all] at hrow
      exact hrow

set_option maxHeartbeats 1000000 in
theorem heldI (a : Option Addr) (n cap : Nat) (k0 : Int) (w : World) (h : ReadsI w a n (marksI k0 n)) (hn : n ≤ 4194304) (hk0 : 0 ≤ k0) (hk1 : k0 ≤ 16777216) :
    Calls Try.prog 47 #[.slice a n cap, .int .i64 k0] w fun e w' => e = .returned (.int .i64 (k0 + n)) ∧ ∃ m, w' = w.drewN m := by
  obtain ⟨hl, h⟩ := h
  by_cases h0 : n = 0
  · subst h0
    clear h
    go_enter Try.func47, Try.ntmps47
    go_wp2
    refine wp_loop_rounds 1 ?_
    rw [rounds_succ]
    go_wp2
    go_ret
    exact ⟨by simp, 0, rfl⟩
  · rcases h with h | ⟨b, off, rfl, hc⟩
    · exact absurd h h0
    go_enter Try.func47, Try.ntmps47
    go_wp2
    go_loopw [1, 5] (fun v i wr => ∃ k m : Nat, k ≤ n ∧ i = .int .i64 k ∧ v = .int .i64 (k0 + k) ∧ wr = w.drewN m) (fun _ i _ => n - (intOf i).toNat)
    case atStart => exact ⟨0, 0, Nat.zero_le _, rfl, by simp, rfl⟩
    case round =>
      obtain ⟨k, m, hk, rfl, rfl, rfl⟩ := hrel
      by_cases hlt : k < n
      · have c1 : w.cell? ⟨b, off + k, none⟩ = some (.int .i64 (k0 + (k : Int))) := by
          have := hc k hlt
          rw [marksI_get k0 n k hlt] at this; exact this
        clear hc hl
        go_wp2
        go_roundw
        case rel => exact ⟨k + 1, _, by omega, by go_num, by go_num, rfl⟩
        case measure => simp [intOf]; omega
      · obtain rfl : k = n := by omega
        go_wp2
        go_ret
        exact ⟨rfl, m, rfl⟩
end Go.Proofs.Ytccnninmkfhejaa.By

namespace Go.Proofs.Ytccnninmkfhejaa.By
open Go.RowKit
set_option linter.unusedVariables false

theorem info5 : (Try.prog.info? 5).map (fun i => (i.zero, i.size, i.bytes)) = some (some (.int .u8 0), 1, 1) := by kernel_rfl

/-- 'make([]byte, n)'. -/
theorem make_run (n : Nat) (hn : n ≤ 4194304) (w : World) : (Instr.makeSlice 22 (.int .i64 (n : Int)) (.int .i64 (n : Int))).run Try.prog w = .ok (.slice (some ⟨w.heap.size, 0, none⟩) n n) (w.alloc (.cells (madeCells #[.int .u8 0] n) 5)) := by
  obtain ⟨i0, hi, hz0, hz1, hz2⟩ := info_parts info5
  have h := run_make (P := Try.prog) (w := w) 22 5 i0 (.int .u8 0) Try.underlying22 hi hz0 .i64 .i64 (n : Int) (n : Int) (by omega) (by omega) (by rw [hz2]; omega) (by omega)
  rw [hz1] at h
  simpa [Value.cells] using h

theorem make_run0 (w : World) : (Instr.makeSlice 22 (.int .i64 0) (.int .i64 0)).run Try.prog w = .ok (.slice (some ⟨w.heap.size, 0, none⟩) 0 0) (w.alloc (.cells (madeCells #[.int .u8 0] 0) 5)) := make_run 0 (by omega) w
end Go.Proofs.Ytccnninmkfhejaa.By

namespace Go.Proofs.Ytccnninmkfhejaa.By
open Go.RowKit
set_option linter.unusedVariables false
set_option linter.unusedSimpArgs false

set_option maxHeartbeats 1000000 in
theorem eqBy0 (a a' : Option Addr) (n cap cap' : Nat) (zs : List Int) (w : World) (h : Reads w a n zs) (h' : Reads w a' n zs) (hn : n ≤ 4194304) :
    Calls Try.prog 16 #[.slice a n cap, .slice a' n cap'] w fun e w' => e = .returned (.bool true) ∧ ∃ m, w' = w.drewN m := by
  obtain ⟨hl, h⟩ := h
  obtain ⟨-, h'⟩ := h'
  by_cases h0 : n = 0
  · subst h0
    clear h h'
    go_enter Try.func16, Try.ntmps16
    go_wp2
    refine wp_loop_rounds 1 ?_
    rw [rounds_succ]
    go_wp2
    go_ret
    exact ⟨rfl, 0, rfl⟩
  · rcases h with h | ⟨b, off, rfl, hc⟩
    · exact absurd h h0
    rcases h' with h' | ⟨b', off', rfl, hc'⟩
    · exact absurd h' h0
    go_enter Try.func16, Try.ntmps16
    go_wp2
    go_loopw [5] (fun i wr => ∃ k m : Nat, k ≤ n ∧ i = .int .i64 k ∧ wr = w.drewN m) (fun i _ => n - (intOf i).toNat)
    case atStart => exact ⟨0, 0, Nat.zero_le _, rfl, rfl⟩
    case round =>
      obtain ⟨k, m, hk, rfl, rfl⟩ := hrel
      by_cases hlt : k < n
      · have c1 := hc k hlt
        have c2 := hc' k hlt
        have hki : (k : Int) < (n : Int) := by omega
        go_wp2
        go_quiet (fail)
        go_wp2
        go_roundw
        case rel => exact ⟨k + 1, _, by omega, by go_num, rfl⟩
        case measure => simp [intOf]; omega
      · go_wp2
        go_ret
        exact ⟨rfl, m, rfl⟩

theorem eqBy (a a' : Option Addr) (n cap cap' : Nat) (zs : List Int) (w : World) (h : Reads w a n zs) (h' : Reads w a' n zs) (hn : n ≤ 4194304) :
    Calls Try.prog 16 #[.slice a n cap, .slice a' n cap'] w fun e u => e = .returned (.bool true) ∧ w.grownBy u none := by
  refine (eqBy0 a a' n cap cap' zs w h h' hn).mono ?_
  rintro e u ⟨he, hm⟩
  exact ⟨he, quiet hm⟩
end Go.Proofs.Ytccnninmkfhejaa.By

namespace Go.Proofs.Ytccnninmkfhejaa.By
open Go.RowKit
set_option linter.unusedVariables false
set_option linter.unusedSimpArgs false

set_option maxHeartbeats 1000000 in
theorem eqIn0 (a a' : Option Addr) (n cap cap' : Nat) (zs : List Int) (w : World) (h : ReadsI w a n zs) (h' : ReadsI w a' n zs) (hn : n ≤ 4194304) :
    Calls Try.prog 41 #[.slice a n cap, .slice a' n cap'] w fun e w' => e = .returned (.bool true) ∧ ∃ m, w' = w.drewN m := by
  obtain ⟨hl, h⟩ := h
  obtain ⟨-, h'⟩ := h'
  by_cases h0 : n = 0
  · subst h0
    clear h h'
    go_enter Try.func41, Try.ntmps41
    go_wp2
    refine wp_loop_rounds 1 ?_
    rw [rounds_succ]
    go_wp2
    go_ret
    exact ⟨rfl, 0, rfl⟩
  · rcases h with h | ⟨b, off, rfl, hc⟩
    · exact absurd h h0
    rcases h' with h' | ⟨b', off', rfl, hc'⟩
    · exact absurd h' h0
    go_enter Try.func41, Try.ntmps41
    go_wp2
    go_loopw [5] (fun i wr => ∃ k m : Nat, k ≤ n ∧ i = .int .i64 k ∧ wr = w.drewN m) (fun i _ => n - (intOf i).toNat)
    case atStart => exact ⟨0, 0, Nat.zero_le _, rfl, rfl⟩
    case round =>
      obtain ⟨k, m, hk, rfl, rfl⟩ := hrel
      by_cases hlt : k < n
      · have c1 := hc k hlt
        have c2 := hc' k hlt
        have hki : (k : Int) < (n : Int) := by omega
        go_wp2
        go_quiet (fail)
        go_wp2
        go_roundw
        case rel => exact ⟨k + 1, _, by omega, by go_num, rfl⟩
        case measure => simp [intOf]; omega
      · go_wp2
        go_ret
        exact ⟨rfl, m, rfl⟩

theorem eqIn (a a' : Option Addr) (n cap cap' : Nat) (zs : List Int) (w : World) (h : RdI w a n zs) (h' : RdI w a' n zs) (hn : n ≤ 4194304) :
    Calls Try.prog 41 #[.slice a n cap, .slice a' n cap'] w fun e u => e = .returned (.bool true) ∧ w.grownBy u none := by
  refine (eqIn0 a a' n cap cap' zs w h.1 h'.1 hn).mono ?_
  rintro e u ⟨he, hm⟩
  exact ⟨he, quiet hm⟩
end Go.Proofs.Ytccnninmkfhejaa.By
