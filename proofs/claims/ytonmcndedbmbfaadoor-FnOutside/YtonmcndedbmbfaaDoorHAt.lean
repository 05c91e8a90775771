/-
  The contracts of the laws' own at and sameInts, and facts on lists, for this seat's proofs. No statement is proved here.
-/
import Derived.Test.YtonmcndedbmbfaaDoorHDrawA
namespace Go.Proofs.YtonmcndedbmbfaaDoor.By
open Go.RowKit
set_option linter.unusedVariables false
set_option linter.unusedSimpArgs false

theorem zeroAt_get : ∀ (k i : Nat) (ws : List Int) (j : Nat), (zeroAt ws i k).getD j 0 = if i ≤ j ∧ j < i + k then 0 else ws.getD j 0
  | 0, i, ws, j => by rw [zeroAt, if_neg (by omega)]
  | k + 1, i, ws, j => by
    rw [zeroAt, zeroAt_get k (i + 1)]
    by_cases h : i = j
    · subst h
      rw [if_neg (by omega), if_pos (by omega), List.getD_eq_getElem?_getD]
      by_cases hl : i < ws.length
      · simp [hl]
      · simp [List.getElem?_eq_none (show (ws.set i 0).length ≤ i by simp; omega)]
    · have e : (ws.set i 0).getD j 0 = ws.getD j 0 := by rw [List.getD_eq_getElem?_getD, List.getElem?_set_ne h, ← List.getD_eq_getElem?_getD]
      rw [e]
      by_cases h2 : i ≤ j ∧ j < i + (k + 1)
      · rw [if_pos (by omega), if_pos h2]
      · rw [if_neg (by omega), if_neg h2]
theorem set_get (ws : List Int) (i j : Nat) (x : Int) (hi : i < ws.length) : (ws.set i x).getD j 0 = if i = j then x else ws.getD j 0 := by
  rw [List.getD_eq_getElem?_getD]
  by_cases h : i = j
  · subst h; simp [hi]
  · rw [List.getElem?_set_ne h, if_neg h, ← List.getD_eq_getElem?_getD]

set_option maxHeartbeats 1000000 in
theorem atT (a : Option Addr) (n cap : Nat) (zs : List Int) (i : Nat) (w : World) (h : Reads w a n zs) (hz : Byt zs) (hn : n ≤ 9223372036854775807) (hi : i ≤ 100) :
    Calls Tryd.prog 6 #[.slice a n cap, .int .i64 (i : Int)] w fun e w' => ∃ x, e = .returned (.int .i64 x) ∧ 0 ≤ x ∧ x ≤ 255 ∧ w' = w := by
  obtain ⟨hl, h⟩ := h
  rcases h with h0 | ⟨b, off, rfl, hc⟩
  · subst h0
    go_enter Tryd.func6, Tryd.ntmps6
    go_wp2
    go_ret
    exact ⟨0, rfl, by omega, by omega, rfl⟩
  · by_cases h0 : n = 0
    · subst h0
      clear hc
      go_enter Tryd.func6, Tryd.ntmps6
      go_wp2
      go_ret
      exact ⟨0, rfl, by omega, by omega, rfl⟩
    · obtain ⟨k, hk⟩ : ∃ k : Nat, Int.tmod (i : Int) (n : Int) = (k : Int) := ⟨i % n, by rw [Int.tmod_eq_emod_of_nonneg (by omega)]; rfl⟩
      have hkn : (k : Int) < (n : Int) := by rw [← hk]; exact Int.tmod_lt_of_pos _ (by omega)
      have hb := byt_get hz k
      rw [← List.getD_eq_getElem?_getD] at hb
      have hcx := hc k (by omega)
      generalize zs.getD k 0 = x at *
      have h1 : ¬ ((n : Int) = 0) := by omega
      clear hc hl hz
      go_enter Tryd.func6, Tryd.ntmps6
      go_wp2
      go_ret
      exact ⟨x, by first | rfl | simp, hb.1, hb.2, rfl⟩

set_option maxHeartbeats 1000000 in
theorem sameT (a a' : Option Addr) (n cap cap' : Nat) (zs : List Int) (w : World) (h : ReadsI w a n zs) (h' : ReadsI w a' n zs) (hn : n ≤ 4194304) :
    Calls Tryd.prog 15 #[.slice a n cap, .slice a' n cap'] w fun e w' => e = .returned (.bool true) ∧ ∃ m, w' = w.drewN m := by
  obtain ⟨hl, h⟩ := h
  obtain ⟨-, h'⟩ := h'
  by_cases h0 : n = 0
  · subst h0
    clear h h'
    go_enter Tryd.func15, Tryd.ntmps15
    go_wp2
    refine wp_loop_rounds 1 ?_
    rw [rounds_succ]
    go_wp2
    go_ret
    exact ⟨rfl, 0, rfl⟩
  · rcases h with h | ⟨b, off, rfl, hc⟩
    · exact absurd h h0
    rcases h' with h' | ⟨b', off', rfl, hc'⟩
    · exact absurd h' h0
    go_enter Tryd.func15, Tryd.ntmps15
    go_wp2
    go_loopw [5] (fun i wr => ∃ k m : Nat, k ≤ n ∧ i = .int .i64 k ∧ wr = w.drewN m) (fun i _ => n - (intOf i).toNat)
    case atStart => exact ⟨0, 0, Nat.zero_le _, rfl, rfl⟩
    case round =>
      obtain ⟨k, m, hk, rfl, rfl⟩ := hrel
      by_cases hlt : k < n
      · have c1 := hc k hlt
        have c2 := hc' k hlt
        have hki : (k : Int) < (n : Int) := by omega
        go_wp2
        go_quiet (fail)
        go_wp2
        go_roundw
        case rel => exact ⟨k + 1, _, by omega, by go_num, rfl⟩
        case measure => simp [intOf]; omega
      · go_wp2
        go_ret
        exact ⟨rfl, m, rfl⟩
end Go.Proofs.YtonmcndedbmbfaaDoor.By
