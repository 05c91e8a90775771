/-
  The walk of the law FnFolds. The statement is proved in the text that imports this one.
-/
import Derived.Test.YtjlehmpdfpefdaaDrawN
namespace Go.Proofs.Ytjlehmpdfpefdaa.By
open Go.RowKit
set_option linter.unusedVariables false

theorem grown_below {w w' : World} (h : Below w.heap.size w w') : w.grownBy w' none := ⟨h.os, h.tape, h.output, h.size, fun k hk _ => h.block k hk⟩

set_option maxHeartbeats 1000000 in
theorem drawFoldT (a : Option Addr) (n cap : Nat) (zs : List Int) (w : World) (hr : Reads w a n zs) (hz : Byt zs) (hn : n ≤ 9223372036854775807) :
    Calls Try.prog 16 #[.slice a n cap] w fun e w' => ∃ x, e = .returned (.int .i64 x) ∧ I64 x ∧ w.grownBy w' none := by
  have hS := fun w1 g hc => signedT w w1 g a n cap zs hr hz hn hc
  have HS : Hid (∀ w1 g, Cur w w1 g a n cap → Calls Try.prog 33 #[.pointer (some ⟨g, 0, none⟩)] w1 fun e w' => ∃ x, e = .returned (.int .i64 x) ∧ I64 x ∧ Kept w w1 w' g a n cap) := hS
  have hN := newT a n cap zs w hr hz hn
  clear hS hr hz
  go_enter Try.func16, Try.ntmps16
  go_wp2_with fail
  refine hN.mono ?_
  rintro e w1 ⟨g, rfl, hc, hg⟩
  clear hN
  go_wp2_with fail
  refine (HS.out w1 g hc).mono ?_
  rintro e w2 ⟨x, rfl, hx, hk⟩
  go_wp2
  go_ret
  exact ⟨x, rfl, hx, grown_below hk.1.2.1⟩
set_option maxHeartbeats 1000000 in
theorem drawUnfoldT (a : Option Addr) (n cap : Nat) (zs : List Int) (w : World) (hr : Reads w a n zs) (hz : Byt zs) (hn : n ≤ 9223372036854775807) :
    Calls Try.prog 17 #[.slice a n cap] w fun e w' => ∃ x, e = .returned (.int .i64 x) ∧ I64 x ∧ w.grownBy w' none := by
  have hS := fun w1 g hc => numT w w1 g a n cap zs hr hz hn hc
  have HS : Hid (∀ w1 g, Cur w w1 g a n cap → Calls Try.prog 24 #[.pointer (some ⟨g, 0, none⟩)] w1 fun e w' => ∃ x, e = .returned (.int .i64 x) ∧ I64 x ∧ Kept w w1 w' g a n cap) := hS
  have hN := newT a n cap zs w hr hz hn
  clear hS hr hz
  go_enter Try.func17, Try.ntmps17
  go_wp2_with fail
  refine hN.mono ?_
  rintro e w1 ⟨g, rfl, hc, hg⟩
  clear hN
  go_wp2_with fail
  refine (HS.out w1 g hc).mono ?_
  rintro e w2 ⟨x, rfl, hx, hk⟩
  go_wp2
  go_ret
  exact ⟨x, rfl, hx, grown_below hk.1.2.1⟩

theorem foldOut (n : Int) (w : World) (h : n < -1073741824 ∨ 1073741823 < n) : Calls Try.prog 18 #[.int .i64 n] w fun e w' => e = .returned (.int .i64 (-1)) ∧ w' = w := by
  rcases h with h | h
  all_goals
    go_enter Try.func18, Try.ntmps18
    go_wp2
    go_ret
    exact ⟨rfl, rfl⟩
theorem foldNeg (n : Int) (w : World) (h : -1073741824 ≤ n) (h' : n < 0) : Calls Try.prog 18 #[.int .i64 n] w fun e w' => e = .returned (.int .i64 (-2 * n - 1)) ∧ w' = w := by
  go_enter Try.func18, Try.ntmps18
  go_wp2
  go_ret
  exact ⟨rfl, rfl⟩
theorem foldPos (n : Int) (w : World) (h : 0 ≤ n) (h' : n ≤ 1073741823) : Calls Try.prog 18 #[.int .i64 n] w fun e w' => e = .returned (.int .i64 (2 * n)) ∧ w' = w := by
  go_enter Try.func18, Try.ntmps18
  go_wp2
  go_ret
  exact ⟨rfl, rfl⟩
theorem ret_i {a b : Int} (h : a = b) : Ending.returned (.int .i64 a) = .returned (.int .i64 b) := by rw [h]
theorem unfoldEven (n : Int) (w : World) (h : 0 ≤ n) (h' : n ≤ 1073741823) : Calls Try.prog 19 #[.int .i64 (2 * n)] w fun e w' => e = .returned (.int .i64 n) ∧ w' = w := by
  go_enter Try.func19, Try.ntmps19
  go_wp2
  go_ret
  exact ⟨ret_i (by omega), rfl⟩
theorem odd_end (n : Int) (h : -1073741824 ≤ n) (h' : n < 0) : wrap64 (-(-2 * n).tdiv 2) = n := by
  rw [Int.tdiv_eq_ediv_of_nonneg (by omega)]
  unfold wrap64
  omega
theorem unfoldOdd (n : Int) (w : World) (h : -1073741824 ≤ n) (h' : n < 0) : Calls Try.prog 19 #[.int .i64 (-2 * n - 1)] w fun e w' => e = .returned (.int .i64 n) ∧ w' = w := by
  go_enter Try.func19, Try.ntmps19
  go_wp2
  go_ret
  exact ⟨ret_i (odd_end n h h'), rfl⟩
theorem foldOne (w : World) : Calls Try.prog 18 #[.int .i64 (-1)] w fun e w' => e = .returned (.int .i64 1) ∧ w' = w := foldNeg (-1) w (by omega) (by omega)
theorem unfoldTwo (w : World) : Calls Try.prog 19 #[.int .i64 2] w fun e w' => e = .returned (.int .i64 1) ∧ w' = w := unfoldEven 1 w (by omega) (by omega)

set_option maxHeartbeats 4000000 in
theorem lawFolds (a : Option Addr) (n cap : Nat) (zs : List Int) (w : World) (hr : Reads w a n zs) (hz : Byt zs) (hn : n ≤ 9223372036854775807) :
    Calls Try.prog 5 #[.slice a n cap] w fun e w' => e = .returned (.bool true) ∧ Below w.heap.size w w' := by
  have hF := drawFoldT a n cap zs w hr hz hn
  have hU := fun w1 h => drawUnfoldT a n cap zs w1 h hz hn
  have HU : Hid (∀ w1, Reads w1 a n zs → Calls Try.prog 17 #[.slice a n cap] w1 fun e w' => ∃ x, e = .returned (.int .i64 x) ∧ I64 x ∧ w1.grownBy w' none) := hU
  clear hU hz
  go_enter Try.func5, Try.ntmps5
  go_wp2_with fail
  refine hF.mono ?_
  rintro e w1 ⟨x, rfl, hx, hg1⟩
  clear hF
  go_wp2_with fail
  refine (HU.out w1 (hr.none hg1)).mono ?_
  rintro e w2 ⟨k, rfl, hk1, hg2⟩
  have HG : Hid (w.grownBy w2 none) := grown_trans hg1 hg2
  obtain ⟨hx0, hx1⟩ := hx
  obtain ⟨hk0, hk1⟩ := hk1
  have hk : k < 0 ∨ 2147483647 < k ∨ (∃ j, k = 2 * j ∧ 0 ≤ j ∧ j ≤ 1073741823) ∨ (∃ j, k = -2 * j - 1 ∧ -1073741824 ≤ j ∧ j < 0) := by
    by_cases h1 : k < 0
    · exact .inl h1
    by_cases h2 : 2147483647 < k
    · exact .inr (.inl h2)
    by_cases h3 : k % 2 = 0
    · exact .inr (.inr (.inl ⟨k / 2, by omega, by omega, by omega⟩))
    · exact .inr (.inr (.inr ⟨-(k + 1) / 2, by omega, by omega, by omega⟩))
  clear hg1 hg2 HU hr
  go_wp2_with fail
  rcases (show x < -1073741824 ∨ 1073741823 < x ∨ (-1073741824 ≤ x ∧ x < 0) ∨ (0 ≤ x ∧ x ≤ 1073741823) by omega) with hX | hX | ⟨hX, hX'⟩ | ⟨hX, hX'⟩
  · refine (foldOut x _ (.inl hX)).mono ?_
    rintro e w3 ⟨rfl, rfl⟩
    rcases hk with hk | hk | ⟨j, rfl, hj0, hj1⟩ | ⟨j, rfl, hj0, hj1⟩
    · go_wp2_with fail
      refine (foldOne _).mono ?_
      rintro e w8 ⟨rfl, rfl⟩
      go_wp2_with fail
      refine (unfoldTwo _).mono ?_
      rintro e w9 ⟨rfl, rfl⟩
      go_wp2
      go_ret
      exact ⟨rfl, (Below.refl _ _).grown HG.out (Nat.le_refl _) (by simp)⟩
    · go_wp2_with fail
      refine (foldOne _).mono ?_
      rintro e w8 ⟨rfl, rfl⟩
      go_wp2_with fail
      refine (unfoldTwo _).mono ?_
      rintro e w9 ⟨rfl, rfl⟩
      go_wp2
      go_ret
      exact ⟨rfl, (Below.refl _ _).grown HG.out (Nat.le_refl _) (by simp)⟩
    · go_wp2_with fail
      refine (unfoldEven j _ hj0 hj1).mono ?_
      rintro e w6 ⟨rfl, rfl⟩
      go_wp2_with fail
      refine (foldPos j _ hj0 hj1).mono ?_
      rintro e w7 ⟨rfl, rfl⟩
      go_wp2_with fail
      refine (foldOne _).mono ?_
      rintro e w8 ⟨rfl, rfl⟩
      go_wp2_with fail
      refine (unfoldTwo _).mono ?_
      rintro e w9 ⟨rfl, rfl⟩
      go_wp2
      go_ret
      exact ⟨rfl, (Below.refl _ _).grown HG.out (Nat.le_refl _) (by simp)⟩
    · go_wp2_with fail
      refine (unfoldOdd j _ hj0 hj1).mono ?_
      rintro e w6 ⟨rfl, rfl⟩
      go_wp2_with fail
      refine (foldNeg j _ hj0 hj1).mono ?_
      rintro e w7 ⟨rfl, rfl⟩
      go_wp2_with fail
      refine (foldOne _).mono ?_
      rintro e w8 ⟨rfl, rfl⟩
      go_wp2_with fail
      refine (unfoldTwo _).mono ?_
      rintro e w9 ⟨rfl, rfl⟩
      go_wp2
      go_ret
      exact ⟨rfl, (Below.refl _ _).grown HG.out (Nat.le_refl _) (by simp)⟩
  · have hXd : decide (x ≤ 1073741823) = false := decide_eq_false (by omega)
    refine (foldOut x _ (.inr hX)).mono ?_
    rintro e w3 ⟨rfl, rfl⟩
    rcases hk with hk | hk | ⟨j, rfl, hj0, hj1⟩ | ⟨j, rfl, hj0, hj1⟩
    · go_wp2_with fail
      refine (foldOne _).mono ?_
      rintro e w8 ⟨rfl, rfl⟩
      go_wp2_with fail
      refine (unfoldTwo _).mono ?_
      rintro e w9 ⟨rfl, rfl⟩
      go_wp2
      go_ret
      exact ⟨rfl, (Below.refl _ _).grown HG.out (Nat.le_refl _) (by simp)⟩
    · go_wp2_with fail
      refine (foldOne _).mono ?_
      rintro e w8 ⟨rfl, rfl⟩
      go_wp2_with fail
      refine (unfoldTwo _).mono ?_
      rintro e w9 ⟨rfl, rfl⟩
      go_wp2
      go_ret
      exact ⟨rfl, (Below.refl _ _).grown HG.out (Nat.le_refl _) (by simp)⟩
    · go_wp2_with fail
      refine (unfoldEven j _ hj0 hj1).mono ?_
      rintro e w6 ⟨rfl, rfl⟩
      go_wp2_with fail
      refine (foldPos j _ hj0 hj1).mono ?_
      rintro e w7 ⟨rfl, rfl⟩
      go_wp2_with fail
      refine (foldOne _).mono ?_
      rintro e w8 ⟨rfl, rfl⟩
      go_wp2_with fail
      refine (unfoldTwo _).mono ?_
      rintro e w9 ⟨rfl, rfl⟩
      go_wp2
      go_ret
      exact ⟨rfl, (Below.refl _ _).grown HG.out (Nat.le_refl _) (by simp)⟩
    · go_wp2_with fail
      refine (unfoldOdd j _ hj0 hj1).mono ?_
      rintro e w6 ⟨rfl, rfl⟩
      go_wp2_with fail
      refine (foldNeg j _ hj0 hj1).mono ?_
      rintro e w7 ⟨rfl, rfl⟩
      go_wp2_with fail
      refine (foldOne _).mono ?_
      rintro e w8 ⟨rfl, rfl⟩
      go_wp2_with fail
      refine (unfoldTwo _).mono ?_
      rintro e w9 ⟨rfl, rfl⟩
      go_wp2
      go_ret
      exact ⟨rfl, (Below.refl _ _).grown HG.out (Nat.le_refl _) (by simp)⟩
  · refine (foldNeg x _ hX hX').mono ?_
    rintro e w3 ⟨rfl, rfl⟩
    go_wp2_with fail
    refine (unfoldOdd x _ hX hX').mono ?_
    rintro e w4 ⟨rfl, rfl⟩
    rcases hk with hk | hk | ⟨j, rfl, hj0, hj1⟩ | ⟨j, rfl, hj0, hj1⟩
    · go_wp2_with fail
      refine (foldOne _).mono ?_
      rintro e w8 ⟨rfl, rfl⟩
      go_wp2_with fail
      refine (unfoldTwo _).mono ?_
      rintro e w9 ⟨rfl, rfl⟩
      go_wp2
      go_ret
      exact ⟨rfl, (Below.refl _ _).grown HG.out (Nat.le_refl _) (by simp)⟩
    · go_wp2_with fail
      refine (foldOne _).mono ?_
      rintro e w8 ⟨rfl, rfl⟩
      go_wp2_with fail
      refine (unfoldTwo _).mono ?_
      rintro e w9 ⟨rfl, rfl⟩
      go_wp2
      go_ret
      exact ⟨rfl, (Below.refl _ _).grown HG.out (Nat.le_refl _) (by simp)⟩
    · go_wp2_with fail
      refine (unfoldEven j _ hj0 hj1).mono ?_
      rintro e w6 ⟨rfl, rfl⟩
      go_wp2_with fail
      refine (foldPos j _ hj0 hj1).mono ?_
      rintro e w7 ⟨rfl, rfl⟩
      go_wp2_with fail
      refine (foldOne _).mono ?_
      rintro e w8 ⟨rfl, rfl⟩
      go_wp2_with fail
      refine (unfoldTwo _).mono ?_
      rintro e w9 ⟨rfl, rfl⟩
      go_wp2
      go_ret
      exact ⟨rfl, (Below.refl _ _).grown HG.out (Nat.le_refl _) (by simp)⟩
    · go_wp2_with fail
      refine (unfoldOdd j _ hj0 hj1).mono ?_
      rintro e w6 ⟨rfl, rfl⟩
      go_wp2_with fail
      refine (foldNeg j _ hj0 hj1).mono ?_
      rintro e w7 ⟨rfl, rfl⟩
      go_wp2_with fail
      refine (foldOne _).mono ?_
      rintro e w8 ⟨rfl, rfl⟩
      go_wp2_with fail
      refine (unfoldTwo _).mono ?_
      rintro e w9 ⟨rfl, rfl⟩
      go_wp2
      go_ret
      exact ⟨rfl, (Below.refl _ _).grown HG.out (Nat.le_refl _) (by simp)⟩
  · refine (foldPos x _ hX hX').mono ?_
    rintro e w3 ⟨rfl, rfl⟩
    go_wp2_with fail
    refine (unfoldEven x _ hX hX').mono ?_
    rintro e w4 ⟨rfl, rfl⟩
    rcases hk with hk | hk | ⟨j, rfl, hj0, hj1⟩ | ⟨j, rfl, hj0, hj1⟩
    · go_wp2_with fail
      refine (foldOne _).mono ?_
      rintro e w8 ⟨rfl, rfl⟩
      go_wp2_with fail
      refine (unfoldTwo _).mono ?_
      rintro e w9 ⟨rfl, rfl⟩
      go_wp2
      go_ret
      exact ⟨rfl, (Below.refl _ _).grown HG.out (Nat.le_refl _) (by simp)⟩
    · go_wp2_with fail
      refine (foldOne _).mono ?_
      rintro e w8 ⟨rfl, rfl⟩
      go_wp2_with fail
      refine (unfoldTwo _).mono ?_
      rintro e w9 ⟨rfl, rfl⟩
      go_wp2
      go_ret
      exact ⟨rfl, (Below.refl _ _).grown HG.out (Nat.le_refl _) (by simp)⟩
    · go_wp2_with fail
      refine (unfoldEven j _ hj0 hj1).mono ?_
      rintro e w6 ⟨rfl, rfl⟩
      go_wp2_with fail
      refine (foldPos j _ hj0 hj1).mono ?_
      rintro e w7 ⟨rfl, rfl⟩
      go_wp2_with fail
      refine (foldOne _).mono ?_
      rintro e w8 ⟨rfl, rfl⟩
      go_wp2_with fail
      refine (unfoldTwo _).mono ?_
      rintro e w9 ⟨rfl, rfl⟩
      go_wp2
      go_ret
      exact ⟨rfl, (Below.refl _ _).grown HG.out (Nat.le_refl _) (by simp)⟩
    · go_wp2_with fail
      refine (unfoldOdd j _ hj0 hj1).mono ?_
      rintro e w6 ⟨rfl, rfl⟩
      go_wp2_with fail
      refine (foldNeg j _ hj0 hj1).mono ?_
      rintro e w7 ⟨rfl, rfl⟩
      go_wp2_with fail
      refine (foldOne _).mono ?_
      rintro e w8 ⟨rfl, rfl⟩
      go_wp2_with fail
      refine (unfoldTwo _).mono ?_
      rintro e w9 ⟨rfl, rfl⟩
      go_wp2
      go_ret
      exact ⟨rfl, (Below.refl _ _).grown HG.out (Nat.le_refl _) (by simp)⟩
end Go.Proofs.Ytjlehmpdfpefdaa.By
