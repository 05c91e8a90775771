/-
  The landed PutNum answers the bytes and behind them those of the number. No statement is proved here.
-/
import Derived.Test.YtjchjdcaampghaaDoorPut
namespace Go.Proofs.YtjchjdcaampghaaDoor.By
open Go.RowKit
set_option linter.unusedVariables false

set_option maxHeartbeats 2000000 in
theorem parts1 (n : Int) (w : World) (h0 : 0 ≤ n) (h1 : n < 128) :
    Calls Tryd.prog 41 #[.int .i64 n] w fun e w' => e = .returned (.tuple #[.agg #[.int .u8 n, .int .u8 0, .int .u8 0, .int .u8 0, .int .u8 0], .int .i64 1]) ∧ w.grownBy w' none := by
  go_enter Tryd.func41, Tryd.ntmps41
  go_wp2
  refine wp_loop_rounds 1 ?_
  rw [rounds_succ]
  go_wp2
  exact bodyPost_ret (v := .tuple #[.agg #[.int .u8 n, .int .u8 0, .int .u8 0, .int .u8 0, .int .u8 0], .int .i64 1]) (by simp [results, Tryd.results41, go_sem]) rfl ⟨rfl, grown_trans (World.grownBy_alloc _ _ _) (World.grownBy_alloc _ _ _)⟩
set_option maxHeartbeats 2000000 in
theorem parts2 (n : Int) (w : World) (h0 : 128 ≤ n) (h1 : n < 16384) :
    Calls Tryd.prog 41 #[.int .i64 n] w fun e w' => e = .returned (.tuple #[.agg #[.int .u8 (n % 128 + 128), .int .u8 (n / 128), .int .u8 0, .int .u8 0, .int .u8 0], .int .i64 2]) ∧ w.grownBy w' none := by
  go_enter Tryd.func41, Tryd.ntmps41
  go_wp2
  refine wp_loop_rounds 2 ?_
  rw [rounds_succ]
  go_wp2
  rw [rounds_succ]
  go_wp2
  exact bodyPost_ret (v := .tuple #[.agg #[.int .u8 (n % 128 + 128), .int .u8 (n / 128), .int .u8 0, .int .u8 0, .int .u8 0], .int .i64 2]) (by simp [results, Tryd.results41, go_sem]) rfl ⟨rfl, grown_trans (World.grownBy_alloc _ _ _) (World.grownBy_alloc _ _ _)⟩
set_option maxHeartbeats 2000000 in
theorem parts3 (n : Int) (w : World) (h0 : 16384 ≤ n) (h1 : n < 2097152) :
    Calls Tryd.prog 41 #[.int .i64 n] w fun e w' => e = .returned (.tuple #[.agg #[.int .u8 (n % 128 + 128), .int .u8 (n / 128 % 128 + 128), .int .u8 (n / 128 / 128), .int .u8 0, .int .u8 0], .int .i64 3]) ∧ w.grownBy w' none := by
  go_enter Tryd.func41, Tryd.ntmps41
  go_wp2
  refine wp_loop_rounds 3 ?_
  rw [rounds_succ]
  go_wp2
  rw [rounds_succ]
  go_wp2
  rw [rounds_succ]
  go_wp2
  exact bodyPost_ret (v := .tuple #[.agg #[.int .u8 (n % 128 + 128), .int .u8 (n / 128 % 128 + 128), .int .u8 (n / 128 / 128), .int .u8 0, .int .u8 0], .int .i64 3]) (by simp [results, Tryd.results41, go_sem]) rfl ⟨rfl, grown_trans (World.grownBy_alloc _ _ _) (World.grownBy_alloc _ _ _)⟩
set_option maxHeartbeats 2000000 in
theorem parts4 (n : Int) (w : World) (h0 : 2097152 ≤ n) (h1 : n < 268435456) :
    Calls Tryd.prog 41 #[.int .i64 n] w fun e w' => e = .returned (.tuple #[.agg #[.int .u8 (n % 128 + 128), .int .u8 (n / 128 % 128 + 128), .int .u8 (n / 128 / 128 % 128 + 128), .int .u8 (n / 128 / 128 / 128), .int .u8 0], .int .i64 4]) ∧ w.grownBy w' none := by
  go_enter Tryd.func41, Tryd.ntmps41
  go_wp2
  refine wp_loop_rounds 4 ?_
  rw [rounds_succ]
  go_wp2
  rw [rounds_succ]
  go_wp2
  rw [rounds_succ]
  go_wp2
  rw [rounds_succ]
  go_wp2
  exact bodyPost_ret (v := .tuple #[.agg #[.int .u8 (n % 128 + 128), .int .u8 (n / 128 % 128 + 128), .int .u8 (n / 128 / 128 % 128 + 128), .int .u8 (n / 128 / 128 / 128), .int .u8 0], .int .i64 4]) (by simp [results, Tryd.results41, go_sem]) rfl ⟨rfl, grown_trans (World.grownBy_alloc _ _ _) (World.grownBy_alloc _ _ _)⟩
set_option maxHeartbeats 2000000 in
theorem parts5 (n : Int) (w : World) (h0 : 268435456 ≤ n) (h1 : n ≤ 2147483647) :
    Calls Tryd.prog 41 #[.int .i64 n] w fun e w' => e = .returned (.tuple #[.agg #[.int .u8 (n % 128 + 128), .int .u8 (n / 128 % 128 + 128), .int .u8 (n / 128 / 128 % 128 + 128), .int .u8 (n / 128 / 128 / 128 % 128 + 128), .int .u8 (n / 128 / 128 / 128 / 128)], .int .i64 5]) ∧ w.grownBy w' none := by
  go_enter Tryd.func41, Tryd.ntmps41
  go_wp2
  refine wp_loop_rounds 5 ?_
  rw [rounds_succ]
  go_wp2
  rw [rounds_succ]
  go_wp2
  rw [rounds_succ]
  go_wp2
  rw [rounds_succ]
  go_wp2
  rw [rounds_succ]
  go_wp2
  exact bodyPost_ret (v := .tuple #[.agg #[.int .u8 (n % 128 + 128), .int .u8 (n / 128 % 128 + 128), .int .u8 (n / 128 / 128 % 128 + 128), .int .u8 (n / 128 / 128 / 128 % 128 + 128), .int .u8 (n / 128 / 128 / 128 / 128)], .int .i64 5]) (by simp [results, Tryd.results41, go_sem]) rfl ⟨rfl, grown_trans (World.grownBy_alloc _ _ _) (World.grownBy_alloc _ _ _)⟩

/-- The bytes that stand behind the others; none, where the number is out of range. -/
def numB (N : Int) : List Int := if N < 0 ∨ 2147483647 < N then [] else putB N.toNat
theorem numB_out {N : Int} (h : N < 0 ∨ 2147483647 < N) : numB N = [] := by rw [numB, if_pos h]
theorem numB_in {N : Int} (h0 : 0 ≤ N) (h1 : N ≤ 2147483647) : numB N = putB N.toNat := by rw [numB, if_neg (by omega)]
theorem numB_byt (N : Int) : Byt (numB N) := by
  unfold numB; split
  · intro z hz; simp at hz
  · exact putB_byt _
theorem putI {n : Int} (h0 : 0 ≤ n) (h1 : n < 128) : putB n.toNat = [n] := by
  rw [putB_small (by omega), Int.toNat_of_nonneg h0]
theorem putI_more {n : Int} (h0 : 128 ≤ n) : putB n.toNat = (n % 128 + 128) :: putB (n / 128).toNat := by
  rw [putB_more (by omega)]
  have e1 : ((n.toNat % 128 + 128 : Nat) : Int) = n % 128 + 128 := by omega
  have e2 : n.toNat / 128 = (n / 128).toNat := by omega
  rw [e1, e2]
/-- The five cells, of which the first c are the number's bytes. -/
theorem partsT (n : Int) (w : World) (h0 : 0 ≤ n) (h1 : n ≤ 2147483647) :
    Calls Tryd.prog 41 #[.int .i64 n] w fun e w' => ∃ (p0 p1 p2 p3 p4 : Int) (c : Nat), e = .returned (.tuple #[.agg #[.int .u8 p0, .int .u8 p1, .int .u8 p2, .int .u8 p3, .int .u8 p4], .int .i64 c]) ∧ [p0, p1, p2, p3, p4].take c = numB n ∧ 1 ≤ c ∧ c ≤ 5 ∧ w.grownBy w' none := by
  rw [numB_in h0 h1]
  rcases (show n < 128 ∨ (128 ≤ n ∧ n < 16384) ∨ (16384 ≤ n ∧ n < 2097152) ∨ (2097152 ≤ n ∧ n < 268435456) ∨ 268435456 ≤ n by omega) with h | ⟨h, h'⟩ | ⟨h, h'⟩ | ⟨h, h'⟩ | h
  · exact (parts1 n w h0 h).mono fun e w' ⟨he, hg⟩ => ⟨_, _, _, _, _, 1, he, by rw [putI h0 h]; rfl, by omega, by omega, hg⟩
  · exact (parts2 n w h h').mono fun e w' ⟨he, hg⟩ => ⟨_, _, _, _, _, 2, he, by rw [putI_more h, putI (by omega) (by omega)]; rfl, by omega, by omega, hg⟩
  · exact (parts3 n w h h').mono fun e w' ⟨he, hg⟩ => ⟨_, _, _, _, _, 3, he, by rw [putI_more (by omega), putI_more (by omega), putI (by omega) (by omega)]; rfl, by omega, by omega, hg⟩
  · exact (parts4 n w h h').mono fun e w' ⟨he, hg⟩ => ⟨_, _, _, _, _, 4, he, by rw [putI_more (by omega), putI_more (by omega), putI_more (by omega), putI (by omega) (by omega)]; rfl, by omega, by omega, hg⟩
  · exact (parts5 n w h h1).mono fun e w' ⟨he, hg⟩ => ⟨_, _, _, _, _, 5, he, by rw [putI_more (by omega), putI_more (by omega), putI_more (by omega), putI_more (by omega), putI (by omega) (by omega)]; rfl, by omega, by omega, hg⟩

theorem reads_parts (w : World) (p0 p1 p2 p3 p4 : Int) (c : Nat) (t : TypeId) (l : List Int) (hc : c ≤ 5) (h : [p0, p1, p2, p3, p4].take c = l) :
    Reads (w.alloc (.cells #[.int .u8 p0, .int .u8 p1, .int .u8 p2, .int .u8 p3, .int .u8 p4] t)) (some ⟨w.heap.size, 0, none⟩) c l := by
  subst h
  refine ⟨by simp; omega, .inr ⟨_, 0, rfl, fun i hi => ?_⟩⟩
  rw [List.getD_eq_getElem?_getD, List.getElem?_take_of_lt hi]
  have hh := heap_alloc_new w (.cells #[.int .u8 p0, .int .u8 p1, .int .u8 p2, .int .u8 p3, .int .u8 p4] t)
  rw [Nat.zero_add, cell_of_row _ _ i _ t (0, 0) hh]
  rcases (show i = 0 ∨ i = 1 ∨ i = 2 ∨ i = 3 ∨ i = 4 by omega) with rfl | rfl | rfl | rfl | rfl <;> rfl
end Go.Proofs.YtjchjdcaampghaaDoor.By
