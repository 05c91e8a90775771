/-
  Several texts in one (PutI, PutJ). No statement is proved here.
-/
import Derived.Test.YtjchjdcaampghaaDoorPutJ
namespace Go.Proofs.YtjchjdcaampghaaDoor.By
open Go.RowKit
set_option linter.unusedVariables false

set_option maxHeartbeats 2000000 in
theorem parts1 (n : Int) (w : World) (h0 : 0 ≤ n) (h1 : n < 128) :
    Calls Tryd.prog 41 #[.int .i64 n] w fun e w' => e = .returned (.tuple #[.agg #[.int .u8 n, .int .u8 0, .int .u8 0, .int .u8 0, .int .u8 0], .int .i64 1]) ∧ w.grownBy w' none := by
  go_enter Tryd.func41, Tryd.ntmps41
  go_wp2
  refine wp_loop_rounds 1 ?_
  rw [rounds_succ]
  go_wp2
  exact bodyPost_ret (v := .tuple #[.agg #[.int .u8 n, .int .u8 0, .int .u8 0, .int .u8 0, .int .u8 0], .int .i64 1]) (by simp [results, Tryd.results41, go_sem]) rfl ⟨rfl, grown_trans (World.grownBy_alloc _ _ _) (World.grownBy_alloc _ _ _)⟩
set_option maxHeartbeats 2000000 in
theorem parts2 (n : Int) (w : World) (h0 : 128 ≤ n) (h1 : n < 16384) :
    Calls Tryd.prog 41 #[.int .i64 n] w fun e w' => e = .returned (.tuple #[.agg #[.int .u8 (n % 128 + 128), .int .u8 (n / 128), .int .u8 0, .int .u8 0, .int .u8 0], .int .i64 2]) ∧ w.grownBy w' none := by
  go_enter Tryd.func41, Tryd.ntmps41
  go_wp2
  refine wp_loop_rounds 2 ?_
  rw [rounds_succ]
  go_wp2
  rw [rounds_succ]
  go_wp2
  exact bodyPost_ret (v := .tuple #[.agg #[.int .u8 (n % 128 + 128), .int .u8 (n / 128), .int .u8 0, .int .u8 0, .int .u8 0], .int .i64 2]) (by simp [results, Tryd.results41, go_sem]) rfl ⟨rfl, grown_trans (World.grownBy_alloc _ _ _) (World.grownBy_alloc _ _ _)⟩
set_option maxHeartbeats 2000000 in
theorem parts3 (n : Int) (w : World) (h0 : 16384 ≤ n) (h1 : n < 2097152) :
    Calls Tryd.prog 41 #[.int .i64 n] w fun e w' => e = .returned (.tuple #[.agg #[.int .u8 (n % 128 + 128), .int .u8 (n / 128 % 128 + 128), .int .u8 (n / 128 / 128), .int .u8 0, .int .u8 0], .int .i64 3]) ∧ w.grownBy w' none := by
  go_enter Tryd.func41, Tryd.ntmps41
  go_wp2
  refine wp_loop_rounds 3 ?_
  rw [rounds_succ]
  go_wp2
  rw [rounds_succ]
  go_wp2
  rw [rounds_succ]
  go_wp2
  exact bodyPost_ret (v := .tuple #[.agg #[.int .u8 (n % 128 + 128), .int .u8 (n / 128 % 128 + 128), .int .u8 (n / 128 / 128), .int .u8 0, .int .u8 0], .int .i64 3]) (by simp [results, Tryd.results41, go_sem]) rfl ⟨rfl, grown_trans (World.grownBy_alloc _ _ _) (World.grownBy_alloc _ _ _)⟩
set_option maxHeartbeats 2000000 in
theorem parts4 (n : Int) (w : World) (h0 : 2097152 ≤ n) (h1 : n < 268435456) :
    Calls Tryd.prog 41 #[.int .i64 n] w fun e w' => e = .returned (.tuple #[.agg #[.int .u8 (n % 128 + 128), .int .u8 (n / 128 % 128 + 128), .int .u8 (n / 128 / 128 % 128 + 128), .int .u8 (n / 128 / 128 / 128), .int .u8 0], .int .i64 4]) ∧ w.grownBy w' none := by
  go_enter Tryd.func41, Tryd.ntmps41
  go_wp2
  refine wp_loop_rounds 4 ?_
  rw [rounds_succ]
  go_wp2
  rw [rounds_succ]
  go_wp2
  rw [rounds_succ]
  go_wp2
  rw [rounds_succ]
  go_wp2
  exact bodyPost_ret (v := .tuple #[.agg #[.int .u8 (n % 128 + 128), .int .u8 (n / 128 % 128 + 128), .int .u8 (n / 128 / 128 % 128 + 128), .int .u8 (n / 128 / 128 / 128), .int .u8 0], .int .i64 4]) (by simp [results, Tryd.results41, go_sem]) rfl ⟨rfl, grown_trans (World.grownBy_alloc _ _ _) (World.grownBy_alloc _ _ _)⟩
set_option maxHeartbeats 2000000 in
theorem parts5 (n : Int) (w : World) (h0 : 268435456 ≤ n) (h1 : n ≤ 2147483647) :
    Calls Tryd.prog 41 #[.int .i64 n] w fun e w' => e = .returned (.tuple #[.agg #[.int .u8 (n % 128 + 128), .int .u8 (n / 128 % 128 + 128), .int .u8 (n / 128 / 128 % 128 + 128), .int .u8 (n / 128 / 128 / 128 % 128 + 128), .int .u8 (n / 128 / 128 / 128 / 128)], .int .i64 5]) ∧ w.grownBy w' none := by
  go_enter Tryd.func41, Tryd.ntmps41
  go_wp2
  refine wp_loop_rounds 5 ?_
  rw [rounds_succ]
  go_wp2
  rw [rounds_succ]
  go_wp2
  rw [rounds_succ]
  go_wp2
  rw [rounds_succ]
  go_wp2
  rw [rounds_succ]
  go_wp2
  exact bodyPost_ret (v := .tuple #[.agg #[.int .u8 (n % 128 + 128), .int .u8 (n / 128 % 128 + 128), .int .u8 (n / 128 / 128 % 128 + 128), .int .u8 (n / 128 / 128 / 128 % 128 + 128), .int .u8 (n / 128 / 128 / 128 / 128)], .int .i64 5]) (by simp [results, Tryd.results41, go_sem]) rfl ⟨rfl, grown_trans (World.grownBy_alloc _ _ _) (World.grownBy_alloc _ _ _)⟩

/-- The bytes that stand behind the others; none, where the number is out of range. -/
def numB (N : Int) : List Int := if N < 0 ∨ 2147483647 < N then [] else putB N.toNat
theorem numB_out {N : Int} (h : N < 0 ∨ 2147483647 < N) : numB N = [] := by rw [numB, if_pos h]
theorem numB_in {N : Int} (h0 : 0 ≤ N) (h1 : N ≤ 2147483647) : numB N = putB N.toNat := by rw [numB, if_neg (by omega)]
theorem numB_byt (N : Int) : Byt (numB N) := by
  unfold numB; split
  · intro z hz; simp at hz
  · exact putB_byt _
theorem putI {n : Int} (h0 : 0 ≤ n) (h1 : n < 128) : putB n.toNat = [n] := by
  rw [putB_small (by omega), Int.toNat_of_nonneg h0]
theorem putI_more {n : Int} (h0 : 128 ≤ n) : putB n.toNat = (n % 128 + 128) :: putB (n / 128).toNat := by
  rw [putB_more (by omega)]
  have e1 : ((n.toNat % 128 + 128 : Nat) : Int) = n % 128 + 128 := by omega
  have e2 : n.toNat / 128 = (n / 128).toNat := by omega
  rw [e1, e2]
/-- The five cells, of which the first c are the number's bytes. -/
theorem partsT (n : Int) (w : World) (h0 : 0 ≤ n) (h1 : n ≤ 2147483647) :
    Calls Tryd.prog 41 #[.int .i64 n] w fun e w' => ∃ (p0 p1 p2 p3 p4 : Int) (c : Nat), e = .returned (.tuple #[.agg #[.int .u8 p0, .int .u8 p1, .int .u8 p2, .int .u8 p3, .int .u8 p4], .int .i64 c]) ∧ [p0, p1, p2, p3, p4].take c = numB n ∧ 1 ≤ c ∧ c ≤ 5 ∧ w.grownBy w' none := by
  rw [numB_in h0 h1]
  rcases (show n < 128 ∨ (128 ≤ n ∧ n < 16384) ∨ (16384 ≤ n ∧ n < 2097152) ∨ (2097152 ≤ n ∧ n < 268435456) ∨ 268435456 ≤ n by omega) with h | ⟨h, h'⟩ | ⟨h, h'⟩ | ⟨h, h'⟩ | h
  · exact (parts1 n w h0 h).mono fun e w' ⟨he, hg⟩ => ⟨_, _, _, _, _, 1, he, by rw [putI h0 h]; rfl, by omega, by omega, hg⟩
  · exact (parts2 n w h h').mono fun e w' ⟨he, hg⟩ => ⟨_, _, _, _, _, 2, he, by rw [putI_more h, putI (by omega) (by omega)]; rfl, by omega, by omega, hg⟩
  · exact (parts3 n w h h').mono fun e w' ⟨he, hg⟩ => ⟨_, _, _, _, _, 3, he, by rw [putI_more (by omega), putI_more (by omega), putI (by omega) (by omega)]; rfl, by omega, by omega, hg⟩
  · exact (parts4 n w h h').mono fun e w' ⟨he, hg⟩ => ⟨_, _, _, _, _, 4, he, by rw [putI_more (by omega), putI_more (by omega), putI_more (by omega), putI (by omega) (by omega)]; rfl, by omega, by omega, hg⟩
  · exact (parts5 n w h h1).mono fun e w' ⟨he, hg⟩ => ⟨_, _, _, _, _, 5, he, by rw [putI_more (by omega), putI_more (by omega), putI_more (by omega), putI_more (by omega), putI (by omega) (by omega)]; rfl, by omega, by omega, hg⟩

theorem reads_parts (w : World) (p0 p1 p2 p3 p4 : Int) (c : Nat) (t : TypeId) (l : List Int) (hc : c ≤ 5) (h : [p0, p1, p2, p3, p4].take c = l) :
    Reads (w.alloc (.cells #[.int .u8 p0, .int .u8 p1, .int .u8 p2, .int .u8 p3, .int .u8 p4] t)) (some ⟨w.heap.size, 0, none⟩) c l := by
  subst h
  refine ⟨by simp; omega, .inr ⟨_, 0, rfl, fun i hi => ?_⟩⟩
  rw [List.getD_eq_getElem?_getD, List.getElem?_take_of_lt hi]
  have hh := heap_alloc_new w (.cells #[.int .u8 p0, .int .u8 p1, .int .u8 p2, .int .u8 p3, .int .u8 p4] t)
  rw [Nat.zero_add, cell_of_row _ _ i _ t (0, 0) hh]
  rcases (show i = 0 ∨ i = 1 ∨ i = 2 ∨ i = 3 ∨ i = 4 by omega) with rfl | rfl | rfl | rfl | rfl <;> rfl
end Go.Proofs.YtjchjdcaampghaaDoor.By

namespace Go.Proofs.YtjchjdcaampghaaDoor.By
open Go.RowKit
set_option linter.unusedVariables false

theorem reads_nil (w : World) : Reads w none 0 [] := ⟨rfl, .inl rfl⟩

set_option maxHeartbeats 2000000 in
theorem implPut (a : Option Addr) (n cap : Nat) (zs : List Int) (N : Int) (w : World) (h : Reads w a n zs) (hn : n ≤ 1500000) :
    Calls Tryd.prog 33 #[.slice a n cap, .int .i64 N] w fun e w' => ∃ g, e = .returned (.slice (some ⟨g, 0, none⟩) (n + (numB N).length) (n + (numB N).length)) ∧ w.grownBy w' none ∧ w.heap.size ≤ g ∧ Row w' g (n + (numB N).length) (zs ++ numB N) := by
  by_cases hN : 0 ≤ N ∧ N ≤ 2147483647
  · obtain ⟨h0, h1⟩ := hN
    have hP := partsT N w h0 h1
    obtain ⟨L, hL⟩ : ∃ L, L = numB N := ⟨_, rfl⟩
    rw [← hL] at hP ⊢
    clear hL
    go_enter Tryd.func33, Tryd.ntmps33
    go_wp2_with fail
    refine hP.mono ?_
    rintro e w1 ⟨p0, p1, p2, p3, p4, c, rfl, hL, hc1, hc5, hg1⟩
    have hLl : L.length = c := by rw [← hL]; simp; omega
    have HL : Hid ([p0, p1, p2, p3, p4].take c = L) := hL
    have HLl : Hid (L.length = c) := hLl
    clear hP hL hLl
    have hA := (World.grownBy_alloc w1 (.cells #[.int .u8 p0, .int .u8 p1, .int .u8 p2, .int .u8 p3, .int .u8 p4] 78) none)
    have HR : Hid (Reads (w1.alloc (.cells #[.int .u8 p0, .int .u8 p1, .int .u8 p2, .int .u8 p3, .int .u8 p4] 78)) a n zs) := (h.none hg1).none hA
    have HG : Hid (w.grownBy (w1.alloc (.cells #[.int .u8 p0, .int .u8 p1, .int .u8 p2, .int .u8 p3, .int .u8 p4] 78)) none) := grown_trans hg1 hA
    clear hA hg1 h
    have hc5' : (c : Int) ≤ 5 := by omega
    go_wp2_with fail
    refine (joinedT a (some ⟨w1.heap.size, 0, none⟩) n c cap 5 zs L _ HR.out (reads_parts w1 p0 p1 p2 p3 p4 c 78 L hc5 HL.out) (by omega) (by omega)).mono ?_
    rintro e w2 ⟨g, rfl, hg2, hlt2, hrow2⟩
    have HG2 : Hid (w.grownBy w2 none) := grown_trans HG.out hg2
    have hlt : w.heap.size ≤ g := Nat.le_trans HG.out.size hlt2
    clear hg2 hlt2 HR HG
    go_wp2
    go_ret
    rw [HLl.out]
    exact ⟨g, rfl, HG2.out, hlt, hrow2⟩
  · have e0 := numB_out (show N < 0 ∨ 2147483647 < N by omega)
    have hJ := joinedT a none n 0 cap 0 zs [] w h (reads_nil w) (by omega) (by omega)
    rw [e0]
    rcases (show N < 0 ∨ 2147483647 < N by omega) with h1 | h1
    all_goals
      go_enter Tryd.func33, Tryd.ntmps33
      go_wp2_with fail
      refine hJ.mono ?_
      rintro e w1 ⟨g, rfl, hg, hlt, hrow⟩
      clear hJ
      go_wp2
      go_ret
      exact ⟨g, rfl, hg, hlt, hrow⟩
end Go.Proofs.YtjchjdcaampghaaDoor.By
