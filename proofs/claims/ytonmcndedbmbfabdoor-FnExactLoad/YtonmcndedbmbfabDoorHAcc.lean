/-
  Contracts of the law's own helpers for accesses, for this seat's proofs. No statement is proved here.
-/
import Derived.Test.YtonmcndedbmbfabDoorHHelp
import Derived.Deep.RegionWith
import Derived.Handy
namespace Go.Proofs.YtonmcndedbmbfabDoor.By
open Go.RowKit
set_option linter.unusedVariables false

set_option maxHeartbeats 1000000 in
theorem eqA1 (x y z : Int) (w : World) :
    Calls Tryd.prog 45 #[.agg #[.int .i64 x, .int .i64 y, .int .i64 z], .agg #[.int .i64 x, .int .i64 y, .int .i64 z]] w fun e w' => e = .returned (.bool true) ∧ w.grownBy w' none := by
  go_enter Tryd.func45, Tryd.ntmps45
  go_wp2
  go_ret
  exact ⟨rfl, grown_alloc (grown_alloc (World.grownBy.refl _ _) _) _⟩

set_option maxHeartbeats 1000000 in
theorem toA1 (x y z : Int) (w : World) :
    Calls Tryd.prog 38 #[.agg #[.int .i64 x, .int .i64 y, .int .i64 z]] w fun e w' => e = .returned (.agg #[.int .i64 x, .int .i64 y, .int .i64 z]) ∧ w.grownBy w' none := by
  go_enter Tryd.func38, Tryd.ntmps38
  go_wp2
  go_returns
  exact ⟨by simp, grown_alloc (grown_alloc (grown_alloc (World.grownBy.refl _ _) _) _) _⟩

set_option maxHeartbeats 1000000 in
theorem markA (g n cap : Nat) (a : Option Addr) (zs : List Int) (k0 : Int) (w : World) (h : OwnI w 65 g a (n * 3) zs) (hn : n ≤ 4194304) (hk0 : 0 ≤ k0) (hk1 : k0 ≤ 16777216) :
    Calls Tryd.prog 31 #[.slice a n cap, .int .i64 k0] w fun e w' => e = .returned (.int .i64 (k0 + n * 3)) ∧ w.grownBy w' (tgt n g) ∧ OwnI w' 65 g a (n * 3) (marksI k0 (n * 3)) := by
  obtain ⟨hl, h⟩ := h
  by_cases h0 : n = 0
  · subst h0
    clear h
    go_enter Tryd.func31, Tryd.ntmps31
    go_wp2
    refine wp_loop_rounds 1 ?_
    rw [rounds_succ]
    go_wp2
    go_ret
    exact ⟨by simp, World.grownBy.refl _ _, OwnI.empty _ _ _ _⟩
  rcases h with h | ⟨off, rfl, h⟩
  · exact absurd h (by omega)
  have et : tgt n g = some g := if_neg h0
  rw [et]
  clear et
  go_enter Tryd.func31, Tryd.ntmps31
  go_wp2
  go_loopw [1, 5] (fun v i wr => ∃ k : Nat, k ≤ n ∧ i = .int .i64 k ∧ v = .int .i64 (k0 + k * 3) ∧ w.grownBy wr (some g) ∧ RowAt wr 65 g off (halfI zs k0 (k * 3))) (fun _ i _ => n - (intOf i).toNat)
  case atStart => exact ⟨0, Nat.zero_le _, rfl, by simp, World.grownBy.refl _ _, by rw [Nat.zero_mul, halfI_zero]; exact h⟩
  case round =>
    obtain ⟨k, hk, rfl, rfl, hg, hrow⟩ := hrel
    by_cases hlt : k < n
    · have hlen : (halfI zs k0 (k * 3)).length = n * 3 := by rw [halfI_len _ _ _ (by omega)]; omega
      obtain ⟨o0, hold0⟩ : ∃ x, wr.cell? ⟨g, off + k * 3, none⟩ = some (.int .i64 x) := ⟨_, hrow.cell (k * 3) (by omega)⟩
      obtain ⟨o1, hold1⟩ : ∃ x, wr.cell? ⟨g, off + k * 3 + 1, none⟩ = some (.int .i64 x) := ⟨_, hrow.cell (k * 3 + 1) (by omega)⟩
      obtain ⟨o2, hold2⟩ : ∃ x, wr.cell? ⟨g, off + k * 3 + 2, none⟩ = some (.int .i64 x) := ⟨_, hrow.cell (k * 3 + 2) (by omega)⟩
      have hf0 := hrow.free (off + k * 3)
      have hf1 := hrow.free (off + k * 3 + 1)
      have hf2 := hrow.free (off + k * 3 + 2)
      have s1 := hrow.store (k * 3) (k0 + ((k * 3 : Nat) : Int))
      rw [halfI_step _ _ _ (by omega)] at s1
      have s2 := s1.store (k * 3 + 1) (k0 + ((k * 3 + 1 : Nat) : Int))
      rw [halfI_step _ _ _ (by omega)] at s2
      have s3 := s2.store (k * 3 + 2) (k0 + ((k * 3 + 2 : Nat) : Int))
      rw [halfI_step _ _ _ (by omega)] at s3
      have e0 : k0 + ((k * 3 : Nat) : Int) = k0 + (k : Int) * 3 := by push_cast; omega
      have e1 : k0 + ((k * 3 + 1 : Nat) : Int) = k0 + (k : Int) * 3 + 1 := by push_cast; omega
      have e2 : k0 + ((k * 3 + 2 : Nat) : Int) = k0 + (k : Int) * 3 + 1 + 1 := by push_cast; omega
      have e3 : k * 3 + 2 + 1 = (k + 1) * 3 := by omega
      rw [e0, e1, e2, e3] at s3
      have HG : Hid (w.grownBy (((wr.setCell ⟨g, off + k * 3, none⟩ (.int .i64 (k0 + (k : Int) * 3))).setCell ⟨g, off + k * 3 + 1, none⟩ (.int .i64 (k0 + (k : Int) * 3 + 1))).setCell ⟨g, off + k * 3 + 2, none⟩ (.int .i64 (k0 + (k : Int) * 3 + 1 + 1))) (some g)) := grown_trans hg (grown_trans (grown_setCell _ _ _ _) (grown_trans (grown_setCell _ _ _ _) (grown_setCell _ _ _ _)))
      have HR : Hid (RowAt (((wr.setCell ⟨g, off + k * 3, none⟩ (.int .i64 (k0 + (k : Int) * 3))).setCell ⟨g, off + k * 3 + 1, none⟩ (.int .i64 (k0 + (k : Int) * 3 + 1))).setCell ⟨g, off + k * 3 + 2, none⟩ (.int .i64 (k0 + (k : Int) * 3 + 1 + 1))) 65 g off (halfI zs k0 ((k + 1) * 3))) := s3
      clear e0 e1 e2 e3
      clear h s1 s2 s3 hrow hlen
      go_wp2
      go_roundw
      case rel => exact ⟨k + 1, by omega, by go_num, by go_num, HG.out, HR.out⟩
      case measure => simp [intOf]; omega
    · obtain rfl : k = n := by omega
      go_wp2
      go_ret
      refine ⟨rfl, hg, marksI_len _ _, .inr ⟨off, rfl, ?_⟩⟩
      rw [← hl] at hrow ⊢
      rw [halfI_all] at hrow
      exact hrow

set_option maxHeartbeats 1000000 in
theorem heldA (a : Option Addr) (n cap : Nat) (k0 : Int) (w : World) (h : ReadsI w a (n * 3) (marksI k0 (n * 3))) (hn : n ≤ 4194304) (hk0 : 0 ≤ k0) (hk1 : k0 ≤ 16777216) :
    Calls Tryd.prog 33 #[.slice a n cap, .int .i64 k0] w fun e w' => e = .returned (.int .i64 (k0 + n * 3)) ∧ ∃ m, w' = w.drewN m := by
  obtain ⟨hl, h⟩ := h
  by_cases h0 : n = 0
  · subst h0
    clear h
    go_enter Tryd.func33, Tryd.ntmps33
    go_wp2
    refine wp_loop_rounds 1 ?_
    rw [rounds_succ]
    go_wp2
    go_ret
    exact ⟨by simp, 0, rfl⟩
  · rcases h with h | ⟨b, off, rfl, hc⟩
    · exact absurd h (by omega)
    go_enter Tryd.func33, Tryd.ntmps33
    go_wp2
    go_loopw [1, 5] (fun v i wr => ∃ k m : Nat, k ≤ n ∧ i = .int .i64 k ∧ v = .int .i64 (k0 + k * 3) ∧ wr = w.drewN m) (fun _ i _ => n - (intOf i).toNat)
    case atStart => exact ⟨0, 0, Nat.zero_le _, rfl, by simp, rfl⟩
    case round =>
      obtain ⟨k, m, hk, rfl, rfl, rfl⟩ := hrel
      by_cases hlt : k < n
      · have c1 : w.cell? ⟨b, off + k * 3, none⟩ = some (.int .i64 (k0 + (k : Int) * 3)) := by
          have := hc (k * 3) (by omega)
          rw [marksI_get k0 _ _ (by omega)] at this; rw [this]; simp
        have c2 : w.cell? ⟨b, off + k * 3 + 1, none⟩ = some (.int .i64 (k0 + (k : Int) * 3 + 1)) := by
          have := hc (k * 3 + 1) (by omega)
          rw [marksI_get k0 _ _ (by omega)] at this; rw [Nat.add_assoc, this]; congr 2; omega
        have c3 : w.cell? ⟨b, off + k * 3 + 2, none⟩ = some (.int .i64 (k0 + (k : Int) * 3 + 1 + 1)) := by
          have := hc (k * 3 + 2) (by omega)
          rw [marksI_get k0 _ _ (by omega)] at this; rw [Nat.add_assoc, this]; congr 2; omega
        clear hc hl
        go_wp2
        go_roundw
        case rel => exact ⟨k + 1, _, by omega, by go_num, by go_num, rfl⟩
        case measure => simp [intOf]; omega
      · obtain rfl : k = n := by omega
        go_wp2
        go_ret
        exact ⟨rfl, m, rfl⟩

/-- Three cells that are read at once. -/
theorem threeC {w : World} {b off n : Nat} {zs : List Int} (hc : ∀ i, i < n * 3 → w.cell? ⟨b, off + i, none⟩ = some (.int .i64 (zs.getD i 0))) (k : Nat) (hk : k < n) :
    w.cell? ⟨b, off + k * 3, none⟩ = some (.int .i64 (zs.getD (k * 3) 0)) ∧ w.cell? ⟨b, off + k * 3 + 1, none⟩ = some (.int .i64 (zs.getD (k * 3 + 1) 0)) ∧ w.cell? ⟨b, off + k * 3 + 2, none⟩ = some (.int .i64 (zs.getD (k * 3 + 2) 0)) :=
  ⟨hc _ (by omega), by rw [Nat.add_assoc]; exact hc _ (by omega), by rw [Nat.add_assoc]; exact hc _ (by omega)⟩

set_option maxHeartbeats 2000000 in
theorem eqA (a a' : Option Addr) (n cap cap' : Nat) (zs : List Int) (w : World) (h : ReadsI w a (n * 3) zs) (h' : ReadsI w a' (n * 3) zs) (hn : n ≤ 4194304) :
    Calls Tryd.prog 29 #[.slice a n cap, .slice a' n cap'] w fun e w' => e = .returned (.bool true) ∧ w.grownBy w' none := by
  obtain ⟨hl, h⟩ := h
  obtain ⟨-, h'⟩ := h'
  by_cases h0 : n = 0
  · subst h0
    clear h h'
    go_enter Tryd.func29, Tryd.ntmps29
    go_wp2
    refine wp_loop_rounds 1 ?_
    rw [rounds_succ]
    go_wp2
    go_ret
    exact ⟨rfl, World.grownBy.refl _ _⟩
  · rcases h with h | ⟨b, off, rfl, hc⟩
    · exact absurd h (by omega)
    rcases h' with h' | ⟨b', off', rfl, hc'⟩
    · exact absurd h' (by omega)
    go_enter Tryd.func29, Tryd.ntmps29
    go_wp2
    go_loopw [5] (fun i wr => ∃ k : Nat, k ≤ n ∧ i = .int .i64 k ∧ w.grownBy wr none) (fun i _ => n - (intOf i).toNat)
    case atStart => exact ⟨0, Nat.zero_le _, rfl, World.grownBy.refl _ _⟩
    case round =>
      obtain ⟨k, hk, rfl, hg⟩ := hrel
      by_cases hlt : k < n
      · obtain ⟨x0, x1, x2⟩ := threeC hc k hlt
        obtain ⟨y0, y1, y2⟩ := threeC hc' k hlt
        have x0 := hg.cell x0 (by simp)
        have x1 := hg.cell x1 (by simp)
        have x2 := hg.cell x2 (by simp)
        have y0 := hg.cell y0 (by simp)
        have y1 := hg.cell y1 (by simp)
        have y2 := hg.cell y2 (by simp)
        have hki : (k : Int) < (n : Int) := by omega
        generalize zs.getD (k * 3) 0 = p0 at *
        generalize zs.getD (k * 3 + 1) 0 = p1 at *
        generalize zs.getD (k * 3 + 2) 0 = p2 at *
        clear hc hc' hl
        have hG : Hid (w.grownBy wr none) := hg
        clear hg
        go_wp2
        go_region_with (go_at_call 45; refine (eqA1 p0 p1 p2 _).mono ?_; rintro e w1 ⟨rfl, hg1⟩; have hG1 : Hid (wr.grownBy w1 none) := grown_trans (by first | exact grown_drewN _ 1 _ | exact grown_drewN _ 2 _ | exact World.grownBy.refl _ _) hg1; clear hg1)
        all_goals go_wp2
        all_goals exact ⟨⟨k + 1, by omega, by go_num, grown_trans hG.out hG1.out⟩, by simp [intOf]; omega⟩
      · go_wp2
        go_ret
        exact ⟨rfl, hg⟩

theorem set3_step (zs : List Int) (n k : Nat) (hl : zs.length = n * 3) (hk : k < n) : (((zs.take (k * 3) ++ List.replicate (n * 3 - k * 3) 0).set (k * 3) (zs.getD (k * 3) 0)).set (k * 3 + 1) (zs.getD (k * 3 + 1) 0)).set (k * 3 + 2) (zs.getD (k * 3 + 2) 0) = zs.take ((k + 1) * 3) ++ List.replicate (n * 3 - (k + 1) * 3) 0 := by
  rw [set_step zs (n * 3) (k * 3) hl (by omega), set_step zs (n * 3) (k * 3 + 1) hl (by omega), set_step zs (n * 3) (k * 3 + 1 + 1) hl (by omega)]
  have e : k * 3 + 1 + 1 + 1 = (k + 1) * 3 := by omega
  rw [e]

set_option maxHeartbeats 2000000 in
theorem toA (a : Option Addr) (n cap : Nat) (zs : List Int) (w : World) (h : ReadsI w a (n * 3) zs) (hn : n ≤ 1048576) :
    Calls Tryd.prog 23 #[.slice a n cap] w fun e w' => ∃ g, e = .returned (.slice (some ⟨g, 0, none⟩) n n) ∧ w.grownBy w' none ∧ w.heap.size ≤ g ∧ RowI w' 65 g (n * 3) zs := by
  obtain ⟨hl, h⟩ := h
  have hmk := makeA n (by omega)
  have hr0 := madeA_row w (n * 3)
  by_cases h0 : n = 0
  · subst h0
    obtain rfl : zs = [] := List.eq_nil_of_length_eq_zero (by omega)
    clear hmk h
    have hmk := makeA0
    go_enter Tryd.func23, Tryd.ntmps23
    go_wp2
    refine wp_loop_rounds 1 ?_
    rw [rounds_succ]
    go_wp2
    go_ret
    exact ⟨_, rfl, World.grownBy_alloc _ _ _, Nat.le_refl _, hr0⟩
  · rcases h with h | ⟨b, off, rfl, hc⟩
    · exact absurd h (by omega)
    go_enter Tryd.func23, Tryd.ntmps23
    go_wp2
    go_loopw [4] (fun i wr => ∃ k : Nat, k ≤ n ∧ i = .int .i64 k ∧ w.grownBy wr none ∧ RowI wr 65 w.heap.size (n * 3) (zs.take (k * 3) ++ List.replicate (n * 3 - k * 3) 0)) (fun i _ => n - (intOf i).toNat)
    case atStart => exact ⟨0, Nat.zero_le _, rfl, World.grownBy_alloc _ _ _, by simpa using hr0⟩
    case round =>
      obtain ⟨k, hk, rfl, hg, hrow⟩ := hrel
      by_cases hlt : k < n
      · obtain ⟨x0, x1, x2⟩ := threeC hc k hlt
        have x0 := hg.cell x0 (by simp)
        have x1 := hg.cell x1 (by simp)
        have x2 := hg.cell x2 (by simp)
        have hst := set3_step zs n k hl hlt
        have hlen : (zs.take (k * 3) ++ List.replicate (n * 3 - k * 3) 0).length = n * 3 := by simp; omega
        generalize zs.getD (k * 3) 0 = p0 at *
        generalize zs.getD (k * 3 + 1) 0 = p1 at *
        generalize zs.getD (k * 3 + 2) 0 = p2 at *
        have HL : Hid ((zs.take (k * 3) ++ List.replicate (n * 3 - k * 3) 0).length = n * 3) := hlen
        have HS : Hid ((((zs.take (k * 3) ++ List.replicate (n * 3 - k * 3) 0).set (k * 3) p0).set (k * 3 + 1) p1).set (k * 3 + 2) p2 = zs.take ((k + 1) * 3) ++ List.replicate (n * 3 - (k + 1) * 3) 0) := hst
        have HR : Hid (RowI wr 65 w.heap.size (n * 3) (zs.take (k * 3) ++ List.replicate (n * 3 - k * 3) 0)) := hrow
        have HG : Hid (w.grownBy wr none) := hg
        clear hc hmk hr0 hst hlen hrow hg
        go_wp2_with fail
        refine (toA1 p0 p1 p2 _).mono ?_
        rintro e w1 ⟨rfl, hg1⟩
        have hrow := HR.out.kept hg1 (by simp)
        have hG := grown_trans HG.out hg1
        have hl' := HL.out
        obtain ⟨o0, hold0⟩ : ∃ x, w1.cell? ⟨w.heap.size, k * 3, none⟩ = some (.int .i64 x) := ⟨_, hrow.cell (k * 3) (by omega)⟩
        obtain ⟨o1, hold1⟩ : ∃ x, w1.cell? ⟨w.heap.size, k * 3 + 1, none⟩ = some (.int .i64 x) := ⟨_, hrow.cell (k * 3 + 1) (by omega)⟩
        obtain ⟨o2, hold2⟩ : ∃ x, w1.cell? ⟨w.heap.size, k * 3 + 2, none⟩ = some (.int .i64 x) := ⟨_, hrow.cell (k * 3 + 2) (by omega)⟩
        have hf0 := hrow.free (k * 3)
        have hf1 := hrow.free (k * 3 + 1)
        have hf2 := hrow.free (k * 3 + 2)
        have s3 := ((hrow.store (k * 3) p0).store (k * 3 + 1) p1).store (k * 3 + 2) p2
        rw [HS.out] at s3
        have HR' : Hid _ := s3
        have HG' : Hid _ := grown_own (grown_own (grown_own hG w.heap.size (Nat.le_refl _) (k * 3) (.int .i64 p0)) w.heap.size (Nat.le_refl _) (k * 3 + 1) (.int .i64 p1)) w.heap.size (Nat.le_refl _) (k * 3 + 2) (.int .i64 p2)
        clear s3 hrow hG hl' HR HL HS HG hg1
        simp only []
        go_wp2
        go_roundw
        case rel => exact ⟨k + 1, by omega, by go_num, HG'.out, HR'.out⟩
        case measure => simp [intOf]; omega
      · obtain rfl : k = n := by omega
        clear hmk hr0
        go_wp2
        go_ret
        exact ⟨_, rfl, hg, Nat.le_refl _, by simpa [List.take_of_length_le (Nat.le_of_eq hl)] using hrow⟩
end Go.Proofs.YtonmcndedbmbfabDoor.By
