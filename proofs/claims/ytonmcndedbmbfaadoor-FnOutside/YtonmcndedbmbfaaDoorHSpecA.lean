/-
  The contracts of the specification's Alloc, for this seat's proofs. No statement is proved here.
-/
import Derived.Test.YtonmcndedbmbfaaDoorHAlloc
import Derived.Test.YtonmcndedbmbfaaDoorHCopy
namespace Go.Proofs.YtonmcndedbmbfaaDoor.By
open Go.RowKit
set_option linter.unusedVariables false

set_option maxHeartbeats 2000000 in
theorem sallocNo (p : Nat) (half low next k : Int) (w : World) (c1 : w.cell? ⟨p, 1, none⟩ = some (.int .i64 half)) (c2 : w.cell? ⟨p, 2, none⟩ = some (.int .i64 low)) (c3 : w.cell? ⟨p, 3, none⟩ = some (.int .i64 next)) (b0 : 0 ≤ half) (b1 : half ≤ 4096) (b2 : 0 ≤ low) (b3 : low ≤ 4096) (b4 : 0 ≤ next) (b5 : next ≤ 8192)
    (h : refused half low next k) :
    Calls Tryd.prog 34 #[.pointer (some ⟨p, 0, none⟩), .int .i64 k] w fun e w' => e = .returned (.tuple #[.int .i64 0, .bool false]) ∧ ∃ q, w' = w.drewN q := by
  by_cases k1 : k < 1
  · clear h
    go_enter Tryd.func34, Tryd.ntmps34
    go_wp2
    go_quiet (fail)
    go_wp2
    go_ret2
    exact ⟨rfl, _, rfl⟩
  have q1 : decide (k < 1) = false := by simpa using k1
  by_cases k2 : 64 < k
  · clear h
    go_enter Tryd.func34, Tryd.ntmps34
    go_wp2
    go_quiet (fail)
    go_wp2
    go_ret2
    exact ⟨rfl, _, rfl⟩
  have q2 : decide (64 < k) = false := by simpa using k2
  have k3 : low + half - next < k := by rcases h with h | h | h <;> omega
  have e1 : IntKind.i64.wrap (low + half) = low + half := IntWalk.i64_in _ (by omega)
  have e2 : IntKind.i64.wrap (low + half - next) = low + half - next := IntWalk.i64_in _ (by omega)
  have q3 : decide (low + half - next < k) = true := by simpa using k3
  clear h
  go_enter Tryd.func34, Tryd.ntmps34
  go_wp2
  go_quiet (fail)
  go_wp2
  go_ret2
  exact ⟨rfl, _, rfl⟩

set_option maxHeartbeats 2000000 in
theorem sallocYes (p n m c d g off nx kk : Nat) (b : Option Addr) (half low : Int) (ws : List Int) (w : World)
    (hp : w.heap[p]? = some (.cells #[.slice (some ⟨g, off, none⟩) n c, .int .i64 half, .int .i64 low, .int .i64 (nx : Int), .slice b m d] 26 (0, 0)))
    (hr : RowAt w 3 g off ws) (hl : ws.length = n) (hc : n ≤ c) (hgp : g ≠ p) (b0 : 0 ≤ half) (b1 : half ≤ 4096) (b2 : 0 ≤ low) (b3 : low ≤ 4096) (b5 : nx ≤ 8192) (hn : n ≤ 8192) (hk1 : 1 ≤ kk) (hk2 : kk ≤ 64) (hk3 : (kk : Int) ≤ low + half - nx) (hfit : nx + kk ≤ n) :
    Calls Tryd.prog 34 #[.pointer (some ⟨p, 0, none⟩), .int .i64 (kk : Int)] w fun e w' => e = .returned (.tuple #[.int .i64 (nx : Int), .bool true]) ∧ w'.heap[p]? = some (.cells #[.slice (some ⟨g, off, none⟩) n c, .int .i64 half, .int .i64 low, .int .i64 ((nx : Int) + (kk : Int)), .slice b m d] 26 (0, 0)) ∧ RowAt w' 3 g off (zeroAt ws nx kk) ∧ ∃ w1, w.grownBy w1 (some g) ∧ w1.grownBy w' (some p) := by
  obtain ⟨⟨v0, v1, v2, v3, v4⟩, -⟩ := five hp
  have HP : Hid _ := And.intro hp hr
  have q1 : decide ((kk : Int) < 1) = false := by simp; omega
  have q2 : decide (64 < (kk : Int)) = false := by simp; omega
  have e1 : IntKind.i64.wrap (low + half) = low + half := IntWalk.i64_in _ (by omega)
  have e2 : IntKind.i64.wrap (low + half - (nx : Int)) = low + half - (nx : Int) := IntWalk.i64_in _ (by omega)
  have q3 : decide (low + half - (nx : Int) < (kk : Int)) = false := by simp; omega
  clear hp hr
  go_enter Tryd.func34, Tryd.ntmps34
  go_wp2
  go_quiet (fail)
  clear q1 q2 e1 e2 q3
  go_wp2
  obtain ⟨hp, hr⟩ := HP.out
  have gd := grown_drewN w nq none
  have hp := (gd.block p (lt_of_block hp) (by simp)).trans hp
  have hr := hr.kept gd (by simp)
  have G0 : w.grownBy (w.drewN nq) (some g) := grown_drewN w nq _
  clear v0 v1 v2 v3 v4 HP
  generalize w.drewN nq = u at *
  go_loopw [7] (fun i wr => ∃ k : Nat, k ≤ kk ∧ i = .int .i64 k ∧ u.grownBy wr (some g) ∧ RowAt wr 3 g off (zeroAt ws nx k)) (fun i _ => kk - (intOf i).toNat)
  case atStart => exact ⟨0, Nat.zero_le _, rfl, World.grownBy.refl _ _, hr⟩
  case round =>
    obtain ⟨k, hk, rfl, hg, hrow⟩ := hrel
    have hpw := (hg.block p (lt_of_block hp) (by simp; omega)).trans hp
    obtain ⟨⟨v0, v1, v2, v3, v4⟩, f0, f1, f2, f3, f4⟩ := five hpw
    by_cases hlt : k < kk
    · have hco := hrow.cell (nx + k) (by rw [zeroAt_len]; omega)
      have hfr := hrow.free (off + (nx + k))
      have hst := hrow.store (nx + k) 0
      rw [← zeroAt_snoc] at hst
      have HR : Hid (RowAt (wr.setCell ⟨g, off + (nx + k), none⟩ (.int .i64 0)) 3 g off (zeroAt ws nx (k + 1))) := hst
      have HG : Hid (u.grownBy (wr.setCell ⟨g, off + (nx + k), none⟩ (.int .i64 0)) (some g)) := grown_trans hg (grown_setCell _ _ _ _)
      obtain ⟨old, hold⟩ : ∃ x, wr.cell? ⟨g, off + (nx + k), none⟩ = some (.int .i64 x) := ⟨_, hco⟩
      have i1 : (nx : Int) + (k : Int) < (n : Int) := by omega
      have i2 : ((nx : Int) + (k : Int)).toNat = nx + k := by omega
      clear hst hrow hco hpw hp hr hg
      go_wp2
      go_roundw
      case rel => exact ⟨k + 1, by omega, by go_num, HG.out, HR.out⟩
      case measure => simp [intOf]; omega
    · obtain rfl : k = kk := by omega
      have kg := grown_setCell wr p 3 (.int .i64 ((nx : Int) + (k : Int)))
      have hp' := heap_setCell_same wr p 3 _ 26 (.int .i64 ((nx : Int) + (k : Int))) hpw
      have FIN : Hid _ := And.intro hp' (And.intro (hrow.kept kg (by simp; omega)) (And.intro (grown_trans G0 hg) kg))
      clear hp' kg hpw hp hr hg hrow
      go_wp2
      go_ret2
      obtain ⟨z1, z2, z3, z4⟩ := FIN.out
      exact ⟨rfl, z1, z2, _, z3, z4⟩

end Go.Proofs.YtonmcndedbmbfaaDoor.By
