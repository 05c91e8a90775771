/-
  The contracts of touch, load, store and of the specification's l2in, l2load, l2store, for this seat's proofs. No statement is proved here.
-/
import Derived.Test.YtonmcndedbmbfaaDoorHNote
import Derived.Test.YtonmcndedbmbfaaDoorHTake
namespace Go.Proofs.YtonmcndedbmbfaaDoor.By
open Go.RowKit
set_option linter.unusedVariables false
set_option linter.unusedSimpArgs false

/-- Whether a place is within what was taken. -/
def inB (low next t o : Int) : Bool := decide (low ≤ t) && decide (t < next) && decide (0 ≤ o) && decide (o < next - t)
theorem inB_out {low next t o : Int} (h : inB low next t o = true) : low ≤ t ∧ t < next ∧ 0 ≤ o ∧ o < next - t := by
  simp only [inB, Bool.and_eq_true, decide_eq_true_eq] at h
  obtain ⟨⟨⟨h1, h2⟩, h3⟩, h4⟩ := h
  exact ⟨h1, h2, h3, h4⟩

set_option maxHeartbeats 2000000 in
theorem touchNo (p : Nat) (low next t o : Int) (er : Addr) (w : World) (c2 : w.cell? ⟨p, 2, none⟩ = some (.int .i64 low)) (c3 : w.cell? ⟨p, 3, none⟩ = some (.int .i64 next)) (b2 : 0 ≤ low) (b5 : next ≤ 8192)
    (he : w.cell? ⟨1, 0, none⟩ = some (.iface 97 (.pointer (some er)))) (h : inB low next t o = false) :
    Calls Tryd.prog 42 #[.pointer (some ⟨p, 0, none⟩), .int .i64 t, .int .i64 o] w fun e w' => e = .returned (.tuple #[.pointer none, .iface 97 (.pointer (some er))]) ∧ ∃ q, w' = w.drewN q := by
  by_cases k1 : t < low
  · clear h
    go_enter Tryd.func42, Tryd.ntmps42
    go_wp2
    go_quiet (fail)
    go_wp2
    go_ret2
    exact ⟨rfl, _, rfl⟩
  by_cases k2 : next ≤ t
  · clear h
    go_enter Tryd.func42, Tryd.ntmps42
    go_wp2
    go_quiet (fail)
    go_wp2
    go_ret2
    exact ⟨rfl, _, rfl⟩
  by_cases k3 : o < 0
  · clear h
    go_enter Tryd.func42, Tryd.ntmps42
    go_wp2
    go_quiet (fail)
    go_wp2
    go_ret2
    exact ⟨rfl, _, rfl⟩
  have k4 : next - t ≤ o := by
    simp only [inB, Bool.and_eq_false_iff, decide_eq_false_iff_not] at h
    omega
  clear h
  go_enter Tryd.func42, Tryd.ntmps42
  go_wp2
  go_quiet (fail)
  go_wp2
  go_ret2
  exact ⟨rfl, _, rfl⟩

set_option maxHeartbeats 2000000 in
theorem touchYes (p n m c d g g' off t o : Nat) (b : Option Addr) (half low next : Int) (ls : List Int) (w : World) (hp : w.heap[p]? = some (.cells #[.slice (some ⟨g, off, none⟩) n c, .int .i64 half, .int .i64 low, .int .i64 next, .slice b m d] 26 (0, 0))) (hl : LogI w 59 g' b m d ls) (hm : m ≤ 4000) (hgp : g' ≠ p)
    (b2 : 0 ≤ low) (b5 : next ≤ 8192) (h : inB low next t o = true) (hn : t + o < n) :
    Calls Tryd.prog 42 #[.pointer (some ⟨p, 0, none⟩), .int .i64 (t : Int), .int .i64 (o : Int)] w fun e w' => e = .returned (.tuple #[.pointer (some ⟨g, off + (t + o), none⟩), .nilIface]) ∧ ∃ b' d' g'', w'.heap[p]? = some (.cells #[.slice (some ⟨g, off, none⟩) n c, .int .i64 half, .int .i64 low, .int .i64 next, .slice b' (pushM m) d'] 26 (0, 0)) ∧ LogI w' 59 g'' b' (pushM m) d' (pushL m ls ((t : Int) + (o : Int)) low next) ∧ (g'' = g' ∨ w.heap.size ≤ g'') ∧ Turns w w' p g' := by
  obtain ⟨k1, k2, k3, k4⟩ := inB_out h
  obtain ⟨⟨v0, v1, v2, v3, v4⟩, -⟩ := five hp
  have HP : Hid _ := And.intro hp hl
  have q1 : ¬ ((t : Int) < low) := by omega
  have q2 : ¬ (next ≤ (t : Int)) := by omega
  have q3 : ¬ ((o : Int) < 0) := by omega
  have q4 : ¬ (next - (t : Int) ≤ (o : Int)) := by omega
  clear hp hl h k1 k3
  go_enter Tryd.func42, Tryd.ntmps42
  go_wp2_with fail
  obtain ⟨hp, hl⟩ := HP.out
  refine (noteT p n m c d g' (some ⟨g, off, none⟩) b half low next ((t : Int) + (o : Int)) ls w hp hl hm hgp).mono ?_
  rintro e u ⟨rfl, b', d', g'', hp', hl', hg'', T⟩
  have FIN : Hid _ := And.intro hp' (And.intro hl' (And.intro hg'' T))
  clear v0 v1 v2 v3 v4
  obtain ⟨⟨v0, v1, v2, v3, v4⟩, -⟩ := five hp'
  have i1 : (t : Int) + (o : Int) < (n : Int) := by omega
  have i2 : ((t : Int) + (o : Int)).toNat = t + o := by omega
  clear HP hp hl hp' hl' hg'' T q1 q2 q3 q4
  simp only []
  go_wp2
  go_ret2
  exact ⟨rfl, b', d', g'', FIN.out⟩
end Go.Proofs.YtonmcndedbmbfaaDoor.By
