/-
  The walk of the law FnExactGetNum, for bytes that read as ys. The statement is proved in the text that imports this one.
-/
import Derived.Test.YtjlehmpdfpefdagGetI
namespace Go.Proofs.Ytjlehmpdfpefdag.By
open Go.RowKit
set_option linter.unusedVariables false

set_option maxHeartbeats 2000000 in
theorem lawGetNum (a0 : Option Addr) (n cap : Nat) (ys : List Int) (p : Int) (w : World) (hr : Reads w a0 n ys) (hb : Byt ys) (hp : p ≤ 9223372036854775807) :
    Calls Try.prog 4 #[.slice a0 n cap, .int .i64 p] w fun e w' => e = .returned (.bool true) ∧ Below w.heap.size w w' := by
  by_cases hbig : 1048576 < n
  · clear hr hb
    go_enter Try.func4, Try.ntmps4
    go_wp2
    go_ret
    exact ⟨rfl, Below.refl _ _⟩
  have hn : n ≤ 1048576 := by omega
  obtain ⟨r1, r2, hR⟩ : ∃ r1 r2, getNum ys p = (r1, r2) := ⟨_, _, rfl⟩
  have HS : ∀ (a : Option Addr) (w : World), Reads w a n ys → Calls Try.prog 13 #[.slice a n n, .int .i64 p] w fun e w' => e = .returned (.tuple #[.int .i64 r1, .int .i64 r2]) ∧ ∃ m, w' = w.drewN m := by
    intro a w h; have := specGet a n n ys p w h hb (by omega) hp; rwa [hR] at this
  have HI : ∀ (a : Option Addr) (w : World), Reads w a n ys → Calls Try.prog 14 #[.slice a n n, .int .i64 p] w fun e w' => e = .returned (.tuple #[.int .i64 r1, .int .i64 r2]) ∧ ∃ m, w' = w.drewN m := by
    intro a w h; have := implGet a n n ys p w h hb (by omega) hp; rwa [hR] at this
  clear hR
  have hlen : ys.length = n := hr.1
  go_enter Try.func4, Try.ntmps4
  go_wp2_with (go_at_call 8; go_must (refine (toB a0 n cap ys w hr hn).mono ?_); rintro e w1 ⟨g1, rfl, hg1, hs1, hrow1⟩)
  refine (HS _ _ (hrow1.reads' hlen)).mono ?_
  rintro e w2 ⟨rfl, hq⟩
  have hg2 := quiet hq
  have hr2 := (hr.none hg1).none hg2
  clear hq
  go_wp2_with (go_at_call 8; go_must (refine (toB a0 n cap ys w2 hr2 hn).mono ?_); rintro e w3 ⟨g3, rfl, hg3, hs3, hrow3⟩)
  refine (HI _ _ (hrow3.reads' hlen)).mono ?_
  rintro e w4 ⟨rfl, hq⟩
  have hg4 := quiet hq
  have hr4 := (hr2.none hg3).none hg4
  clear hq HS HI
  go_wp2_with (go_at_call 8; go_must (refine (toB a0 n cap ys w4 hr4 hn).mono ?_); rintro e w5 ⟨g5, rfl, hg5, hs5, hrow5⟩)
  have hrow3' := (hrow3.kept hg4 (by simp)).kept hg5 (by simp)
  refine (eqT _ _ n n n ys w5 (hrow3'.reads' hlen) (hrow5.reads' hlen) (by omega)).mono ?_
  rintro e w6 ⟨rfl, hq⟩
  have hg6 := quiet hq
  go_wp2
  go_ret
  have hg := grown_trans (grown_trans (grown_trans (grown_trans (grown_trans hg1 hg2) hg3) hg4) hg5) hg6
  exact ⟨rfl, (Below.refl _ _).grown hg (Nat.le_refl _) (by simp)⟩
end Go.Proofs.Ytjlehmpdfpefdag.By
