/-
  spec.Resolve by its contract; what both sides answer, in one form. No statement is proved here.
-/
import Derived.Test.YtmlganaiajhjeaaUL
namespace Go.Proofs.Ytmlganaiajhjeaa.By
open Go.RowKit
set_option linter.unusedVariables false
set_option linter.unusedSimpArgs false

/-- One form for both ends. -/
def ResA (w : World) (tb : Bool) (r : Int × Int × F) (e : Ending) (u : World) : Prop :=
  ∃ (a' : Option Addr) (l' c' : Nat) (bs : List Nat), e = .returned (.tuple #[.agg #[.int .i64 r.1, .int .i64 r.2.1, .slice a' l' c'], .bool tb]) ∧ w.grownBy u none ∧ New w u 25 a' l' c' r.2.2 bs
theorem RsA.res {w u : World} {f : B} {k n : Int} {d : F} {e : Ending} (h : RsA w (resOk f k n d) (rsT f (k, n, d)) e u) : ResA w (resOk f k n d) (resV f k n d) e u := by
  obtain ⟨hg, he⟩ := h
  unfold resV
  by_cases hb : resOk f k n d = true
  · rw [if_pos hb] at he ⊢
    obtain ⟨a', c', bs, rfl, hN, _⟩ := he
    exact ⟨a', _, c', bs, by rw [hb], hg, hN⟩
  · rw [if_neg hb] at he ⊢
    subst he
    exact ⟨none, 0, 0, [], by rw [Bool.eq_false_iff.2 hb], hg, New.nil _ _ _⟩
theorem resV_size (f : B) (k n : Int) (d : F) : (resV f k n d).2.2.size ≤ 60 := by
  unfold resV
  by_cases h : resOk f k n d = true
  · rw [if_pos h]
    simp only [resOk, wOk, Bool.and_eq_true, decide_eq_true_eq] at h
    omega
  · rw [if_neg h]; simp [F.size]
end Go.Proofs.Ytmlganaiajhjeaa.By
