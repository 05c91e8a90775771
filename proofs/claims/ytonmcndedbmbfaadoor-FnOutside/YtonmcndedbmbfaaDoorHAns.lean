/-
  What a function on heaps answers, in one form for the program and for the specification. No statement is proved here.
-/
import Derived.Test.YtonmcndedbmbfaaDoorHSpecA
import Derived.Test.YtonmcndedbmbfaaDoorHMark
namespace Go.Proofs.YtonmcndedbmbfaaDoor.By
open Go.RowKit
set_option linter.unusedVariables false

/-- Function f, called with a heap that reads so and with xs, answers a heap of its own that reads so, and rs. -/
def Ans (f : Nat) (xs : List Value) (n m : Nat) (half low next : Int) (ws ls : List Int) (n' m' : Nat) (half' low' next' : Int) (ws' ls' : List Int) (rs : List Value) (gl : Nat) (er : Addr) : Prop :=
  ∀ (a b : Option Addr) (c d : Nat) (w : World), ReadsI w a n ws → ReadsI w b (m * 3) ls → (a = none → c = 0) → (b = none → d = 0) → w.cell? ⟨gl, 0, none⟩ = some (.iface 97 (.pointer (some er))) →
    Calls Tryd.prog f (Value.agg #[.slice a n c, .int .i64 half, .int .i64 low, .int .i64 next, .slice b m d] :: xs).toArray w fun e w' => ∃ a' b' c' d' g g', e = .returned (.tuple (Value.agg #[.slice a' n' c', .int .i64 half', .int .i64 low', .int .i64 next', .slice b' m' d'] :: rs).toArray) ∧ w.grownBy w' none ∧ w.heap.size ≤ g ∧ w.heap.size ≤ g' ∧ (n' = 0 ∨ m' = 0 ∨ g ≠ g') ∧ OwnI w' 3 g a' n' ws' ∧ OwnI w' 59 g' b' (m' * 3) ls'

theorem Turn.own0 {w w' : World} {n g m g' : Nat} (h : Turn w w' n g m g') {t : TypeId} {r k : Nat} {a : Option Addr} {zs : List Int} (o : OwnI w t r a k zs) (h1 : k = 0 ∨ ((n = 0 ∨ r ≠ g) ∧ (m = 0 ∨ r ≠ g'))) : OwnI w' t r a k zs := by
  rcases h1 with h1 | ⟨h1, h2⟩
  · exact ⟨o.1, .inl h1⟩
  · exact h.own o h1 h2
theorem blk {w w' : World} {p : Nat} {o : Obj} (k : w.grownBy w' none) (h : w.heap[p]? = some o) : w'.heap[p]? = some o := (k.block p (lt_of_block h) (by simp)).trans h

end Go.Proofs.YtonmcndedbmbfaaDoor.By
