/-
  What a function on heaps answers, in one form for the program and for the specification. No statement is proved here.
-/
import Derived.Test.YtonmcndedbmbfabDoorHSpecA
import Derived.Test.YtonmcndedbmbfabDoorHMark
namespace Go.Proofs.YtonmcndedbmbfabDoor.By
open Go.RowKit
set_option linter.unusedVariables false

/-- Function f, called with a heap that reads so and with xs, answers a heap of its own that reads so, and rs. -/
def Ans (f : Nat) (xs : List Value) (n m : Nat) (half low next : Int) (ws ls : List Int) (n' m' : Nat) (half' low' next' : Int) (ws' ls' : List Int) (rs : List Value) (gl : Nat) (er : Addr) : Prop :=
  ∀ (a b : Option Addr) (c d : Nat) (w : World), ReadsI w a n ws → ReadsI w b (m * 3) ls → (a = none → c = 0) → (b = none → d = 0) → w.cell? ⟨gl, 0, none⟩ = some (.iface 93 (.pointer (some er))) →
    Calls Tryd.prog f (Value.agg #[.slice a n c, .int .i64 half, .int .i64 low, .int .i64 next, .slice b m d] :: xs).toArray w fun e w' => ∃ a' b' c' d' g g', e = .returned (.tuple (Value.agg #[.slice a' n' c', .int .i64 half', .int .i64 low', .int .i64 next', .slice b' m' d'] :: rs).toArray) ∧ w.grownBy w' none ∧ w.heap.size ≤ g ∧ w.heap.size ≤ g' ∧ (n' = 0 ∨ m' = 0 ∨ g ≠ g') ∧ OwnI w' 3 g a' n' ws' ∧ OwnI w' 65 g' b' (m' * 3) ls'

theorem Turn.own0 {w w' : World} {n g m g' : Nat} (h : Turn w w' n g m g') {t : TypeId} {r k : Nat} {a : Option Addr} {zs : List Int} (o : OwnI w t r a k zs) (h1 : k = 0 ∨ ((n = 0 ∨ r ≠ g) ∧ (m = 0 ∨ r ≠ g'))) : OwnI w' t r a k zs := by
  rcases h1 with h1 | ⟨h1, h2⟩
  · exact ⟨o.1, .inl h1⟩
  · exact h.own o h1 h2
theorem blk {w w' : World} {p : Nat} {o : Obj} (k : w.grownBy w' none) (h : w.heap[p]? = some o) : w'.heap[p]? = some o := (k.block p (lt_of_block h) (by simp)).trans h

/-- The program and the specification answer Alloc alike. -/
theorem ansAlloc (n m : Nat) (half low next k : Int) (ws ls : List Int) (er : Addr) (hn : n ≤ 1048576) (hm : m ≤ 1048576) (hwl : ws.length = n) :
    ∃ n' m' half' low' next' ws' ls' p t, Ans 9 [.int .i64 k] n m half low next ws ls n' m' half' low' next' ws' ls' [.int .i64 p, .bool t] 0 er ∧ Ans 7 [.int .i64 k] n m half low next ws ls n' m' half' low' next' ws' ls' [.int .i64 p, .bool t] 0 er ∧ n' ≤ 1048576 ∧ m' ≤ 1048576 := by
  cases hok : okB half n low next m with
  | false =>
    refine ⟨0, 0, 0, 0, 0, [], [], 0, false, ?_, ?_, by omega, by omega⟩
    · intro a b c d w h1 h2 ha hb he
      refine (implAlloc0 n m c d a b half low next k w hok).mono ?_
      rintro e w' ⟨rfl, hg⟩
      exact ⟨none, none, 0, 0, w.heap.size, w.heap.size, rfl, hg, Nat.le_refl _, Nat.le_refl _, .inl rfl, ⟨rfl, .inl rfl⟩, ⟨rfl, .inl rfl⟩⟩
    · intro a b c d w h1 h2 ha hb he
      refine (specAlloc0 n m c d a b half low next k w hok).mono ?_
      rintro e w' ⟨rfl, hg⟩
      exact ⟨none, none, 0, 0, w.heap.size, w.heap.size, rfl, hg, Nat.le_refl _, Nat.le_refl _, .inl rfl, ⟨rfl, .inl rfl⟩, ⟨rfl, .inl rfl⟩⟩
  | true =>
    by_cases hk : refused half low next k
    · refine ⟨n, m, half, low, next, ws, ls, 0, false, ?_, ?_, hn, hm⟩
      · intro a b c d w h1 h2 ha hb he
        exact implAlloc1 n m c d a b half low next k ws ls er w hok hk h1 h2 ha hb he
      · intro a b c d w h1 h2 ha hb he
        exact specAlloc1 n m c d a b half low next k ws ls w hok hk h1 h2 ha hb
    · obtain ⟨k1, k2, k3, k4, k5, k6, k7⟩ := okB_out hok
      obtain ⟨nx, rfl⟩ : ∃ nx : Nat, next = (nx : Int) := ⟨next.toNat, by omega⟩
      obtain ⟨kk, rfl⟩ : ∃ kk : Nat, k = (kk : Int) := ⟨k.toNat, by unfold refused at hk; omega⟩
      refine ⟨n, m, half, low, (nx : Int) + (kk : Int), zeroAt ws nx kk, ls, nx, true, ?_, ?_, hn, hm⟩
      · intro a b c d w h1 h2 ha hb he
        exact implAlloc2 n m c d nx kk a b half low ws ls er w hok hk h1 h2 ha hb he
      · intro a b c d w h1 h2 ha hb he
        exact specAlloc2 n m c d nx kk a b half low ws ls w hok hk h1 h2 ha hb
end Go.Proofs.YtonmcndedbmbfabDoor.By
