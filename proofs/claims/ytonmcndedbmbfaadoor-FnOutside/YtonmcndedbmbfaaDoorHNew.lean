/-
  Contracts of HeapNew, the program's and the specification's, for this seat's proofs. No statement is proved here.
-/
import Derived.Test.YtonmcndedbmbfaaDoorHMark
namespace Go.Proofs.YtonmcndedbmbfaaDoor.By
open Go.RowKit
set_option linter.unusedVariables false

/-- What HeapNew answers: how many words, its half, and whether. -/
def NewIs (half : Int) (n : Nat) (hf : Int) (t : Bool) : Prop := (16 ≤ half ∧ half ≤ 4096 ∧ (n : Int) = 2 * half ∧ hf = half ∧ t = true) ∨ ((half < 16 ∨ 4096 < half) ∧ n = 0 ∧ hf = 0 ∧ t = false)
theorem newIs (half : Int) : ∃ n hf t, NewIs half n hf t ∧ n ≤ 8192 := by
  by_cases h : 16 ≤ half ∧ half ≤ 4096
  · exact ⟨(2 * half).toNat, half, true, .inl ⟨h.1, h.2, by omega, rfl, rfl⟩, by omega⟩
  · exact ⟨0, 0, false, .inr ⟨by omega, rfl, rfl, rfl⟩, by omega⟩

set_option maxHeartbeats 1000000 in
theorem newSpec (half hf : Int) (n : Nat) (t : Bool) (h : NewIs half n hf t) (w : World) :
    Calls Tryd.prog 32 #[.int .i64 half] w fun e w' => ∃ a g, e = .returned (.tuple #[.agg #[.slice a n n, .int .i64 hf, .int .i64 0, .int .i64 0, .slice none 0 0], .bool t]) ∧ w.grownBy w' none ∧ w.heap.size ≤ g ∧ g < w'.heap.size ∧ OwnI w' 3 g a n (List.replicate n 0) := by
  rcases h with ⟨h1, h2, h3, rfl, rfl⟩ | ⟨h1, rfl, rfl, rfl⟩
  · have hmk := fun v => makeI n (by omega) v
    rw [h3] at hmk
    have k1 : ¬ hf < 16 := by omega
    have k2 : ¬ 4096 < hf := by omega
    have R : ∀ (o : Obj), Hid (RowI ((w.alloc o).alloc (.cells (madeCells #[.int .i64 0] n) 3)) 3 (w.heap.size + 1) n (List.replicate n 0)) := fun o => by
      have := madeI_row (w.alloc o) n
      have e : (w.alloc o).heap.size = w.heap.size + 1 := by simp
      rw [e] at this; exact this
    go_enter Tryd.func32, Tryd.ntmps32
    go_wp2
    go_returns
    exact ⟨some ⟨w.heap.size + 1, 0, none⟩, by simp, grown_alloc (grown_alloc (World.grownBy.refl _ _) _) _, w.heap.size + 1, by omega, by simp, (R _).out.own (by simp)⟩
  · rcases h1 with h1 | h1
    · go_enter Tryd.func32, Tryd.ntmps32
      go_wp2
      go_returns
      first
        | exact ⟨none, w.heap.size, by simp, grown_alloc (World.grownBy.refl _ _) _, by omega, by simp, OwnI.empty _ _ _ _⟩
        | exact ⟨none, by first | rfl | simp, grown_alloc (World.grownBy.refl _ _) _, w.heap.size, by omega, by simp, OwnI.empty _ _ _ _⟩
    · have k1 : ¬ half < 16 := by omega
      go_enter Tryd.func32, Tryd.ntmps32
      go_wp2
      go_returns
      first
        | exact ⟨none, w.heap.size, by simp, grown_alloc (World.grownBy.refl _ _) _, by omega, by simp, OwnI.empty _ _ _ _⟩
        | exact ⟨none, by first | rfl | simp, grown_alloc (World.grownBy.refl _ _) _, w.heap.size, by omega, by simp, OwnI.empty _ _ _ _⟩

end Go.Proofs.YtonmcndedbmbfaaDoor.By
