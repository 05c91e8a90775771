/-
  Contracts of the law's own marks on whole heaps, for this seat's proofs. No statement is proved here.
-/
import Derived.Test.YtonmcndedbmbfaaDoorHHeap
namespace Go.Proofs.YtonmcndedbmbfaaDoor.By
open Go.RowKit
set_option linter.unusedVariables false

/-- Of what was there the block g (if n is not 0) and the block g' (if m is not 0) alone may have turned. -/
def Turn (w w' : World) (n g m g' : Nat) : Prop := ∃ wa wb, w.grownBy wa none ∧ wa.grownBy wb (tgt n g) ∧ wb.grownBy w' (tgt m g')
theorem Turn.block {w w' : World} {n g m g' : Nat} (h : Turn w w' n g m g') (k : Nat) (hk : k < w.heap.size) (h1 : n = 0 ∨ k ≠ g) (h2 : m = 0 ∨ k ≠ g') : w'.heap[k]? = w.heap[k]? := by
  obtain ⟨wa, wb, ha, hb, hc⟩ := h
  have s1 := ha.size
  have s2 := hb.size
  exact (hc.block k (by omega) (tgt_ne h2)).trans ((hb.block k (by omega) (tgt_ne h1)).trans (ha.block k hk (by simp)))
theorem Turn.size {w w' : World} {n g m g' : Nat} (h : Turn w w' n g m g') : w.heap.size ≤ w'.heap.size := by
  obtain ⟨wa, wb, ha, hb, hc⟩ := h
  exact Nat.le_trans ha.size (Nat.le_trans hb.size hc.size)
theorem grown_tgt {a w w' : World} {n g : Nat} (h : a.grownBy w none) (k : w.grownBy w' (tgt n g)) (hp : a.heap.size ≤ g) : a.grownBy w' none := by
  unfold tgt at k
  split at k
  · exact grown_trans h k
  · exact grown_into h k hp
theorem Turn.grown {w w' v : World} {n g m g' : Nat} (h : Turn w w' n g m g') (hv : v.grownBy w none) (h1 : v.heap.size ≤ g) (h2 : v.heap.size ≤ g') : v.grownBy w' none := by
  obtain ⟨wa, wb, ha, hb, hc⟩ := h
  exact grown_tgt (grown_tgt (grown_trans hv ha) hb h1) hc h2
theorem Turn.own {w w' : World} {n g m g' : Nat} (h : Turn w w' n g m g') {t : TypeId} {r k : Nat} {a : Option Addr} {zs : List Int} (o : OwnI w t r a k zs) (h1 : n = 0 ∨ r ≠ g) (h2 : m = 0 ∨ r ≠ g') : OwnI w' t r a k zs := by
  obtain ⟨wa, wb, ha, hb, hc⟩ := h
  exact ((o.kept ha (by simp)).kept hb (tgt_ne h1)).kept hc (tgt_ne h2)

end Go.Proofs.YtonmcndedbmbfaaDoor.By
