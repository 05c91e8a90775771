/-
  Plain facts for this seat's proofs: lists of trees (each has a kind, a number and a list of trees), how they lie in a world, and that they are owned. No statement is proved here.
-/
import Derived.Test.YtpmndefmibnaeaaDoorHBase
namespace Go.Proofs.YtpmndefmibnaeaaDoor.By
open Go.RowKit

/-- A list of trees: the first one's kind, number and list, and the others. -/
inductive F : Type
  | nil : F
  | cons (k n : Int) (kids rest : F) : F
def F.len : F → Nat
  | .nil => 0
  | .cons _ _ _ r => r.len + 1
/-- How many trees in all. -/
def F.size : F → Nat
  | .nil => 0
  | .cons _ _ d r => 1 + d.size + r.size
def F.app : F → F → F
  | .nil, g => g
  | .cons k n d r, g => .cons k n d (r.app g)
theorem F.app_nil (f : F) : f.app .nil = f := by
  induction f with
  | nil => rfl
  | cons k n d r _ ih => simp [F.app, ih]
theorem F.app_assoc (f g h : F) : (f.app g).app h = f.app (g.app h) := by
  induction f with
  | nil => rfl
  | cons k n d r _ ih => simp [F.app, ih]
theorem F.app_len (f g : F) : (f.app g).len = f.len + g.len := by
  induction f with
  | nil => simp [F.app, F.len]
  | cons k n d r _ ih => simp [F.app, F.len, ih]; omega
theorem F.app_size (f g : F) : (f.app g).size = f.size + g.size := by
  induction f with
  | nil => simp [F.app, F.size]
  | cons k n d r _ ih => simp [F.app, F.size, ih]; omega
theorem F.len_le (f : F) : f.len ≤ f.size := by
  induction f with
  | nil => simp [F.len, F.size]
  | cons k n d r _ ih => simp [F.len, F.size]; omega
theorem F.nil_of_len {f : F} (h : f.len = 0) : f = .nil := by
  cases f with
  | nil => rfl
  | cons k n d r => simp [F.len] at h
theorem F.cons_of_len {f : F} {m : Nat} (h : f.len = m + 1) : ∃ k n d r, f = .cons k n d r ∧ r.len = m := by
  cases f with
  | nil => simp [F.len] at h
  | cons k n d r => exact ⟨k, n, d, r, rfl, by simpa [F.len] using h⟩

/-- The list lies in the world from cell off of block b on, three cells a tree. -/
def InF (w : World) : F → Nat → Nat → Prop
  | .nil, _, _ => True
  | .cons k n d r, b, off => (∃ a l c, w.cell? ⟨b, off, none⟩ = some (.int .i64 k) ∧ w.cell? ⟨b, off + 1, none⟩ = some (.int .i64 n) ∧ w.cell? ⟨b, off + 2, none⟩ = some (.slice a l c) ∧ d.len = l ∧ l ≤ 9223372036854775807 ∧ (l = 0 ∨ ∃ b' o', a = some ⟨b', o', none⟩ ∧ InF w d b' o')) ∧ InF w r b (off + 3)
/-- A slice of l elements at a reads f. -/
def SlF (w : World) (a : Option Addr) (l : Nat) (f : F) : Prop :=
  f.len = l ∧ l ≤ 9223372036854775807 ∧ (l = 0 ∨ ∃ b o, a = some ⟨b, o, none⟩ ∧ InF w f b o)
theorem InF.out {w : World} {k n : Int} {d r : F} {b off : Nat} (h : InF w (.cons k n d r) b off) :
    ∃ a l c, w.cell? ⟨b, off, none⟩ = some (.int .i64 k) ∧ w.cell? ⟨b, off + 1, none⟩ = some (.int .i64 n) ∧ w.cell? ⟨b, off + 2, none⟩ = some (.slice a l c) ∧ SlF w a l d ∧ InF w r b (off + 3) := by
  obtain ⟨⟨a, l, c, h0, h1, h2, h3⟩, hr⟩ := h
  exact ⟨a, l, c, h0, h1, h2, h3, hr⟩
theorem InF.mk {w : World} {k n : Int} {d r : F} {b off : Nat} {a : Option Addr} {l c : Nat} (h0 : w.cell? ⟨b, off, none⟩ = some (.int .i64 k)) (h1 : w.cell? ⟨b, off + 1, none⟩ = some (.int .i64 n)) (h2 : w.cell? ⟨b, off + 2, none⟩ = some (.slice a l c)) (h3 : SlF w a l d) (h4 : InF w r b (off + 3)) : InF w (.cons k n d r) b off :=
  ⟨⟨a, l, c, h0, h1, h2, h3⟩, h4⟩
theorem InF.cells {w w' : World} {f : F} {b off : Nat} (h : InF w f b off) (hc : ∀ p v, w.cell? p = some v → w'.cell? p = some v) : InF w' f b off := by
  induction f generalizing b off with
  | nil => trivial
  | cons k n d r ihd ihr =>
    obtain ⟨⟨a, l, c, h0, h1, h2, h3, h4, h5⟩, hr⟩ := h
    refine ⟨⟨a, l, c, hc _ _ h0, hc _ _ h1, hc _ _ h2, h3, h4, ?_⟩, ihr hr⟩
    rcases h5 with h5 | ⟨b', o', e, h5⟩
    · exact .inl h5
    · exact .inr ⟨b', o', e, ihd h5⟩
theorem InF.none {w w' : World} {f : F} {b off : Nat} (h : InF w f b off) (hg : w.grownBy w' Option.none) : InF w' f b off :=
  h.cells fun _ _ hv => hg.cell hv (by simp)
theorem SlF.none {w w' : World} {f : F} {a : Option Addr} {l : Nat} (h : SlF w a l f) (hg : w.grownBy w' Option.none) : SlF w' a l f := by
  obtain ⟨h1, h2, h3⟩ := h
  refine ⟨h1, h2, ?_⟩
  rcases h3 with h3 | ⟨b, o, e, h3⟩
  · exact .inl h3
  · exact .inr ⟨b, o, e, h3.none hg⟩
/-- Either there is none, or the slice has a place. -/
theorem SlF.cases {w : World} {f : F} {a : Option Addr} {l : Nat} (h : SlF w a l f) : (l = 0 ∧ f = .nil) ∨ ∃ b o, a = some ⟨b, o, Option.none⟩ ∧ InF w f b o ∧ f.len = l ∧ 0 < l := by
  obtain ⟨h1, h2, h3⟩ := h
  by_cases h0 : l = 0
  · subst h0; exact .inl ⟨rfl, F.nil_of_len h1⟩
  · rcases h3 with h3 | ⟨b, o, e, h3⟩
    · exact absurd h3 h0
    · exact .inr ⟨b, o, e, h3, h1, by omega⟩
/-- The three cells of a block of three. -/
theorem three {w : World} {g : Nat} {t : TypeId} {c0 c1 c2 : Value} (h : w.heap[g]? = some (.cells #[c0, c1, c2] t (0, 0))) :
    (w.cell? ⟨g, 0, none⟩ = some c0 ∧ w.cell? ⟨g, 1, none⟩ = some c1 ∧ w.cell? ⟨g, 2, none⟩ = some c2) ∧ (w.frozen? ⟨g, 0, none⟩ = false ∧ w.frozen? ⟨g, 1, none⟩ = false ∧ w.frozen? ⟨g, 2, none⟩ = false) := by
  refine ⟨⟨?_, ?_, ?_⟩, frozen_of_row w g _ _ t h, frozen_of_row w g _ _ t h, frozen_of_row w g _ _ t h⟩ <;> (rw [cell_of_row w g _ _ t (0, 0) h]; rfl)
theorem alloc2_blocks (w : World) (A B : Obj) : ((w.alloc A).alloc B).heap[w.heap.size]? = some A ∧ ((w.alloc A).alloc B).heap[w.heap.size + 1]? = some B ∧ ((w.alloc A).alloc B).heap.size = w.heap.size + 1 + 1 := by
  have e1 : (w.alloc A).heap.size = w.heap.size + 1 := by simp
  refine ⟨?_, ?_, by simp⟩
  · rw [heap_alloc_old _ _ (by omega)]; exact heap_alloc_new w A
  · have := heap_alloc_new (w.alloc A) B; rw [e1] at this; exact this
theorem fill3 {w : World} {p : Nat} {t : TypeId} {c0 c1 c2 : Value} (v0 v1 v2 : Value) (h : w.heap[p]? = some (.cells #[c0, c1, c2] t (0, 0))) :
    (((w.setCell ⟨p, 0, none⟩ v0).setCell ⟨p, 1, none⟩ v1).setCell ⟨p, 2, none⟩ v2).heap[p]? = some (.cells #[v0, v1, v2] t (0, 0)) ∧ w.grownBy (((w.setCell ⟨p, 0, none⟩ v0).setCell ⟨p, 1, none⟩ v1).setCell ⟨p, 2, none⟩ v2) (some p) :=
  ⟨heap_setCell_same _ p 2 _ t _ (heap_setCell_same _ p 1 _ t _ (heap_setCell_same w p 0 _ t _ h)), grown_trans (grown_trans (grown_setCell _ _ _ _) (grown_setCell _ _ _ _)) (grown_setCell _ _ _ _)⟩
end Go.Proofs.YtpmndefmibnaeaaDoor.By
