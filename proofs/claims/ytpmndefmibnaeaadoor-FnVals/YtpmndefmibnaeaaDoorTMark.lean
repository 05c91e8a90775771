/-
  Marks on trees that are our own, and that they are held. No statement is proved here.
-/
import Derived.Test.YtpmndefmibnaeaaDoorTHelp
import Derived.Test.YtpmndefmibnaeaaDoorTOwn
namespace Go.Proofs.YtpmndefmibnaeaaDoor.By
open Go.RowKit
set_option linter.unusedVariables false

/-- Nothing that was there has turned but the blocks bs. -/
structure Tn (w u : World) (bs : List Nat) : Prop where
  os : u.os = w.os
  tape : u.tape = w.tape
  output : u.output = w.output
  size : w.heap.size ≤ u.heap.size
  block : ∀ i, i < w.heap.size → i ∉ bs → u.heap[i]? = w.heap[i]?
theorem Tn.refl (w : World) (bs : List Nat) : Tn w w bs := ⟨rfl, rfl, rfl, Nat.le_refl _, fun _ _ _ => rfl⟩
theorem Tn.trans {a b c : World} {bs : List Nat} (h : Tn a b bs) (k : Tn b c bs) : Tn a c bs :=
  ⟨k.os.trans h.os, k.tape.trans h.tape, k.output.trans h.output, Nat.le_trans h.size k.size, fun i hi hn => (k.block i (Nat.lt_of_lt_of_le hi h.size) hn).trans (h.block i hi hn)⟩
theorem Tn.mono {w u : World} {bs bs' : List Nat} (h : Tn w u bs) (hs : ∀ x ∈ bs, x ∈ bs') : Tn w u bs' :=
  ⟨h.os, h.tape, h.output, h.size, fun i hi hn => h.block i hi (fun hx => hn (hs i hx))⟩
theorem Tn.grown {w u : World} (h : w.grownBy u none) (bs : List Nat) : Tn w u bs := ⟨h.os, h.tape, h.output, h.size, fun i hi _ => h.block i hi (by simp)⟩
theorem Tn.row {w u : World} {g : Nat} (h : w.grownBy u (some g)) : Tn w u [g] := ⟨h.os, h.tape, h.output, h.size, fun i hi hn => h.block i hi (by simpa using hn)⟩
theorem Tn.fresh {a w u : World} {bs : List Nat} (h : a.grownBy w none) (k : Tn w u bs) (hb : ∀ x ∈ bs, a.heap.size ≤ x) : a.grownBy u none :=
  ⟨k.os.trans h.os, k.tape.trans h.tape, k.output.trans h.output, Nat.le_trans h.size k.size, fun i hi _ => (k.block i (Nat.lt_of_lt_of_le hi h.size) (fun hx => by have := hb i hx; omega)).trans (h.block i hi (by simp))⟩

/-- k, k + 1, .. in the place of kinds and numbers. -/
def markF : F → Int → F
  | .nil, _ => .nil
  | .cons _ _ d r, k => .cons k (k + 1) (markF d (k + 1 + 1)) (markF r (k + 1 + 1 + 2 * d.size))
theorem markF_len (f : F) : ∀ k, (markF f k).len = f.len := by
  induction f with
  | nil => intro k; rfl
  | cons k n d r _ ih => intro x; simp only [markF, F.len, ih]
theorem markF_size (f : F) : ∀ k, (markF f k).size = f.size := by
  induction f with
  | nil => intro k; rfl
  | cons k n d r ihd ihr => intro x; simp only [markF, F.size, ihd, ihr]

/-- Two cells of a block are stored. -/
theorem Blk.put2 {u : World} {t : TypeId} {g c : Nat} (h : Blk u t g c) (p : Nat) (hp : p + 1 < c * 3) (v0 v1 : Value) :
    Blk ((u.setCell ⟨g, p, none⟩ v0).setCell ⟨g, p + 1, none⟩ v1) t g c ∧ u.grownBy ((u.setCell ⟨g, p, none⟩ v0).setCell ⟨g, p + 1, none⟩ v1) (some g) ∧
    (((u.setCell ⟨g, p, none⟩ v0).setCell ⟨g, p + 1, none⟩ v1).cell? ⟨g, p, none⟩ = some v0 ∧ ((u.setCell ⟨g, p, none⟩ v0).setCell ⟨g, p + 1, none⟩ v1).cell? ⟨g, p + 1, none⟩ = some v1) ∧
    ∀ q, (q < p ∨ p + 1 < q) → ((u.setCell ⟨g, p, none⟩ v0).setCell ⟨g, p + 1, none⟩ v1).cell? ⟨g, q, none⟩ = u.cell? ⟨g, q, none⟩ := by
  obtain ⟨cur, hc, hs⟩ := h
  have h1 := heap_setCell_same u g p cur t v0 hc
  have h2 := heap_setCell_same _ g (p + 1) _ t v1 h1
  refine ⟨⟨_, h2, by simpa using hs⟩, grown_trans (grown_setCell _ _ _ _) (grown_setCell _ _ _ _), ⟨?_, ?_⟩, fun q hq => ?_⟩
  · rw [cell_of_row _ g _ _ t (0, 0) h2]; simp [show p < cur.size by omega]
  · rw [cell_of_row _ g _ _ t (0, 0) h2]; simp [show p + 1 < cur.size by omega]
  · rw [cell_of_row _ g _ _ t (0, 0) h2, cell_of_row _ g _ _ t (0, 0) hc]
    rw [Array.getElem?_setIfInBounds_ne (by omega), Array.getElem?_setIfInBounds_ne (by omega)]

end Go.Proofs.YtpmndefmibnaeaaDoor.By
