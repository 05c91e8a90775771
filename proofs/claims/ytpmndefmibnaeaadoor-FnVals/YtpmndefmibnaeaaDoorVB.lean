/-
  Trees of values (a kind, a number, a text, a list of such), as they lie in memory. No statement is proved here.
-/
import Derived.Test.YtpmndefmibnaeaaDoorSBa
import Derived.Test.YtpmndefmibnaeaaDoorGQ
import Derived.Test.YtpmndefmibnaeaaDoorEC1
import Derived.Test.YtpmndefmibnaeaaDoorHHelp
import Derived.Deep.DeepCutAuto
namespace Go.Proofs.YtpmndefmibnaeaaDoor.By
open Go.RowKit
set_option linter.unusedVariables false
set_option linter.unusedSimpArgs false

/-- A list of values: the first one's kind, number, text and list, and the others. -/
inductive V : Type
  | nil : V
  | cons (k n : Int) (t : List Int) (d r : V) : V
def V.len : V → Nat
  | .nil => 0
  | .cons _ _ _ _ r => r.len + 1
/-- How great it is as the law counts. -/
def V.size : V → Nat
  | .nil => 0
  | .cons _ _ t d r => 1 + (t.length + d.size) + r.size
def V.app : V → V → V
  | .nil, g => g
  | .cons k n t d r, g => .cons k n t d (r.app g)
theorem V.app_nil (f : V) : f.app .nil = f := by
  induction f with
  | nil => rfl
  | cons k n t d r _ ih => simp [V.app, ih]
theorem V.app_assoc (f g h : V) : (f.app g).app h = f.app (g.app h) := by
  induction f with
  | nil => rfl
  | cons k n t d r _ ih => simp [V.app, ih]
theorem V.app_len (f g : V) : (f.app g).len = f.len + g.len := by
  induction f with
  | nil => simp [V.app, V.len]
  | cons k n t d r _ ih => simp [V.app, V.len, ih]; omega
theorem V.app_size (f g : V) : (f.app g).size = f.size + g.size := by
  induction f with
  | nil => simp [V.app, V.size]
  | cons k n t d r _ ih => simp [V.app, V.size, ih]; omega
theorem V.len_le (f : V) : f.len ≤ f.size := by
  induction f with
  | nil => simp [V.len, V.size]
  | cons k n t d r _ ih => simp only [V.len, V.size]; omega
theorem V.nil_of_len {f : V} (h : f.len = 0) : f = .nil := by
  cases f with
  | nil => rfl
  | cons k n t d r => simp [V.len] at h
structure RVal where
  k : Int
  n : Int
  text : List Int
  list : V
def szVal (x : RVal) : Nat := x.text.length + x.list.size
/-- A value ahead of others. -/
def V.cn (x : RVal) (r : V) : V := .cons x.k x.n x.text x.list r
theorem V.len_cn (x : RVal) (r : V) : (V.cn x r).len = r.len + 1 := rfl
theorem V.size_cn (x : RVal) (r : V) : (V.cn x r).size = 1 + szVal x + r.size := rfl
theorem V.app_cn (x : RVal) (r g : V) : (V.cn x r).app g = V.cn x (r.app g) := rfl
theorem V.cn_of_len {f : V} {m : Nat} (h : f.len = m + 1) : ∃ x r, f = V.cn x r ∧ r.len = m := by
  cases f with
  | nil => simp [V.len] at h
  | cons k n t d r => exact ⟨⟨k, n, t, d⟩, r, rfl, by simpa [V.len] using h⟩

/-- The list lies from cell off of block b on, four cells a value; what they name is read in wp. -/
def InVal (w wp : World) : V → Nat → Nat → Prop
  | .nil, _, _ => True
  | .cons k n t d r, b, off => (∃ a1 l1 c1 a2 l2 c2, (w.cell? ⟨b, off, none⟩ = some (.int .i64 k) ∧ w.cell? ⟨b, off + 1, none⟩ = some (.int .i64 n) ∧ w.cell? ⟨b, off + 2, none⟩ = some (.slice a1 l1 c1) ∧ w.cell? ⟨b, off + 3, none⟩ = some (.slice a2 l2 c2)) ∧ l1 ≤ c1 ∧ RdB wp a1 l1 t ∧ (d.len = l2 ∧ l2 ≤ 9223372036854775807 ∧ (l2 = 0 ∨ ∃ b' o', a2 = some ⟨b', o', none⟩ ∧ InVal wp wp d b' o'))) ∧ InVal w wp r b (off + 4)
def SlVal (w : World) (a : Option Addr) (l : Nat) (xs : V) : Prop :=
  xs.len = l ∧ l ≤ 9223372036854775807 ∧ (l = 0 ∨ ∃ b o, a = some ⟨b, o, none⟩ ∧ InVal w w xs b o)
def RdVal (w : World) (x : RVal) (a1 : Option Addr) (l1 : Nat) (a2 : Option Addr) (l2 : Nat) : Prop := RdB w a1 l1 x.text ∧ SlVal w a2 l2 x.list
theorem InVal.parts {wp up : World} (k : CLe wp up) : ∀ (xs : V) {w u : World} {b off b' off' : Nat}, InVal w wp xs b off → (∀ i v, i < xs.len * 4 → w.cell? ⟨b, off + i, none⟩ = some v → u.cell? ⟨b', off' + i, none⟩ = some v) → InVal u up xs b' off' := by
  intro xs
  induction xs with
  | nil => intros; trivial
  | cons k0 n t d r ihd ihr =>
    intro w u b off b' off' h hc
    obtain ⟨⟨a1, l1, c1, a2, l2, c2, ⟨h0, h1, h2, h3⟩, hle, ht, hd1, hd2, hd3⟩, hr⟩ := h
    refine ⟨⟨a1, l1, c1, a2, l2, c2, ⟨by simpa using hc 0 _ (by simp [V.len]) h0, hc 1 _ (by simp only [V.len]; omega) h1, hc 2 _ (by simp only [V.len]; omega) h2, hc 3 _ (by simp only [V.len]; omega) h3⟩, hle, ht.le k, hd1, hd2, ?_⟩, ihr hr (fun i v hi hv => ?_)⟩
    · rcases hd3 with hd3 | ⟨b2, o2, e, hd3⟩
      · exact .inl hd3
      · exact .inr ⟨b2, o2, e, ihd hd3 (fun i v _ hv => k _ _ hv)⟩
    · have := hc (i + 4) v (by simp only [V.len]; omega) (by rw [show off + (i + 4) = off + 4 + i by omega]; exact hv)
      rw [show off' + 4 + i = off' + (i + 4) by omega]; exact this
theorem InVal.move {w wp u up : World} {xs : V} {b off b' off' : Nat} (h : InVal w wp xs b off) (hc : ∀ i v, i < xs.len * 4 → w.cell? ⟨b, off + i, none⟩ = some v → u.cell? ⟨b', off' + i, none⟩ = some v) (k : CLe wp up) : InVal u up xs b' off' := InVal.parts k xs h hc
theorem InVal.le {w wp u up : World} {xs : V} {b off : Nat} (h : InVal w wp xs b off) (k : CLe w u) (k2 : CLe wp up) : InVal u up xs b off := h.move (fun i v _ hv => k _ _ hv) k2
theorem InVal.app {w wp : World} {P Q : V} {b off : Nat} (h : InVal w wp P b off) (k : InVal w wp Q b (off + P.len * 4)) : InVal w wp (P.app Q) b off := by
  induction P generalizing off with
  | nil => simpa [V.app, V.len] using k
  | cons k0 n t d r _ ih =>
    refine ⟨h.1, ih h.2 ?_⟩
    rw [show off + 4 + r.len * 4 = off + (V.cons k0 n t d r).len * 4 by simp only [V.len]; omega]; exact k
theorem SlVal.le {w u : World} {a : Option Addr} {l : Nat} {xs : V} (h : SlVal w a l xs) (k : CLe w u) : SlVal u a l xs := by
  obtain ⟨h1, h2, h3⟩ := h
  refine ⟨h1, h2, ?_⟩
  rcases h3 with h3 | ⟨b, o, e, h3⟩
  · exact .inl h3
  · exact .inr ⟨b, o, e, h3.le k k⟩
theorem SlVal.none {w u : World} {a : Option Addr} {l : Nat} {xs : V} (h : SlVal w a l xs) (k : w.grownBy u Option.none) : SlVal u a l xs := h.le (CLe.grown k)
theorem SlVal.cases {w : World} {a : Option Addr} {l : Nat} {xs : V} (h : SlVal w a l xs) : (l = 0 ∧ xs = .nil) ∨ ∃ b o, a = some ⟨b, o, Option.none⟩ ∧ InVal w w xs b o ∧ 0 < l := by
  obtain ⟨h1, h2, h3⟩ := h
  by_cases h0 : l = 0
  · exact .inl ⟨h0, V.nil_of_len (by omega)⟩
  · rcases h3 with h3 | ⟨b, o, e, h3⟩
    · exact absurd h3 h0
    · exact .inr ⟨b, o, e, h3, by omega⟩
/-- The first one of a list. -/
theorem InVal.cn {w wp : World} {x : RVal} {r : V} {b off : Nat} (h : InVal w wp (V.cn x r) b off) : ∃ a1 l1 c1 a2 l2 c2, (w.cell? ⟨b, off, none⟩ = some (.int .i64 x.k) ∧ w.cell? ⟨b, off + 1, none⟩ = some (.int .i64 x.n) ∧ w.cell? ⟨b, off + 2, none⟩ = some (.slice a1 l1 c1) ∧ w.cell? ⟨b, off + 3, none⟩ = some (.slice a2 l2 c2)) ∧ RdVal wp x a1 l1 a2 l2 ∧ InVal w wp r b (off + 4) := by
  obtain ⟨⟨a1, l1, c1, a2, l2, c2, hc, -, ht, hd⟩, hr⟩ := h
  exact ⟨a1, l1, c1, a2, l2, c2, hc, ⟨ht, hd⟩, hr⟩
theorem InVal.cnc {w wp : World} {x : RVal} {r : V} {b off : Nat} (h : InVal w wp (V.cn x r) b off) : ∃ a1 l1 c1 a2 l2 c2, (w.cell? ⟨b, off, none⟩ = some (.int .i64 x.k) ∧ w.cell? ⟨b, off + 1, none⟩ = some (.int .i64 x.n) ∧ w.cell? ⟨b, off + 2, none⟩ = some (.slice a1 l1 c1) ∧ w.cell? ⟨b, off + 3, none⟩ = some (.slice a2 l2 c2)) ∧ l1 ≤ c1 ∧ RdVal wp x a1 l1 a2 l2 ∧ InVal w wp r b (off + 4) := by
  obtain ⟨⟨a1, l1, c1, a2, l2, c2, hc, hl, ht, hd⟩, hr⟩ := h
  exact ⟨a1, l1, c1, a2, l2, c2, hc, hl, ⟨ht, hd⟩, hr⟩
theorem InVal.mk {w wp : World} {x : RVal} {r : V} {b off : Nat} {a1 a2 : Option Addr} {l1 c1 l2 c2 : Nat} (hc : w.cell? ⟨b, off, none⟩ = some (.int .i64 x.k) ∧ w.cell? ⟨b, off + 1, none⟩ = some (.int .i64 x.n) ∧ w.cell? ⟨b, off + 2, none⟩ = some (.slice a1 l1 c1) ∧ w.cell? ⟨b, off + 3, none⟩ = some (.slice a2 l2 c2)) (hl : l1 ≤ c1) (h : RdVal wp x a1 l1 a2 l2) (hr : InVal w wp r b (off + 4)) : InVal w wp (V.cn x r) b off :=
  ⟨⟨a1, l1, c1, a2, l2, c2, hc, hl, h.1, h.2⟩, hr⟩
theorem RdVal.le {w u : World} {x : RVal} {a1 a2 : Option Addr} {l1 l2 : Nat} (h : RdVal w x a1 l1 a2 l2) (k : CLe w u) : RdVal u x a1 l1 a2 l2 := ⟨h.1.le k, h.2.le k⟩
theorem RdVal.none {w u : World} {x : RVal} {a1 a2 : Option Addr} {l1 l2 : Nat} (h : RdVal w x a1 l1 a2 l2) (k : w.grownBy u Option.none) : RdVal u x a1 l1 a2 l2 := h.le (CLe.grown k)
theorem blkVal {w : World} {g : Nat} {t : TypeId} {v0 v1 v2 v3 : Value} (h : w.heap[g]? = some (.cells #[v0, v1, v2, v3] t (0, 0))) : (w.cell? ⟨g, 0, none⟩ = some v0 ∧ w.cell? ⟨g, 1, none⟩ = some v1 ∧ w.cell? ⟨g, 2, none⟩ = some v2 ∧ w.cell? ⟨g, 3, none⟩ = some v3) ∧ ∀ j, w.frozen? ⟨g, j, none⟩ = false := by
  refine ⟨⟨?_, ?_, ?_, ?_⟩, fun j => frozen_of_row w g _ _ t h⟩ <;> (rw [cell_of_row w g _ _ t (0, 0) h]; rfl)
theorem fillVal {w : World} {p : Nat} {t : TypeId} {o0 o1 o2 o3 : Value} (v0 v1 v2 v3 : Value) (h : w.heap[p]? = some (.cells #[o0, o1, o2, o3] t (0, 0))) :
    ((((w.setCell ⟨p, 0, none⟩ (v0)).setCell ⟨p, 1, none⟩ (v1)).setCell ⟨p, 2, none⟩ (v2)).setCell ⟨p, 3, none⟩ (v3)).heap[p]? = some (.cells #[v0, v1, v2, v3] t (0, 0)) ∧ w.grownBy ((((w.setCell ⟨p, 0, none⟩ (v0)).setCell ⟨p, 1, none⟩ (v1)).setCell ⟨p, 2, none⟩ (v2)).setCell ⟨p, 3, none⟩ (v3)) (some p) := by
  have h0 : (w.setCell ⟨p, 0, none⟩ (v0)).heap[p]? = some (.cells #[v0, o1, o2, o3] t (0, 0)) := heap_setCell_same _ p 0 _ t v0 h
  have h1 : ((w.setCell ⟨p, 0, none⟩ (v0)).setCell ⟨p, 1, none⟩ (v1)).heap[p]? = some (.cells #[v0, v1, o2, o3] t (0, 0)) := heap_setCell_same _ p 1 _ t v1 h0
  have h2 : (((w.setCell ⟨p, 0, none⟩ (v0)).setCell ⟨p, 1, none⟩ (v1)).setCell ⟨p, 2, none⟩ (v2)).heap[p]? = some (.cells #[v0, v1, v2, o3] t (0, 0)) := heap_setCell_same _ p 2 _ t v2 h1
  have h3 : ((((w.setCell ⟨p, 0, none⟩ (v0)).setCell ⟨p, 1, none⟩ (v1)).setCell ⟨p, 2, none⟩ (v2)).setCell ⟨p, 3, none⟩ (v3)).heap[p]? = some (.cells #[v0, v1, v2, v3] t (0, 0)) := heap_setCell_same _ p 3 _ t v3 h2
  exact ⟨h3, grown_trans (grown_trans (grown_trans (grown_trans (World.grownBy.refl _ _) (grown_setCell _ _ _ _)) (grown_setCell _ _ _ _)) (grown_setCell _ _ _ _)) (grown_setCell _ _ _ _)⟩
end Go.Proofs.YtpmndefmibnaeaaDoor.By
