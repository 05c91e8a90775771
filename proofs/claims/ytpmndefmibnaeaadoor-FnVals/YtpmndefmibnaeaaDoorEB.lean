/-
  Data and constructors as they lie in memory. No statement is proved here.
-/
import Derived.Test.YtpmndefmibnaeaaDoorTOwn
import Derived.Test.YtpmndefmibnaeaaDoorBase
namespace Go.Proofs.YtpmndefmibnaeaaDoor.By
open Go.RowKit
set_option linter.unusedVariables false

/-- A constructor: its name and its fields. -/
structure Co where
  name : List Int
  flds : F
/-- A data: its name, how many variables, its constructors. -/
structure Da where
  name : List Int
  vars : Int
  cons : List Co
/-- All that the one world's cells hold the other's hold. -/
def CLe (w u : World) : Prop := ∀ p v, w.cell? p = some v → u.cell? p = some v
theorem CLe.grown {w u : World} (h : w.grownBy u none) : CLe w u := fun _ _ hv => h.cell hv (by simp)
theorem CLe.trans {w u v : World} (h : CLe w u) (k : CLe u v) : CLe w v := fun p x hx => k p x (h p x hx)
/-- A row of bytes that is read. -/
def RdB (w : World) (a : Option Addr) (n : Nat) (zs : List Int) : Prop := Reads w a n zs ∧ Byt zs ∧ n ≤ 9223372036854775807
theorem RdB.le {w u : World} {a : Option Addr} {n : Nat} {zs : List Int} (h : RdB w a n zs) (k : CLe w u) : RdB u a n zs := by
  obtain ⟨⟨h1, h2⟩, h3⟩ := h
  refine ⟨⟨h1, ?_⟩, h3⟩
  rcases h2 with h2 | ⟨b, o, e, h2⟩
  · exact .inl h2
  · exact .inr ⟨b, o, e, fun i hi => k _ _ (h2 i hi)⟩
theorem RdB.none {w u : World} {a : Option Addr} {n : Nat} {zs : List Int} (h : RdB w a n zs) (k : w.grownBy u Option.none) : RdB u a n zs := h.le (CLe.grown k)
theorem SlF.le {w u : World} {a : Option Addr} {l : Nat} {f : F} (h : SlF w a l f) (k : CLe w u) : SlF u a l f := by
  obtain ⟨h1, h2, h3⟩ := h
  refine ⟨h1, h2, ?_⟩
  rcases h3 with h3 | ⟨b, o, e, h3⟩
  · exact .inl h3
  · exact .inr ⟨b, o, e, h3.cells k⟩
/-- Constructors from a cell on, two cells each; their parts are read in wp. -/
def InCo (w wp : World) : List Co → Nat → Nat → Prop
  | [], _, _ => True
  | x :: r, b, off => (∃ a n c a' l' c', w.cell? ⟨b, off, none⟩ = some (.slice a n c) ∧ w.cell? ⟨b, off + 1, none⟩ = some (.slice a' l' c') ∧ RdB wp a n x.name ∧ SlF wp a' l' x.flds) ∧ InCo w wp r b (off + 2)
def SlCo (w : World) (a : Option Addr) (l : Nat) (cs : List Co) : Prop :=
  cs.length = l ∧ l ≤ 9223372036854775807 ∧ (l = 0 ∨ ∃ b o, a = some ⟨b, o, none⟩ ∧ InCo w w cs b o)
theorem InCo.move {w wp u up : World} {cs : List Co} {b off b' off' : Nat} (h : InCo w wp cs b off) (hc : ∀ i v, i < cs.length * 2 → w.cell? ⟨b, off + i, none⟩ = some v → u.cell? ⟨b', off' + i, none⟩ = some v) (k : CLe wp up) : InCo u up cs b' off' := by
  induction cs generalizing off off' with
  | nil => trivial
  | cons x r ih =>
    obtain ⟨⟨a, n, c, a', l', c', h0, h1, h2, h3⟩, hr⟩ := h
    refine ⟨⟨a, n, c, a', l', c', by simpa using hc 0 _ (by simp) h0, hc 1 _ (by simp; omega) h1, h2.le k, h3.le k⟩, ih hr (fun i v hi hv => ?_)⟩
    have := hc (i + 2) v (by simp; omega) (by rw [show off + (i + 2) = off + 2 + i by omega]; exact hv)
    rw [show off' + 2 + i = off' + (i + 2) by omega]; exact this
theorem InCo.le {w wp u up : World} {cs : List Co} {b off : Nat} (h : InCo w wp cs b off) (k : CLe w u) (k2 : CLe wp up) : InCo u up cs b off := h.move (fun i v _ hv => k _ _ hv) k2
theorem InCo.app {w wp : World} {P Q : List Co} {b off : Nat} (h : InCo w wp P b off) (k : InCo w wp Q b (off + P.length * 2)) : InCo w wp (P ++ Q) b off := by
  induction P generalizing off with
  | nil => simpa using k
  | cons x r ih =>
    refine ⟨h.1, ih h.2 ?_⟩
    rw [show off + 2 + r.length * 2 = off + (x :: r).length * 2 by simp; omega]; exact k
theorem SlCo.le {w u : World} {a : Option Addr} {l : Nat} {cs : List Co} (h : SlCo w a l cs) (k : CLe w u) : SlCo u a l cs := by
  obtain ⟨h1, h2, h3⟩ := h
  refine ⟨h1, h2, ?_⟩
  rcases h3 with h3 | ⟨b, o, e, h3⟩
  · exact .inl h3
  · exact .inr ⟨b, o, e, h3.le k k⟩
theorem SlCo.none {w u : World} {a : Option Addr} {l : Nat} {cs : List Co} (h : SlCo w a l cs) (k : w.grownBy u Option.none) : SlCo u a l cs := h.le (CLe.grown k)
theorem SlCo.cases {w : World} {a : Option Addr} {l : Nat} {cs : List Co} (h : SlCo w a l cs) : (l = 0 ∧ cs = []) ∨ ∃ b o, a = some ⟨b, o, Option.none⟩ ∧ InCo w w cs b o ∧ 0 < l := by
  obtain ⟨h1, h2, h3⟩ := h
  by_cases h0 : l = 0
  · exact .inl ⟨h0, List.eq_nil_of_length_eq_zero (by omega)⟩
  · rcases h3 with h3 | ⟨b, o, e, h3⟩
    · exact absurd h3 h0
    · exact .inr ⟨b, o, e, h3, by omega⟩
/-- Data from a cell on, three cells each. -/
def InDa (w wp : World) : List Da → Nat → Nat → Prop
  | [], _, _ => True
  | x :: r, b, off => (∃ a n c a' l' c', w.cell? ⟨b, off, none⟩ = some (.slice a n c) ∧ w.cell? ⟨b, off + 1, none⟩ = some (.int .i64 x.vars) ∧ w.cell? ⟨b, off + 2, none⟩ = some (.slice a' l' c') ∧ RdB wp a n x.name ∧ SlCo wp a' l' x.cons) ∧ InDa w wp r b (off + 3)
def SlDa (w : World) (a : Option Addr) (l : Nat) (ds : List Da) : Prop :=
  ds.length = l ∧ l ≤ 9223372036854775807 ∧ (l = 0 ∨ ∃ b o, a = some ⟨b, o, none⟩ ∧ InDa w w ds b o)
theorem InDa.move {w wp u up : World} {ds : List Da} {b off b' off' : Nat} (h : InDa w wp ds b off) (hc : ∀ i v, i < ds.length * 3 → w.cell? ⟨b, off + i, none⟩ = some v → u.cell? ⟨b', off' + i, none⟩ = some v) (k : CLe wp up) : InDa u up ds b' off' := by
  induction ds generalizing off off' with
  | nil => trivial
  | cons x r ih =>
    obtain ⟨⟨a, n, c, a', l', c', h0, h1, h2, h3, h4⟩, hr⟩ := h
    refine ⟨⟨a, n, c, a', l', c', by simpa using hc 0 _ (by simp) h0, hc 1 _ (by simp; omega) h1, hc 2 _ (by simp; omega) h2, h3.le k, h4.le k⟩, ih hr (fun i v hi hv => ?_)⟩
    have := hc (i + 3) v (by simp; omega) (by rw [show off + (i + 3) = off + 3 + i by omega]; exact hv)
    rw [show off' + 3 + i = off' + (i + 3) by omega]; exact this
theorem InDa.le {w wp u up : World} {ds : List Da} {b off : Nat} (h : InDa w wp ds b off) (k : CLe w u) (k2 : CLe wp up) : InDa u up ds b off := h.move (fun i v _ hv => k _ _ hv) k2
theorem InDa.app {w wp : World} {P Q : List Da} {b off : Nat} (h : InDa w wp P b off) (k : InDa w wp Q b (off + P.length * 3)) : InDa w wp (P ++ Q) b off := by
  induction P generalizing off with
  | nil => simpa using k
  | cons x r ih =>
    refine ⟨h.1, ih h.2 ?_⟩
    rw [show off + 3 + r.length * 3 = off + (x :: r).length * 3 by simp; omega]; exact k
theorem SlDa.le {w u : World} {a : Option Addr} {l : Nat} {ds : List Da} (h : SlDa w a l ds) (k : CLe w u) : SlDa u a l ds := by
  obtain ⟨h1, h2, h3⟩ := h
  refine ⟨h1, h2, ?_⟩
  rcases h3 with h3 | ⟨b, o, e, h3⟩
  · exact .inl h3
  · exact .inr ⟨b, o, e, h3.le k k⟩
theorem SlDa.none {w u : World} {a : Option Addr} {l : Nat} {ds : List Da} (h : SlDa w a l ds) (k : w.grownBy u Option.none) : SlDa u a l ds := h.le (CLe.grown k)
theorem SlDa.cases {w : World} {a : Option Addr} {l : Nat} {ds : List Da} (h : SlDa w a l ds) : (l = 0 ∧ ds = []) ∨ ∃ b o, a = some ⟨b, o, Option.none⟩ ∧ InDa w w ds b o ∧ 0 < l := by
  obtain ⟨h1, h2, h3⟩ := h
  by_cases h0 : l = 0
  · exact .inl ⟨h0, List.eq_nil_of_length_eq_zero (by omega)⟩
  · rcases h3 with h3 | ⟨b, o, e, h3⟩
    · exact absurd h3 h0
    · exact .inr ⟨b, o, e, h3, by omega⟩
/-- A world without its blocks below lo. -/
def hideW (w : World) (lo : Nat) : World := { w with heap := w.heap.mapIdx fun i o => if i < lo then .map #[] 0 else o }
theorem hideW_heap {w : World} {lo i : Nat} (h : lo ≤ i) : (hideW w lo).heap[i]? = w.heap[i]? := by
  unfold hideW
  rw [Array.getElem?_mapIdx]
  simp only [if_neg (show ¬ i < lo by omega)]
  cases w.heap[i]? <;> rfl
theorem hideW_no {w : World} {lo i j : Nat} (h : i < lo) : (hideW w lo).cell? ⟨i, j, none⟩ = none := by
  have e : (hideW w lo).heap[i]? = none ∨ (hideW w lo).heap[i]? = some (.map #[] 0) := by
    unfold hideW
    rw [Array.getElem?_mapIdx]
    simp only [if_pos h]
    cases w.heap[i]? with
    | none => exact .inl rfl
    | some o => exact .inr rfl
  rcases e with e | e <;> simp [World.cell?, e]
theorem hideW_cell {w : World} {lo i j : Nat} (h : lo ≤ i) : (hideW w lo).cell? ⟨i, j, none⟩ = w.cell? ⟨i, j, none⟩ := cell_of_heap (hideW_heap h)
end Go.Proofs.YtpmndefmibnaeaaDoor.By
