/-
  Several texts in one (EN0, GW0). No statement is proved here.
-/
import Derived.Test.YtjjaocoahepdaaaDoorEB
import Derived.Test.YtjjaocoahepdaaaDoorGI
namespace Go.Proofs.YtjjaocoahepdaaaDoor.By
open Go.RowKit
set_option linter.unusedVariables false

/-- Rows of bytes from a cell on, one cell each; they are read in wp. -/
def InSS (w wp : World) : List (List Int) → Nat → Nat → Prop
  | [], _, _ => True
  | x :: r, b, off => (∃ a n c, w.cell? ⟨b, off, none⟩ = some (.slice a n c) ∧ RdB wp a n x) ∧ InSS w wp r b (off + 1)
def SlSS (w : World) (a : Option Addr) (l : Nat) (xs : List (List Int)) : Prop :=
  xs.length = l ∧ l ≤ 9223372036854775807 ∧ (l = 0 ∨ ∃ b o, a = some ⟨b, o, none⟩ ∧ InSS w w xs b o)
theorem InSS.move {w wp u up : World} {xs : List (List Int)} {b off b' off' : Nat} (h : InSS w wp xs b off) (hc : ∀ i v, i < xs.length → w.cell? ⟨b, off + i, none⟩ = some v → u.cell? ⟨b', off' + i, none⟩ = some v) (k : CLe wp up) : InSS u up xs b' off' := by
  induction xs generalizing off off' with
  | nil => trivial
  | cons x r ih =>
    obtain ⟨⟨a, n, c, h0, h2⟩, hr⟩ := h
    refine ⟨⟨a, n, c, by simpa using hc 0 _ (by simp) h0, h2.le k⟩, ih hr (fun i v hi hv => ?_)⟩
    have := hc (i + 1) v (by simp; omega) (by rw [show off + (i + 1) = off + 1 + i by omega]; exact hv)
    rw [show off' + 1 + i = off' + (i + 1) by omega]; exact this
theorem InSS.le {w wp u up : World} {xs : List (List Int)} {b off : Nat} (h : InSS w wp xs b off) (k : CLe w u) (k2 : CLe wp up) : InSS u up xs b off := h.move (fun i v _ hv => k _ _ hv) k2
theorem InSS.app {w wp : World} {P Q : List (List Int)} {b off : Nat} (h : InSS w wp P b off) (k : InSS w wp Q b (off + P.length)) : InSS w wp (P ++ Q) b off := by
  induction P generalizing off with
  | nil => simpa using k
  | cons x r ih =>
    refine ⟨h.1, ih h.2 ?_⟩
    rw [show off + 1 + r.length = off + (x :: r).length by simp; omega]; exact k
theorem InSS.fst {w wp : World} {P Q : List (List Int)} {b off : Nat} (h : InSS w wp (P ++ Q) b off) : InSS w wp P b off := by
  induction P generalizing off with
  | nil => trivial
  | cons x r ih => exact ⟨h.1, ih h.2⟩
theorem InSS.snd {w wp : World} {P Q : List (List Int)} {b off : Nat} (h : InSS w wp (P ++ Q) b off) : InSS w wp Q b (off + P.length) := by
  induction P generalizing off with
  | nil => simpa using h
  | cons x r ih =>
    rw [show off + (x :: r).length = off + 1 + r.length by simp; omega]
    exact ih h.2
theorem SlSS.le {w u : World} {a : Option Addr} {l : Nat} {xs : List (List Int)} (h : SlSS w a l xs) (k : CLe w u) : SlSS u a l xs := by
  obtain ⟨h1, h2, h3⟩ := h
  refine ⟨h1, h2, ?_⟩
  rcases h3 with h3 | ⟨b, o, e, h3⟩
  · exact .inl h3
  · exact .inr ⟨b, o, e, h3.le k k⟩
theorem SlSS.none {w u : World} {a : Option Addr} {l : Nat} {xs : List (List Int)} (h : SlSS w a l xs) (k : w.grownBy u Option.none) : SlSS u a l xs := h.le (CLe.grown k)
theorem SlSS.cases {w : World} {a : Option Addr} {l : Nat} {xs : List (List Int)} (h : SlSS w a l xs) : (l = 0 ∧ xs = []) ∨ ∃ b o, a = some ⟨b, o, Option.none⟩ ∧ InSS w w xs b o ∧ 0 < l := by
  obtain ⟨h1, h2, h3⟩ := h
  by_cases h0 : l = 0
  · exact .inl ⟨h0, List.eq_nil_of_length_eq_zero (by omega)⟩
  · rcases h3 with h3 | ⟨b, o, e, h3⟩
    · exact absurd h3 h0
    · exact .inr ⟨b, o, e, h3, by omega⟩
end Go.Proofs.YtjjaocoahepdaaaDoor.By

namespace Go.Proofs.YtjjaocoahepdaaaDoor.By
open Go.RowKit
set_option linter.unusedVariables false

def szW : List (List Int) → Nat
  | [] => 0
  | x :: r => 1 + x.length + szW r
theorem szW_len : ∀ xs : List (List Int), xs.length ≤ szW xs
  | [] => Nat.le_refl _
  | x :: r => by have := szW_len r; simp only [List.length_cons, szW]; omega
/-- A list of rows of bytes within its room. -/
def SlSC (w : World) (a : Option Addr) (l c : Nat) (xs : List (List Int)) : Prop := SlSS w a l xs ∧ l ≤ c
theorem SlSC.le {w u : World} {a : Option Addr} {l c : Nat} {xs : List (List Int)} (h : SlSC w a l c xs) (k : CLe w u) : SlSC u a l c xs := ⟨h.1.le k, h.2⟩
theorem SlSC.none {w u : World} {a : Option Addr} {l c : Nat} {xs : List (List Int)} (h : SlSC w a l c xs) (k : w.grownBy u Option.none) : SlSC u a l c xs := h.le (CLe.grown k)
end Go.Proofs.YtjjaocoahepdaaaDoor.By
