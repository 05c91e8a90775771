/-
  What the drawing functions of numbers answer. No statement is proved here.
-/
import Derived.Test.YtonmcndedbmbfaaSpoil
import Derived.Test.YtonmcndedbmbfaaPutN
import Derived.Test.YtonmcndedbmbfaaStepA
import Derived.Test.YtonmcndedbmbfaaLawFolds
import Derived.Deep.DeepCutAuto
namespace Go.Proofs.Ytonmcndedbmbfaa.By
open Go.RowKit
set_option linter.unusedVariables false

theorem Mine.shape {w : World} {B : Nat} {v : Value} {ys : List Int} (h : Mine w B v ys) : (v = .slice none 0 0 ∧ ys = []) ∨ ∃ g cap, v = .slice (some ⟨g, 0, none⟩) ys.length cap ∧ B ≤ g ∧ Row w g cap ys ∧ cap ≤ maxLen := by
  obtain ⟨⟨h1, h2⟩, hb⟩ := h
  rcases h2 with ⟨h, h0⟩ | ⟨g, cp, cur, h, hB, hg, hn, hm, hs, ht⟩
  · exact .inl ⟨h, List.eq_nil_of_length_eq_zero h0⟩
  · exact .inr ⟨g, cp, h, hB, ⟨cur, hg, by simpa using hs, by simpa using ht, by omega⟩, hm⟩
theorem Mine.form {w : World} {B : Nat} {v : Value} {ys : List Int} (h : Mine w B v ys) : ∃ a2 c2, v = .slice a2 ys.length c2 := by
  rcases h.shape with ⟨h', rfl⟩ | ⟨g, cap, h', _⟩
  · exact ⟨_, _, h'⟩
  · exact ⟨_, _, h'⟩
/-- What a number's bytes behind a slice of our own come to. -/
theorem putMine (w : World) (B : Nat) (v : Value) (ys : List Int) (N : Int) (h : Mine w B v ys) (hy : ys.length ≤ 1000) :
    Calls Try.prog 31 #[v, .int .i64 N] w fun e w' => ∃ g cp, e = .returned (.slice (some ⟨g, 0, none⟩) (ys.length + (numB N).length) cp) ∧ w.grownBy w' none ∧ w.heap.size ≤ g ∧ Row w' g cp (ys ++ numB N) ∧ cp ≤ maxLen := by
  obtain ⟨⟨h1, h2⟩, hb⟩ := h
  rcases h2 with ⟨rfl, h0⟩ | ⟨g, cp, cur, rfl, hB, hg, hn, hm, hs, ht⟩
  · obtain rfl : ys = [] := List.eq_nil_of_length_eq_zero h0
    refine (specPutNil N w).mono fun e w' ⟨g, cp, he, r⟩ => ⟨g, cp, by simpa using he, by simpa using r⟩
  · exact specPutM g ys.length cp ys N w ⟨cur, hg, by simpa using hs, by simpa using ht, by omega⟩ rfl (by omega)

theorem u8_id (x : Int) (h0 : 0 ≤ x) (h1 : x < 20) : IntKind.u8.wrap x = x := by rw [IntKind.wrap_u8]; omega
theorem five_new (w : World) (x : Int) : ∀ (j : Nat) (u : Value), [Value.int .u8 255, Value.int .u8 255, Value.int .u8 255, Value.int .u8 255, Value.int .u8 x][j]? = some u → (w.alloc (.cells #[Value.int .u8 255, Value.int .u8 255, Value.int .u8 255, Value.int .u8 255, Value.int .u8 x] 5)).cell? ((⟨w.heap.size, 0, none⟩ : Addr).add j) = some u := by
  intro j u hj
  have hh := heap_alloc_new w (.cells #[Value.int .u8 255, Value.int .u8 255, Value.int .u8 255, Value.int .u8 255, Value.int .u8 x] 5)
  have hj5 : j < 5 := (List.getElem?_eq_some_iff.1 hj).1
  have e : ((⟨w.heap.size, 0, none⟩ : Addr).add j) = ⟨w.heap.size, j, none⟩ := by
    by_cases h0 : j = 0
    · subst h0; simp [Addr.add]
    · simp [Addr.add, h0]
  rw [e, cell_of_row _ _ j _ 5 (0, 0) hh, ← hj]
  rcases (show j = 0 ∨ j = 1 ∨ j = 2 ∨ j = 3 ∨ j = 4 by omega) with rfl | rfl | rfl | rfl | rfl <;> rfl

end Go.Proofs.Ytonmcndedbmbfaa.By
