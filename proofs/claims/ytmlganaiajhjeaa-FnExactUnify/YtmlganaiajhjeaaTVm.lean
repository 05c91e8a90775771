/-
  The variables of a tree, as lists. No statement is proved here.
-/
import Derived.Test.YtmlganaiajhjeaaTOk
import Derived.Lib.SlicesCompact
namespace Go.Proofs.Ytmlganaiajhjeaa.By
open Go.RowKit
set_option linter.unusedVariables false

/-- Put in its place, unless it is there. -/
def insV : List Int → Int → List Int
  | [], n => [n]
  | x :: l, n => if x < n then x :: insV l n else if x = n then x :: l else n :: x :: l
def insL (l vs : List Int) : List Int := vs.foldl insV l
theorem insV_mem (l : List Int) (n y : Int) : y ∈ insV l n ↔ y = n ∨ y ∈ l := by
  induction l with
  | nil => simp [insV]
  | cons x l ih =>
    rw [insV]
    split
    · simp only [List.mem_cons, ih]
      constructor
      · rintro (h | h | h) <;> simp [h]
      · rintro (h | h | h) <;> simp [h]
    · split
      · rename_i _ e
        subst e
        simp only [List.mem_cons]
        constructor
        · intro h; exact Or.inr h
        · rintro (h | h)
          · exact Or.inl h
          · exact h
      · simp only [List.mem_cons]
theorem insV_sorted (l : List Int) (n : Int) (h : l.Pairwise (· < ·)) : (insV l n).Pairwise (· < ·) := by
  induction l with
  | nil => simp [insV]
  | cons x l ih =>
    rw [List.pairwise_cons] at h
    rw [insV]
    split
    · rename_i hx
      rw [List.pairwise_cons]
      refine ⟨fun y hy => ?_, ih h.2⟩
      rcases (insV_mem l n y).1 hy with e | hy
      · rw [e]; exact hx
      · exact h.1 y hy
    · split
      · rw [List.pairwise_cons]; exact h
      · rw [List.pairwise_cons, List.pairwise_cons]
        refine ⟨fun y hy => ?_, h⟩
        rcases List.mem_cons.1 hy with e | hy
        · omega
        · have := h.1 y hy; omega
theorem insL_mem (vs : List Int) : ∀ (l : List Int) (y : Int), y ∈ insL l vs ↔ y ∈ vs ∨ y ∈ l := by
  induction vs with
  | nil => intro l y; simp [insL]
  | cons v vs ih =>
    intro l y
    have e : insL l (v :: vs) = insL (insV l v) vs := rfl
    rw [e, ih, insV_mem, List.mem_cons]
    constructor
    · rintro (h | h | h) <;> simp [h]
    · rintro ((h | h) | h) <;> simp [h]
theorem insL_sorted (vs : List Int) : ∀ (l : List Int), l.Pairwise (· < ·) → (insL l vs).Pairwise (· < ·) := by
  induction vs with
  | nil => intro l h; exact h
  | cons v vs ih => intro l h; exact ih _ (insV_sorted l v h)
theorem insL_app (l vs us : List Int) : insL l (vs ++ us) = insL (insL l vs) us := by simp [insL, List.foldl_append]
theorem insV_len (l : List Int) (n : Int) : (insV l n).length ≤ l.length + 1 := by
  induction l with
  | nil => simp [insV]
  | cons x l ih =>
    rw [insV]
    split
    · simp only [List.length_cons]; omega
    · split <;> simp only [List.length_cons] <;> omega
theorem insL_len (vs : List Int) : ∀ (l : List Int), (insL l vs).length ≤ l.length + vs.length := by
  induction vs with
  | nil => intro l; simp [insL]
  | cons v vs ih => intro l; have h1 := ih (insV l v); have h2 := insV_len l v; have e : insL l (v :: vs) = insL (insV l v) vs := rfl; rw [e]; simp only [List.length_cons]; omega
/-- Two lists that grow and have the same members are one. -/
theorem one_of_members : ∀ (a b : List Int), a.Pairwise (· < ·) → b.Pairwise (· < ·) → (∀ y, y ∈ a ↔ y ∈ b) → a = b := by
  intro a
  induction a with
  | nil =>
    intro b _ _ h
    cases b with
    | nil => rfl
    | cons y b => exact absurd ((h y).2 (by simp)) (by simp)
  | cons x a ih =>
    intro b ha hb h
    cases b with
    | nil => exact absurd ((h x).1 (by simp)) (by simp)
    | cons y b =>
      rw [List.pairwise_cons] at ha hb
      have hxy : x = y := by
        rcases List.mem_cons.1 ((h x).1 (by simp)) with e | hx
        · exact e
        · rcases List.mem_cons.1 ((h y).2 (by simp)) with e | hy
          · exact e.symm
          · have := ha.1 y hy; have := hb.1 x hx; omega
      subst hxy
      congr 1
      refine ih b ha.2 hb.2 (fun z => ?_)
      constructor
      · intro hz
        rcases List.mem_cons.1 ((h z).1 (List.mem_cons_of_mem _ hz)) with e | hz'
        · have := ha.1 z hz; omega
        · exact hz'
      · intro hz
        rcases List.mem_cons.1 ((h z).2 (List.mem_cons_of_mem _ hz)) with e | hz'
        · have := hb.1 z hz; omega
        · exact hz'
theorem compactUp (zs : List Int) (hs : zs.Pairwise (· ≤ ·)) : ∀ m, m ≤ zs.length → (Lib.compactUpTo zs.toArray m).Pairwise (· < ·) ∧ ∀ y, y ∈ Lib.compactUpTo zs.toArray m ↔ ∃ j, j < m ∧ zs[j]? = some y := by
  have hg : ∀ j, j < zs.length → zs[j]? = some (zs.toArray[j]!) := fun j hj => by
    rw [List.getElem?_eq_getElem hj]
    simp [hj]
  intro m
  induction m with
  | zero => intro _; exact ⟨by simp [Lib.compactUpTo], fun y => by simp [Lib.compactUpTo]⟩
  | succ m ih =>
    intro hm
    obtain ⟨h1, h2⟩ := ih (by omega)
    rw [Lib.compactUpTo_succ]
    by_cases hk : Lib.keeps zs.toArray m = true
    · rw [if_pos hk]
      refine ⟨?_, fun y => ?_⟩
      · rw [List.pairwise_append]
        refine ⟨h1, by simp, fun x hx y hy => ?_⟩
        obtain ⟨j, hj, hjx⟩ := (h2 x).1 hx
        rw [List.mem_singleton] at hy
        subst hy
        have hne : zs.toArray[m]! ≠ zs.toArray[m - 1]! := by
          simp only [Lib.keeps, decide_eq_true_eq] at hk
          rcases hk with hk | hk
          · omega
          · exact hk
        have e1 : zs.toArray[m]! = zs[m] := by simp [show m < zs.length from hm]
        have e2 : zs.toArray[m - 1]! = zs[m - 1] := by simp [show m - 1 < zs.length by omega]
        rw [e1, e2] at hne
        rw [e1]
        have e3 : x = zs[j] := by rw [List.getElem?_eq_getElem (by omega)] at hjx; exact (Option.some.inj hjx).symm
        rw [List.pairwise_iff_getElem] at hs
        have a1 : zs[m - 1] ≤ zs[m] := hs (m - 1) m (by omega) (by omega) (by omega)
        have a2 : zs[j] ≤ zs[m - 1] := by
          by_cases hjm : j = m - 1
          · subst hjm; exact Int.le_refl _
          · exact hs j (m - 1) (by omega) (by omega) (by omega)
        rw [e3]; omega
      · rw [List.mem_append, h2, List.mem_singleton]
        constructor
        · rintro (⟨j, hj, e⟩ | e)
          · exact ⟨j, by omega, e⟩
          · exact ⟨m, by omega, by rw [e]; exact hg m hm⟩
        · rintro ⟨j, hj, e⟩
          by_cases hjm : j = m
          · subst hjm
            right
            have := hg j hm
            rw [this] at e
            exact (Option.some.inj e).symm
          · exact Or.inl ⟨j, by omega, e⟩
    · rw [if_neg hk, List.append_nil]
      refine ⟨h1, fun y => ?_⟩
      rw [h2]
      simp only [Lib.keeps, decide_eq_true_eq, not_or, Decidable.not_not] at hk
      constructor
      · rintro ⟨j, hj, e⟩; exact ⟨j, by omega, e⟩
      · rintro ⟨j, hj, e⟩
        by_cases hjm : j = m
        · subst hjm
          refine ⟨j - 1, by omega, ?_⟩
          rw [hg (j - 1) (by omega), ← hk.2, ← hg j hm]; exact e
        · exact ⟨j, by omega, e⟩
/-- What is sorted and made compact is what was put in its place, one by one. -/
theorem sorted_compact (vs : List Int) : Lib.compact (vs.mergeSort fun x y => decide (x ≤ y)) = insL [] vs := by
  have hs : (vs.mergeSort fun x y => decide (x ≤ y)).Pairwise (· ≤ ·) := by
    have := List.pairwise_mergeSort (le := fun x y => decide (x ≤ y)) (fun a b c h1 h2 => by simp only [decide_eq_true_eq] at *; omega) (fun a b => by simp only [Bool.or_eq_true, decide_eq_true_eq]; omega) vs
    exact this.imp (fun h => by simpa using h)
  obtain ⟨h1, h2⟩ := compactUp _ hs _ (Nat.le_refl _)
  refine one_of_members _ _ h1 (insL_sorted vs [] List.Pairwise.nil) (fun y => ?_)
  rw [show Lib.compact (vs.mergeSort fun x y => decide (x ≤ y)) = Lib.compactUpTo (vs.mergeSort fun x y => decide (x ≤ y)).toArray (vs.mergeSort fun x y => decide (x ≤ y)).length from rfl, h2, insL_mem]
  constructor
  · rintro ⟨j, hj, e⟩
    left
    rw [← List.mem_mergeSort (le := fun x y => decide (x ≤ y))]
    exact List.mem_of_getElem? e
  · rintro (h | h)
    · rw [← List.mem_mergeSort (le := fun x y => decide (x ≤ y))] at h
      obtain ⟨j, hj, e⟩ := List.getElem_of_mem h
      exact ⟨j, hj, by rw [List.getElem?_eq_getElem hj, e]⟩
    · simp at h
/-- The variables of a list of trees, as they come. -/
def varsF : F → List Int
  | .nil => []
  | .cons k n d r => (if k = 7 then [n] else varsF d) ++ varsF r
def vT (k n : Int) (d : F) : List Int := if k = 7 then [n] else varsF d
theorem varsF_len (f : F) : (varsF f).length ≤ f.size := by
  induction f with
  | nil => simp [varsF, F.size]
  | cons k n d r ihd ihr =>
    rw [varsF, List.length_append, F.size]
    split
    · simp only [List.length_singleton]; omega
    · omega
theorem vT_len (k n : Int) (d : F) : (vT k n d).length ≤ 1 + d.size := by
  unfold vT
  have := varsF_len d
  split
  · simp only [List.length_singleton]; omega
  · omega
/-- What TyVars answers. -/
def varsV (k n : Int) (d : F) : List Int := if okT k n d = true then insL [] (vT k n d) else []
theorem varsV_len (k n : Int) (d : F) : (varsV k n d).length ≤ 60 := by
  unfold varsV
  by_cases h : okT k n d = true
  · rw [if_pos h]
    simp only [okT, Bool.and_eq_true, decide_eq_true_eq] at h
    have h1 := insL_len (vT k n d) []
    have h2 := vT_len k n d
    simp only [List.length_nil] at h1
    omega
  · rw [if_neg h]; simp
end Go.Proofs.Ytmlganaiajhjeaa.By
