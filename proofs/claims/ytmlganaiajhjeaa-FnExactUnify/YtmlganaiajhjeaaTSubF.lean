/-
  What stands for variables. No statement is proved here.
-/
import Derived.Test.YtmlganaiajhjeaaTPush
import Derived.Test.YtmlganaiajhjeaaTOk
namespace Go.Proofs.Ytmlganaiajhjeaa.By
open Go.RowKit
set_option linter.unusedVariables false

theorem fits_rangeV {k n : Int} {l : Nat} (h : fitsB k n l = true) : 0 ≤ k ∧ k ≤ 7 := by
  by_cases h0 : 0 ≤ k ∧ k ≤ 7
  · exact h0
  · rw [fitsx (by omega) (by omega) (by omega) (by omega) (by omega) (by omega) (by omega) (by omega)] at h; cases h

theorem New.nil (w u : World) (t : TypeId) : New w u t Option.none 0 0 .nil [] := ⟨⟨rfl, by omega, by omega, .inl ⟨rfl, rfl⟩⟩, List.nodup_nil, fun x hx => by simp at hx⟩
def F.nth : F → Nat → Option (Int × Int × F)
  | .nil, _ => none
  | .cons k n d _, 0 => some (k, n, d)
  | .cons _ _ _ r, i + 1 => r.nth i
theorem F.nth_none {f : F} : ∀ {i : Nat}, f.len ≤ i → f.nth i = none := by
  induction f with
  | nil => intro i _; rfl
  | cons k n d r _ ih =>
    intro i h
    cases i with
    | zero => simp [F.len] at h
    | succ i => exact ih (by simp [F.len] at h; omega)
/-- With what stands in E for its variables. -/
def subF (E : F) : F → F
  | .nil => .nil
  | .cons k n d r => match (if k = 7 then E.nth n.toNat else none) with
    | some x => .cons x.1 x.2.1 x.2.2 (subF E r)
    | none => .cons k n (subF E d) (subF E r)
def subT (E : F) (k n : Int) (d : F) : Int × Int × F := match (if k = 7 then E.nth n.toNat else none) with
  | some x => x
  | none => (k, n, subF E d)
theorem subF_cons (E : F) (k n : Int) (d r : F) : subF E (.cons k n d r) = .cons (subT E k n d).1 (subT E k n d).2.1 (subT E k n d).2.2 (subF E r) := by
  unfold subT
  rw [subF]
  split <;> rfl
theorem subF_len (E f : F) : (subF E f).len = f.len := by
  induction f with
  | nil => rfl
  | cons k n d r _ ih => rw [subF_cons]; simp only [F.len, ih]
theorem subT_other {E : F} {k n : Int} {d : F} (h : k ≠ 7) : subT E k n d = (k, n, subF E d) := by unfold subT; rw [if_neg h]
theorem subT_none {E : F} {n : Int} (h : E.len ≤ n.toNat) : subT E 7 n .nil = (7, n, .nil) := by unfold subT; rw [if_pos rfl, F.nth_none h]; rfl
theorem subT_some {E : F} {n : Int} {d : F} {x : Int × Int × F} (h : E.nth n.toNat = some x) : subT E 7 n d = x := by unfold subT; rw [if_pos rfl, h]
theorem subF_nil (f : F) : subF .nil f = f := by
  induction f with
  | nil => rfl
  | cons k n d r ihd ihr =>
    rw [subF]
    have : (if k = 7 then (F.nil).nth n.toNat else none) = none := by split <;> rfl
    rw [this, ihd, ihr]
theorem subT_nil (k n : Int) (d : F) : subT .nil k n d = (k, n, d) := by
  unfold subT
  have : (if k = 7 then (F.nil).nth n.toNat else none) = none := by split <;> rfl
  rw [this, subF_nil]
/-- All of the list are types. -/
def okL : F → Bool
  | .nil => true
  | .cons k n d r => okT k n d && okL r
theorem InF.nth {w : World} {f : F} : ∀ {b o i : Nat}, InF w f b o → i < f.len → ∃ k n d a l c, f.nth i = some (k, n, d) ∧ w.cell? ⟨b, o + i * 3, Option.none⟩ = some (.int .i64 k) ∧ w.cell? ⟨b, o + i * 3 + 1, Option.none⟩ = some (.int .i64 n) ∧ w.cell? ⟨b, o + i * 3 + 2, Option.none⟩ = some (.slice a l c) ∧ SlF w a l d := by
  induction f with
  | nil => intro b o i _ h; simp [F.len] at h
  | cons k n d r _ ih =>
    intro b o i h hi
    obtain ⟨a, l, c, c0, c1, c2, hd, hr⟩ := h.out
    cases i with
    | zero => exact ⟨k, n, d, a, l, c, rfl, by simpa using c0, by simpa using c1, by simpa using c2, hd⟩
    | succ i =>
      obtain ⟨k', n', d', a', l', c', q0, q1, q2, q3, q4⟩ := ih hr (by simp [F.len] at hi; omega)
      have e : o + 3 + i * 3 = o + (i + 1) * 3 := by omega
      rw [e] at q1 q2 q3
      exact ⟨k', n', d', a', l', c', q0, q1, q2, q3, q4⟩
theorem okL_nth {f : F} : ∀ {i : Nat} {x : Int × Int × F}, okL f = true → f.nth i = some x → okT x.1 x.2.1 x.2.2 = true := by
  induction f with
  | nil => intro i x _ h; simp [F.nth] at h
  | cons k n d r _ ih =>
    intro i x h hx
    simp only [okL, Bool.and_eq_true] at h
    cases i with
    | zero => simp [F.nth] at hx; subst hx; exact h.1
    | succ i => exact ih h.2 hx
end Go.Proofs.Ytmlganaiajhjeaa.By
