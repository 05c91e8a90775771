/-
  A type's bytes are read back, and what is read is just its bytes: lists. No statement is proved here.
-/
import Derived.Test.YtjchjdcaampghaaDoorTRd
import Derived.Test.YtjchjdcaampghaaDoorTBy
import Derived.Test.YtjchjdcaampghaaDoorMath
namespace Go.Proofs.YtjchjdcaampghaaDoor.By
open Go.RowKit
set_option linter.unusedVariables false

theorem getD_at (pre : List Int) (x : Int) (rest : List Int) : (pre ++ x :: rest).getD pre.length 0 = x := by
  simp [List.getD_eq_getElem?_getD]
theorem num_len5 (n : Int) : (numB n).length ≤ 5 := numB_len n
theorem hd_back {k n : Int} {l : Nat} (h : fitsB k n l = true) (pre rest : List Int) : hd (pre ++ headB k n l ++ rest) (pre.length : Int) = some (k, n, l, (pre.length : Int) + (headB k n l).length) := by
  have hk := fits_range h
  have hlen : (headB k n l).length ≠ 0 := by simp [headB]
  have e0 : (pre ++ headB k n l ++ rest).getD pre.length 0 = k := by
    rw [List.append_assoc]
    exact getD_at pre k _
  unfold hd
  rw [if_neg (by simp only [List.length_append]; omega), Int.toNat_natCast, e0]
  by_cases h6 : k = 6
  · subst h6
    have hl : l ≤ 3 := by
      rcases Nat.lt_or_ge 3 l with hx | hx
      · rw [fits6x (by omega)] at h; cases h
      · exact hx
    have hn : 0 ≤ n ∧ n ≤ 19 := by
      rw [fits6 hl] at h
      simp only [Bool.and_eq_true, decide_eq_true_eq] at h
      omega
    have g1 := back (pre ++ [6]) (numB (l : Int) ++ rest) n (by omega) (by omega) (num_len5 n)
    have g2 := back (pre ++ [6] ++ numB n) rest (l : Int) (by omega) (by omega) (num_len5 _)
    have ez : pre ++ headB 6 n l ++ rest = pre ++ [6] ++ numB n ++ (numB (l : Int) ++ rest) := by simp [headB]
    have ez2 : pre ++ [6] ++ numB n ++ (numB (l : Int) ++ rest) = pre ++ [6] ++ numB n ++ numB (l : Int) ++ rest := by simp
    have el : ((pre ++ [6]).length : Int) = (pre.length : Int) + 1 := by simp
    have el2 : ((pre ++ [6] ++ numB n).length : Int) = (pre.length : Int) + 1 + (numB n).length := by simp; omega
    rw [ez]
    rw [el] at g1
    rw [← ez2, el2] at g2
    unfold hdN
    simp only [g1]
    simp only [g2]
    have eh : (headB 6 n l).length = 1 + (numB n).length + (numB (l : Int)).length := by simp [headB]; omega
    rw [eh]
    simp
    omega
  · by_cases h7 : k = 7
    · subst h7
      rw [fits7] at h
      simp only [Bool.and_eq_true, decide_eq_true_eq] at h
      have g1 := back (pre ++ [7]) rest n (by omega) (by omega) (num_len5 n)
      have ez : pre ++ headB 7 n l ++ rest = pre ++ [7] ++ numB n ++ rest := by simp [headB]
      have el : ((pre ++ [7]).length : Int) = (pre.length : Int) + 1 := by simp
      rw [ez]
      rw [el] at g1
      unfold hdN
      simp only [g1]
      have eh : (headB 7 n l).length = 1 + (numB n).length := by simp [headB]; omega
      rw [eh]
      simp
      omega
    · have eh : (headB k n l).length = 1 := by simp [headB, h6, h7]
      rw [eh]
      unfold fitsB at h
      unfold hdN
      rcases (by omega : k = 0 ∨ k = 1 ∨ k = 2 ∨ k = 3 ∨ k = 4 ∨ k = 5) with rfl | rfl | rfl | rfl | rfl | rfl <;> simp at h <;> simp [h]
/-- A list of trees is read back. -/
theorem rdL_back (f : F) : ∀ (p : Nat), okF f p = true → ∀ (pre rest : List Int), rdL (rdT (pre ++ bytesF f ++ rest) p) f.len (pre.length : Int) = some (f, (pre.length : Int) + (bytesF f).length) := by
  induction f with
  | nil => intro p _ pre rest; simp [rdL, F.len, bytesF]
  | cons k n d r ihd ihr =>
    intro p h pre rest
    simp only [okF, Bool.and_eq_true, decide_eq_true_eq] at h
    obtain ⟨q, rfl⟩ : ∃ q, p = q + 1 := ⟨p - 1, by omega⟩
    have eb : bytesF (.cons k n d r) = headB k n d.len ++ bytesF d ++ bytesF r := by simp [bytesF]
    have el : (F.cons k n d r).len = r.len + 1 := by simp [F.len]
    have ez : pre ++ bytesF (.cons k n d r) ++ rest = pre ++ headB k n d.len ++ (bytesF d ++ (bytesF r ++ rest)) := by rw [eb]; simp
    have ez1 : pre ++ headB k n d.len ++ (bytesF d ++ (bytesF r ++ rest)) = (pre ++ headB k n d.len) ++ bytesF d ++ (bytesF r ++ rest) := by simp
    have ez2 : pre ++ headB k n d.len ++ (bytesF d ++ (bytesF r ++ rest)) = (pre ++ headB k n d.len ++ bytesF d) ++ bytesF r ++ rest := by simp
    have hh := hd_back h.1.1.2 pre (bytesF d ++ (bytesF r ++ rest))
    have h1 := ihd q (by simpa using h.1.2) (pre ++ headB k n d.len) (bytesF r ++ rest)
    have h2 := ihr (q + 1) h.2 (pre ++ headB k n d.len ++ bytesF d) rest
    rw [← ez1] at h1
    rw [← ez2] at h2
    have e1 : ((pre ++ headB k n d.len).length : Int) = (pre.length : Int) + (headB k n d.len).length := by simp
    have e2 : ((pre ++ headB k n d.len ++ bytesF d).length : Int) = (pre.length : Int) + (headB k n d.len).length + (bytesF d).length := by simp; omega
    rw [e1] at h1
    rw [e2] at h2
    rw [ez, el, rdL, rdT, hh]
    simp only [h1, h2]
    rw [eb]
    simp only [List.length_append, Option.some.injEq, Prod.mk.injEq, true_and]
    omega
/-- A type is read back from its bytes. -/
theorem readV_back {k n : Int} {d : F} (h : okT k n d = true) (pre rest : List Int) : readV (pre ++ tyB k n d ++ rest) (pre.length : Int) = (k, n, d, (pre.length : Int) + (tyB k n d).length) := by
  have h' := h
  simp only [okT, Bool.and_eq_true, decide_eq_true_eq] at h'
  have ez : pre ++ tyB k n d ++ rest = pre ++ headB k n d.len ++ (bytesF d ++ rest) := by simp [tyB]
  have ez1 : pre ++ headB k n d.len ++ (bytesF d ++ rest) = (pre ++ headB k n d.len) ++ bytesF d ++ rest := by simp
  have hh := hd_back h'.1.1 pre (bytesF d ++ rest)
  have h1 := rdL_back d 9 h'.1.2 (pre ++ headB k n d.len) rest
  rw [← ez1] at h1
  have e1 : ((pre ++ headB k n d.len).length : Int) = (pre.length : Int) + (headB k n d.len).length := by simp
  rw [e1] at h1
  unfold readV
  rw [ez, show (10 : Nat) = 9 + 1 from rfl, rdT, hh]
  simp only [h1]
  rw [if_pos h]
  simp [tyB]
  omega
end Go.Proofs.YtjchjdcaampghaaDoor.By
