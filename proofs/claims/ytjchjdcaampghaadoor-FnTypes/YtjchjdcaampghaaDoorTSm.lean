/-
  The text of a tree, as bytes; the specification's decimals. No statement is proved here.
-/
import Derived.Test.YtjchjdcaampghaaDoorTSb
import Derived.Lib.ItoaLen
namespace Go.Proofs.YtjchjdcaampghaaDoor.By
open Go.RowKit
set_option linter.unusedVariables false
set_option linter.unusedSimpArgs false

def decB (n : Nat) : List Int := ofB (Lib.decDigits n)
theorem decB_small {n : Nat} (h : n < 10) : decB n = [48 + (n : Int)] := by
  unfold decB
  rw [Lib.decDigits, dif_pos h]
  simp [ofB, UInt8.toNat_ofNat]
  omega
theorem decB_great {n : Nat} (h : ¬ n < 10) : decB n = decB (n / 10) ++ [48 + ((n % 10 : Nat) : Int)] := by
  unfold decB
  rw [Lib.decDigits, dif_neg h, ofB_app]
  congr 1
  simp [ofB, UInt8.toNat_ofNat]
  omega
theorem decB_len : ∀ (m n : Nat), n < 10 ^ (m + 1) → (decB n).length ≤ m + 1 := by
  intro m
  induction m with
  | zero => intro n h; rw [decB_small (by omega)]; simp
  | succ m ih =>
    intro n h
    by_cases h10 : n < 10
    · rw [decB_small h10]; simp
    · rw [decB_great h10, List.length_append, List.length_singleton]
      have := ih (n / 10) (by rw [Nat.div_lt_iff_lt_mul (by decide)]; rw [Nat.pow_succ] at h; omega)
      omega

theorem fits_rangeS {k n : Int} {l : Nat} (h : fitsB k n l = true) : 0 ≤ k ∧ k ≤ 7 := by
  by_cases h0 : 0 ≤ k ∧ k ≤ 7
  · exact h0
  · rw [fitsx (by omega) (by omega) (by omega) (by omega) (by omega) (by omega) (by omega) (by omega)] at h; cases h
/-- The word of a kind. -/
def wordB (k : Int) : List Int :=
  if k = 0 then [117, 110, 105, 116] else if k = 1 then [105, 110, 116] else if k = 2 then [116, 101, 120, 116] else if k = 3 then [112, 97, 105, 114] else if k = 4 then [102, 117, 110] else [114, 101, 102]
/-- What stands ahead of the parts, and whether they follow. -/
def headS (k n : Int) : List Int := if k = 6 then [40, 100, 97, 116, 97, 32] ++ decB n.toNat else if k = 7 then 39 :: decB n.toNat else if k ≤ 2 then wordB k else 40 :: wordB k
def bodyS (k n : Int) (s : List Int) : List Int := headS k n ++ (if 3 ≤ k ∧ k ≤ 6 then s ++ [41] else [])
/-- The texts of parts, each behind a blank. -/
def sayF : F → List Int
  | .nil => []
  | .cons k n d r => 32 :: bodyS k n (sayF d) ++ sayF r
def sayT (k n : Int) (d : F) : List Int := bodyS k n (sayF d)
/-- The number of a kind that has one. -/
theorem fits_num {k n : Int} {l : Nat} (h : fitsB k n l = true) : 0 ≤ n ∧ n ≤ 99999 ∧ (k = 6 → n ≤ 19) := by
  unfold fitsB at h
  split at h
  · simp only [Bool.and_eq_true, decide_eq_true_eq] at h; omega
  · split at h
    · simp only [Bool.and_eq_true, decide_eq_true_eq] at h; omega
    · split at h
      · simp only [Bool.and_eq_true, decide_eq_true_eq] at h; omega
      · split at h
        · simp only [Bool.and_eq_true, decide_eq_true_eq] at h; omega
        · split at h
          · simp only [Bool.and_eq_true, decide_eq_true_eq] at h; omega
          · cases h
theorem wordB_len (k : Int) : (wordB k).length ≤ 4 := by unfold wordB; (repeat' split) <;> simp
theorem headS_len {k n : Int} {l : Nat} (h : fitsB k n l = true) : (headS k n).length ≤ 8 := by
  have hn := fits_num h
  have hw := wordB_len k
  unfold headS
  split
  · rename_i e
    have := decB_len 1 n.toNat (by have := hn.2.2 e; omega)
    simp only [List.length_append, List.length_cons, List.length_nil]; omega
  · split
    · have := decB_len 4 n.toNat (by omega)
      simp only [List.length_cons]; omega
    · split
      · omega
      · simp only [List.length_cons]; omega
theorem bodyS_len {k n : Int} {l : Nat} (h : fitsB k n l = true) (s : List Int) : (bodyS k n s).length ≤ 9 + s.length := by
  have := headS_len h
  unfold bodyS
  rw [List.length_append]
  split
  · simp only [List.length_append, List.length_singleton]; omega
  · simp only [List.length_nil]; omega
theorem sayF_len (f : F) : ∀ p, okF f p = true → (sayF f).length ≤ 12 * f.size := by
  induction f with
  | nil => intro p _; simp [sayF]
  | cons k n d r ihd ihr =>
    intro p h
    simp only [okF, Bool.and_eq_true, decide_eq_true_eq] at h
    have h1 := ihd _ h.1.2
    have h2 := ihr _ h.2
    have h3 := bodyS_len h.1.1.2 (sayF d)
    have e : (F.cons k n d r).size = 1 + d.size + r.size := rfl
    rw [sayF, e]
    simp only [List.length_append, List.length_cons]
    omega
theorem sayT_len (k n : Int) (d : F) {l p : Nat} (h : fitsB k n l = true) (hd : okF d p = true) : (sayT k n d).length + 1 ≤ 12 * (1 + d.size) := by
  have h1 := sayF_len d p hd
  have h3 := bodyS_len h (sayF d)
  unfold sayT
  omega
end Go.Proofs.YtjchjdcaampghaaDoor.By
