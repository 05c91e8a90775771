/-
  The text of a tree, as bytes; the specification's decimals. No statement is proved here.
-/
import Derived.Test.YtpmndefmibnaeaaDoorVSb
import Derived.Lib.ItoaLen
namespace Go.Proofs.YtpmndefmibnaeaaDoor.By
open Go.RowKit
set_option linter.unusedVariables false
set_option linter.unusedSimpArgs false

def decB (n : Nat) : List Int := ofB (Lib.decDigits n)
theorem decB_small {n : Nat} (h : n < 10) : decB n = [48 + (n : Int)] := by
  unfold decB
  rw [Lib.decDigits, dif_pos h]
  simp [ofB, UInt8.toNat_ofNat]
  omega
theorem decB_great {n : Nat} (h : ¬ n < 10) : decB n = decB (n / 10) ++ [48 + ((n % 10 : Nat) : Int)] := by
  unfold decB
  rw [Lib.decDigits, dif_neg h, ofB_app]
  congr 1
  simp [ofB, UInt8.toNat_ofNat]
  omega
theorem decB_len : ∀ (m n : Nat), n < 10 ^ (m + 1) → (decB n).length ≤ m + 1 := by
  intro m
  induction m with
  | zero => intro n h; rw [decB_small (by omega)]; simp
  | succ m ih =>
    intro n h
    by_cases h10 : n < 10
    · rw [decB_small h10]; simp
    · rw [decB_great h10, List.length_append, List.length_singleton]
      have := ih (n / 10) (by rw [Nat.div_lt_iff_lt_mul (by decide)]; rw [Nat.pow_succ] at h; omega)
      omega
end Go.Proofs.YtpmndefmibnaeaaDoor.By
