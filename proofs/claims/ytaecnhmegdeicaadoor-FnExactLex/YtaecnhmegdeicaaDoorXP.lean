/-
  Marks in lists: where the first stands. No statement is proved here.
-/
import Derived.Test.YtaecnhmegdeicaaDoorXM
namespace Go.Proofs.YtaecnhmegdeicaaDoor.By
open Go.RowKit
set_option linter.unusedVariables false
set_option linter.unusedSimpArgs false

theorem qN_cons (z : Int) (r : List Int) : qN (z :: r) = if z = 34 then 0 else qN r + 1 := by
  unfold qN
  rw [List.takeWhile_cons]
  by_cases h : z = 34 <;> simp [h]
theorem qN_at : ∀ (zs : List Int) (k : Nat), k < zs.length → k ≤ qN zs → zs.getD k 0 = 34 → qN zs = k
  | [], k, h, _, _ => by simp at h
  | z :: r, 0, _, _, h => by
    have : z = 34 := h
    rw [qN_cons, if_pos this]
  | z :: r, k + 1, h, h1, h2 => by
    rw [qN_cons] at *
    split at h1
    · omega
    · next hz =>
      rw [if_neg hz, qN_at r k (by simpa using h) (by omega) (by simpa using h2)]
theorem qN_next : ∀ (zs : List Int) (k : Nat), k < zs.length → k ≤ qN zs → ¬ zs.getD k 0 = 34 → k + 1 ≤ qN zs
  | [], k, h, _, _ => by simp at h
  | z :: r, 0, _, _, h => by
    have : ¬ z = 34 := h
    rw [qN_cons, if_neg this]; omega
  | z :: r, k + 1, h, h1, h2 => by
    rw [qN_cons] at *
    split at h1
    · omega
    · next hz =>
      have := qN_next r k (by simpa using h) (by omega) (by simpa using h2)
      rw [if_neg hz]; omega
/-- What the first token is, by the first byte. -/
theorem firstV_mark {zs : List Int} (h : zs.getD 0 0 = 34) : firstV zs = litT (zs.drop 1) := by
  unfold firstV
  rw [h, if_neg (by decide), if_neg (by decide), if_pos rfl]
theorem firstV_piece {zs : List Int} (h0 : ¬ zs.getD 0 0 = 40) (h1 : ¬ zs.getD 0 0 = 41) (h2 : ¬ zs.getD 0 0 = 34) : firstV zs = (pieceV (zs.take (sepN zs))).map fun x => (x, sepN zs) := by
  unfold firstV
  rw [if_neg h0, if_neg h1, if_neg h2]
end Go.Proofs.YtaecnhmegdeicaaDoor.By
