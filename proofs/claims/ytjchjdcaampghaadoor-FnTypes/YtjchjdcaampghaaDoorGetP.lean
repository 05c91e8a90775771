/-
  What reading a number from bytes comes to, as a plain function, and that both GetNum (the specification's and the landed one) answer it. No statement is proved here.
-/
import Derived.Test.YtjchjdcaampghaaDoorPutJJ
namespace Go.Proofs.YtjchjdcaampghaaDoor.By
open Go.RowKit
set_option linter.unusedVariables false

/-- The number in the bytes from p on: i bytes are behind us, which came to n; at most f more. -/
def getAt (zs : List Int) (p : Nat) : Nat → Nat → Int → Int × Int
  | 0, _, _ => (0, -1)
  | f + 1, i, n =>
    if p + i < zs.length then
      if 128 ≤ zs.getD (p + i) 0 then getAt zs p f (i + 1) (n + zs.getD (p + i) 0 % 128 * 128 ^ i)
      else if (zs.getD (p + i) 0 = 0 ∧ 0 < i) ∨ 2147483647 < n + zs.getD (p + i) 0 % 128 * 128 ^ i then (0, -1)
      else (n + zs.getD (p + i) 0 % 128 * 128 ^ i, (p : Int) + i + 1)
    else (0, -1)
def getNum (zs : List Int) (at' : Int) : Int × Int := if at' < 0 then (0, -1) else getAt zs at'.toNat 5 0 0

theorem getAt_out {zs : List Int} {p f i : Nat} {n : Int} (h : ¬ p + i < zs.length) : getAt zs p f i n = (0, -1) := by
  cases f with
  | zero => rfl
  | succ f => rw [getAt, if_neg h]
theorem getAt_more {zs : List Int} {p f i : Nat} {n x U : Int} (h : p + i < zs.length) (hx : x = zs.getD (p + i) 0) (hU : U = 128 ^ i) (h1 : 128 ≤ x) : getAt zs p (f + 1) i n = getAt zs p f (i + 1) (n + x % 128 * U) := by
  subst hx hU; rw [getAt, if_pos h, if_pos h1]
theorem getAt_no {zs : List Int} {p f i : Nat} {n x U : Int} (h : p + i < zs.length) (hx : x = zs.getD (p + i) 0) (hU : U = 128 ^ i) (h1 : x < 128) (h2 : (x = 0 ∧ 0 < i) ∨ 2147483647 < n + x % 128 * U) : getAt zs p (f + 1) i n = (0, -1) := by
  subst hx hU; rw [getAt, if_pos h, if_neg (by omega), if_pos h2]
theorem getAt_yes {zs : List Int} {p f i : Nat} {n x U : Int} (h : p + i < zs.length) (hx : x = zs.getD (p + i) 0) (hU : U = 128 ^ i) (h1 : x < 128) (h2 : ¬ ((x = 0 ∧ 0 < i) ∨ 2147483647 < n + x % 128 * U)) : getAt zs p (f + 1) i n = (n + x % 128 * U, (p : Int) + i + 1) := by
  subst hx hU; rw [getAt, if_pos h, if_neg (by omega), if_neg h2]
theorem at_zero {N x U r1 r2 : Int} {q k : Nat} (hx : x = 0) (hk : k = 0) (h : (N + x % 128 * U, (q : Int) + k + 1) = (r1, r2)) : (N, (q : Int) + 1) = (r1, r2) := by
  subst hx hk; simpa using h
theorem unit_le {k : Nat} {U : Int} (hU : U = 128 ^ k) (hk : k < 5) : 1 ≤ U ∧ U ≤ 268435456 := by
  rcases (show k = 0 ∨ k = 1 ∨ k = 2 ∨ k = 3 ∨ k = 4 by omega) with rfl | rfl | rfl | rfl | rfl <;> (subst hU; exact ⟨by decide, by decide⟩)
theorem unit_step {k : Nat} {U : Int} (hU : U = 128 ^ k) : U * 128 = 128 ^ (k + 1) := by rw [Int.pow_succ, hU]
theorem prod_le {x U : Int} (h0 : 0 ≤ x) (hU : 1 ≤ U) : 0 ≤ x % 128 * U ∧ x % 128 * U ≤ 127 * U := by
  exact ⟨Int.mul_nonneg (by omega) (by omega), Int.mul_le_mul_of_nonneg_right (by omega) (by omega)⟩

theorem and127 : ∀ x : Nat, x < 256 → bits BinOp.and IntKind.i64 (x : Int) 127 = (x : Int) % 128 := by decide +kernel
theorem and127' (x : Int) (h0 : 0 ≤ x) (h1 : x ≤ 255) : bits BinOp.and IntKind.i64 x 127 = x % 128 := by
  have := and127 x.toNat (by omega)
  rwa [Int.toNat_of_nonneg h0] at this

theorem ret2 {a b c d : Int} (h : (a, b) = (c, d)) : Ending.returned (.tuple #[.int .i64 a, .int .i64 b]) = .returned (.tuple #[.int .i64 c, .int .i64 d]) := by
  obtain ⟨rfl, rfl⟩ := Prod.mk.inj h; rfl
theorem getAt_bounds (zs : List Int) (hz : Byt zs) (p : Nat) : ∀ (f i : Nat) (n : Int), 0 ≤ n → (getAt zs p f i n = (0, -1)) ∨ (0 ≤ (getAt zs p f i n).1 ∧ 0 ≤ (getAt zs p f i n).2 ∧ (getAt zs p f i n).2 ≤ zs.length) := by
  intro f
  induction f with
  | zero => intro i n _; exact .inl rfl
  | succ f ih =>
    intro i n hn
    have hb := byt_get hz (p + i)
    rw [← List.getD_eq_getElem?_getD] at hb
    have hp : 0 ≤ zs.getD (p + i) 0 % 128 * 128 ^ i := Int.mul_nonneg (by omega) (Int.le_of_lt (Int.pow_pos (by decide)))
    rw [getAt]
    by_cases h1 : p + i < zs.length
    · rw [if_pos h1]
      by_cases h2 : 128 ≤ zs.getD (p + i) 0
      · rw [if_pos h2]; exact ih _ _ (by omega)
      · rw [if_neg h2]
        by_cases h3 : (zs.getD (p + i) 0 = 0 ∧ 0 < i) ∨ 2147483647 < n + zs.getD (p + i) 0 % 128 * 128 ^ i
        · rw [if_pos h3]; exact .inl rfl
        · rw [if_neg h3]; right; refine ⟨by show 0 ≤ n + _; omega, by show 0 ≤ (p : Int) + i + 1; omega, by show (p : Int) + i + 1 ≤ _; omega⟩
    · rw [if_neg h1]; exact .inl rfl
theorem getNum_bounds (zs : List Int) (hz : Byt zs) (p : Int) : (getNum zs p = (0, -1)) ∨ (0 ≤ (getNum zs p).1 ∧ 0 ≤ (getNum zs p).2 ∧ (getNum zs p).2 ≤ zs.length) := by
  unfold getNum; split
  · exact .inl rfl
  · exact getAt_bounds zs hz _ 5 0 0 (by omega)
end Go.Proofs.YtjchjdcaampghaaDoor.By
