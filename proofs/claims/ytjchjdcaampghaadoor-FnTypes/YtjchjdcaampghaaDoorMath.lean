/-
  Numbers come back from their bytes, and bytes that are read as a number are just its: of the plain functions putB and getNum. No statement is proved here.
-/
import Derived.Test.YtjchjdcaampghaaDoorGetP
import Derived.Test.YtjchjdcaampghaaDoorPutJJ
namespace Go.Proofs.YtjchjdcaampghaaDoor.By
open Go.RowKit
set_option linter.unusedVariables false

theorem drop_get {Z l : List Int} {q : Nat} {x : Int} (h : Z.drop q = x :: l) : q < Z.length ∧ Z.getD q 0 = x ∧ Z.drop (q + 1) = l := by
  have hq : q < Z.length := by
    rcases Nat.lt_or_ge q Z.length with h1 | h1
    · exact h1
    · rw [List.drop_of_length_le h1] at h; cases h
  rw [List.drop_eq_getElem_cons hq] at h
  injection h with h1 h2
  exact ⟨hq, by rw [List.getD_eq_getElem?_getD, List.getElem?_eq_getElem hq]; exact h1, h2⟩

theorem unit_sum (m U : Int) : m % 128 * U + m / 128 * (U * 128) = m * U := by
  have h : m = m % 128 + 128 * (m / 128) := by omega
  have e : m / 128 * (U * 128) = 128 * (m / 128) * U := by
    rw [Int.mul_comm U 128, ← Int.mul_assoc, Int.mul_comm (m / 128) 128]
  rw [e, ← Int.add_mul, ← h]

theorem get_put (Z rest : List Int) (p : Nat) : ∀ (m i f : Nat) (acc : Int), Z.drop (p + i) = putB m ++ rest → (putB m).length ≤ f → (0 < i → 0 < m) → acc + (m : Int) * 128 ^ i ≤ 2147483647 → 0 ≤ acc →
    getAt Z p f i acc = (acc + (m : Int) * 128 ^ i, (p : Int) + i + (putB m).length) := by
  intro m
  induction m using Nat.strongRecOn with
  | ind m ih =>
    intro i f acc hd hf h0 hmax hacc
    have hU : (1 : Int) ≤ 128 ^ i := Int.pow_pos (by decide)
    by_cases hm : m ≤ 127
    · rw [putB_small hm] at hd hf ⊢
      obtain ⟨hq, hx, _⟩ := drop_get (by simpa using hd)
      obtain ⟨f', rfl⟩ : ∃ f', f = f' + 1 := ⟨f - 1, by simp at hf; omega⟩
      have e : (m : Int) % 128 = m := by omega
      have hno : ¬ (((m : Int) = 0 ∧ 0 < i) ∨ 2147483647 < acc + (m : Int) % 128 * 128 ^ i) := by
        rw [e]
        intro h
        rcases h with ⟨h1, h2⟩ | h1
        · have := h0 h2; omega
        · omega
      rw [getAt_yes hq hx.symm rfl (by omega) hno, e]
      simp
    · rw [putB_more (by omega)] at hd hf ⊢
      obtain ⟨hq, hx, hd'⟩ := drop_get (by simpa using hd)
      obtain ⟨f', rfl⟩ : ∃ f', f = f' + 1 := ⟨f - 1, by simp at hf; omega⟩
      have e : ((m : Int) % 128 + 128) % 128 = (m : Int) % 128 := by omega
      have hs := unit_sum (m : Int) (128 ^ i)
      have hdiv : ((m / 128 : Nat) : Int) = (m : Int) / 128 := by omega
      have hp1 : (0 : Int) ≤ (m : Int) % 128 * 128 ^ i := Int.mul_nonneg (by omega) (by omega)
      rw [getAt_more hq hx.symm rfl (by omega), e]
      rw [ih (m / 128) (by omega) (i + 1) f' (acc + (m : Int) % 128 * 128 ^ i) (by rw [← Nat.add_assoc]; exact hd') (by simp at hf; omega) (by omega) (by rw [hdiv, Int.pow_succ]; omega) (by omega)]
      rw [hdiv, Int.pow_succ]
      have e3 : acc + (m : Int) % 128 * 128 ^ i + (m : Int) / 128 * (128 ^ i * 128) = acc + (m : Int) * 128 ^ i := by omega
      rw [e3]
      simp
      omega

theorem put_get (Z : List Int) (hz : Byt Z) (p : Nat) : ∀ (f i : Nat) (acc k e : Int), 0 ≤ acc → getAt Z p f i acc = (k, e) → 0 ≤ e →
    ∃ m : Nat, ∃ q : Nat, e = q ∧ q ≤ Z.length ∧ Z.drop (p + i) = putB m ++ Z.drop q ∧ q = p + i + (putB m).length ∧ k = acc + (m : Int) * 128 ^ i ∧ (0 < i → 0 < m) ∧ k ≤ 2147483647 := by
  intro f
  induction f with
  | zero => intro i acc k e _ h he; simp [getAt] at h; omega
  | succ f ih =>
    intro i acc k e hacc h he
    have hU : (1 : Int) ≤ 128 ^ i := Int.pow_pos (by decide)
    by_cases hq : p + i < Z.length
    · have hb := byt_get hz (p + i)
      rw [← List.getD_eq_getElem?_getD] at hb
      have hd : Z.drop (p + i) = Z.getD (p + i) 0 :: Z.drop (p + i + 1) := by
        rw [List.drop_eq_getElem_cons hq, List.getD_eq_getElem?_getD, List.getElem?_eq_getElem hq]; rfl
      generalize hx : Z.getD (p + i) 0 = x at *
      by_cases h1 : 128 ≤ x
      · rw [getAt_more hq hx.symm rfl h1] at h
        have hp1 : (0 : Int) ≤ x % 128 * 128 ^ i := Int.mul_nonneg (by omega) (by omega)
        obtain ⟨m', q, rfl, hql, hd', hqe, hk, hm', hmax⟩ := ih (i + 1) (acc + x % 128 * 128 ^ i) k e (by omega) h he
        have hm1 := hm' (by omega)
        obtain ⟨y, rfl⟩ : ∃ y : Nat, x = (y : Int) := ⟨x.toNat, by omega⟩
        have hmd : (128 * m' + (y - 128)) / 128 = m' := by omega
        have hmm : (((128 * m' + (y - 128)) % 128 + 128 : Nat) : Int) = (y : Int) := by omega
        refine ⟨128 * m' + (y - 128), q, rfl, hql, ?_, ?_, ?_, by omega, hmax⟩
        · rw [putB_more (by omega), hmd, hmm, hd, List.cons_append]
          rw [← Nat.add_assoc] at hd'
          rw [hd']
        · rw [putB_more (by omega), hmd]; simp; omega
        · rw [hk, Int.pow_succ]
          have hs := unit_sum ((128 * m' + (y - 128) : Nat) : Int) (128 ^ i)
          have a1 : ((128 * m' + (y - 128) : Nat) : Int) % 128 = (y : Int) % 128 := by omega
          have a2 : ((128 * m' + (y - 128) : Nat) : Int) / 128 = (m' : Int) := by omega
          rw [a1, a2] at hs
          omega
      · by_cases h2 : (x = 0 ∧ 0 < i) ∨ 2147483647 < acc + x % 128 * 128 ^ i
        · rw [getAt_no hq hx.symm rfl (by omega) h2] at h
          injection h with _ h; omega
        · rw [getAt_yes hq hx.symm rfl (by omega) h2] at h
          injection h with h3 h4
          obtain ⟨y, rfl⟩ : ∃ y : Nat, x = (y : Int) := ⟨x.toNat, by omega⟩
          have a1 : (y : Int) % 128 = y := by omega
          rw [a1] at h3 h2
          refine ⟨y, p + i + 1, by omega, by omega, ?_, ?_, h3.symm, by omega, by omega⟩
          · rw [putB_small (by omega), hd]; rfl
          · rw [putB_small (by omega)]; rfl
    · rw [getAt_out hq] at h
      injection h with _ h; omega

/-- What was put is got. -/
theorem back (zs rest : List Int) (N : Int) (h0 : 0 ≤ N) (h1 : N ≤ 2147483647) (hlen : (numB N).length ≤ 5) : getNum (zs ++ numB N ++ rest) (zs.length : Int) = (N, (zs.length : Int) + (numB N).length) := by
  rw [numB_in h0 h1] at hlen ⊢
  unfold getNum
  rw [if_neg (by omega), Int.toNat_natCast, get_put (zs ++ putB N.toNat ++ rest) rest zs.length N.toNat 0 5 0 (by rw [List.append_assoc]; simp) hlen (by omega) (by simp; omega) (by omega)]
  simp; omega
/-- What is read as a number is just its bytes. -/
theorem just (Z : List Int) (hz : Byt Z) (p k e : Int) (h : getNum Z p = (k, e)) (he : 0 ≤ e) : ∃ P E : Nat, p = P ∧ e = E ∧ P ≤ E ∧ E ≤ Z.length ∧ 0 ≤ k ∧ k ≤ 2147483647 ∧ Z.take E = Z.take P ++ numB k := by
  unfold getNum at h
  split at h
  · injection h with _ h; omega
  · obtain ⟨m, q, rfl, hql, hd, hq, hk, _, hmax⟩ := put_get Z hz p.toNat 5 0 0 k e (by omega) h he
    have hk' : k = (m : Int) := by rw [hk]; simp
    refine ⟨p.toNat, q, by omega, rfl, by omega, hql, by omega, hmax, ?_⟩
    rw [numB_in (by omega) hmax, hk', Int.toNat_natCast]
    rw [Nat.add_zero] at hd hq
    have e1 : Z.take q = Z.take p.toNat ++ (Z.drop p.toNat).take (q - p.toNat) := by
      rw [← List.take_add]; congr 1; omega
    have e2 : q - p.toNat = (putB m).length := by omega
    rw [e1, hd, e2, List.take_append_of_le_length (Nat.le_refl _), List.take_of_length_le (Nat.le_refl _)]
end Go.Proofs.YtjchjdcaampghaaDoor.By
