/-
  Texts come back from their bytes, and bytes that are read as a text are just its: of the plain functions textB and getText. No statement is proved here.
-/
import Derived.Test.YtonmcndedbmbfaaMath
namespace Go.Proofs.Ytonmcndedbmbfaa.By
open Go.RowKit
set_option linter.unusedVariables false

/-- The bytes of a text; none, where it is too long. -/
def textB (ts : List Int) : List Int := if 40 < ts.length then [] else numB (ts.length : Int) ++ ts
theorem textB_long {ts : List Int} (h : 40 < ts.length) : textB ts = [] := by rw [textB, if_pos h]
theorem textB_fits {ts : List Int} (h : ¬ 40 < ts.length) : textB ts = numB (ts.length : Int) ++ ts := by rw [textB, if_neg h]
/-- What a text read from p on is: none (-1), or the bytes and the place behind them. -/
def getText (zs : List Int) (p : Int) : Option (List Int × Int) :=
  if (getNum zs p).2 < 0 ∨ 40 < (getNum zs p).1 ∨ (zs.length : Int) - (getNum zs p).2 < (getNum zs p).1 then none
  else some ((zs.drop (getNum zs p).2.toNat).take (getNum zs p).1.toNat, (getNum zs p).2 + (getNum zs p).1)

theorem textBack (zs ts : List Int) (h : ¬ 40 < ts.length) (hl : (numB (ts.length : Int)).length ≤ 5) : getText (zs ++ textB ts) (zs.length : Int) = some (ts, ((zs ++ textB ts).length : Int)) := by
  rw [textB_fits h]
  have hb := back zs ts (ts.length : Int) (by omega) (by omega) hl
  rw [List.append_assoc] at hb
  unfold getText
  rw [hb]
  have hlen : (zs ++ (numB (ts.length : Int) ++ ts)).length = zs.length + (numB (ts.length : Int)).length + ts.length := by simp; omega
  rw [if_neg (by simp only [hlen]; omega)]
  have e1 : ((zs.length : Int) + ((numB (ts.length : Int)).length : Int)).toNat = zs.length + (numB (ts.length : Int)).length := by omega
  have e2 : ((ts.length : Int)).toNat = ts.length := by omega
  simp only [e1, e2]
  have e3 : (zs ++ (numB (ts.length : Int) ++ ts)).drop (zs.length + (numB (ts.length : Int)).length) = ts := by
    rw [← List.append_assoc, ← List.length_append, List.drop_left]
  rw [e3, List.take_of_length_le (Nat.le_refl _), hlen]
  congr 2

theorem textJust (Z : List Int) (hz : Byt Z) (p : Int) (u : List Int) (e : Int) (h : getText Z p = some (u, e)) : ∃ P E : Nat, p = P ∧ e = E ∧ P ≤ E ∧ E ≤ Z.length ∧ ¬ 40 < u.length ∧ Z.take E = Z.take P ++ textB u := by
  unfold getText at h
  obtain ⟨k, q, hkq⟩ : ∃ k q, getNum Z p = (k, q) := ⟨_, _, rfl⟩
  rw [hkq] at h
  simp only at h
  split at h
  · cases h
  · rename_i hn
    injection h with h
    injection h with h1 h2
    obtain ⟨P, Q, rfl, rfl, hPQ, hQl, hk0, hkm, htk⟩ := just Z hz p k q hkq (by omega)
    obtain ⟨k', rfl⟩ : ∃ k' : Nat, k = k' := ⟨k.toNat, by omega⟩
    rw [Int.toNat_natCast, Int.toNat_natCast] at h1
    have hul : u.length = k' := by rw [← h1]; simp; omega
    refine ⟨P, Q + k', rfl, by omega, by omega, by omega, by omega, ?_⟩
    rw [textB_fits (by omega), hul, ← List.append_assoc, ← htk, ← h1, List.take_add]
end Go.Proofs.Ytonmcndedbmbfaa.By
