/-
  How great a world is behind a foreign call. No statement is proved here.
-/
import Derived.Test.YtccnninmkfhejaaYMx
import Derived.Test.YtccnninmkfhejaaYSf
namespace Go.Proofs.Ytccnninmkfhejaa.By
open Go.RowKit
set_option linter.unusedVariables false
set_option linter.unusedSimpArgs false

theorem szEvents_app : ∀ (P R : List REvent), szEvents (P ++ R) = szEvents P + szEvents R
  | [], R => by simp [szEvents]
  | x :: r, R => by simp only [List.cons_append, szEvents, szEvents_app r R]; omega
theorem evn_le : ∀ (xs : List REvent), evn xs ≤ szEvents xs + 3 * xs.length
  | [] => by simp [evn]
  | x :: r => by have := evn_le r; simp only [evn, szEvents, szEvent, List.length_cons]; omega
theorem lit_le : ∀ {xs : List REvent}, ∀ y ∈ xs, y.lit.length ≤ szEvents xs
  | [], y, hy => by simp at hy
  | x :: r, y, hy => by
    simp only [szEvents, szEvent]
    rcases List.mem_cons.1 hy with rfl | hy
    · omega
    · have := lit_le y hy; omega
theorem callV_ev (x : RWorld) (kind A C : Int) (lit : List Int) : (callV x kind A C lit).2.lit.length ≤ lit.length ∧ (callV x kind A C lit).1.trace = x.trace := by
  unfold callV
  split
  · exact ⟨Nat.le_refl _, rfl⟩
  split
  · exact ⟨Nat.zero_le _, rfl⟩
  split
  · refine ⟨Nat.zero_le _, ?_⟩
    unfold drawV
    split
    · rfl
    · split <;> rfl
  split
  · exact ⟨Nat.zero_le _, rfl⟩
  · exact ⟨Nat.zero_le _, rfl⟩
/-- The world behind a call: not much greater than the one ahead of it. -/
theorem forV_sz (x : RWorld) (kind A C : Int) (lit : List Int) (hs : szWorld x ≤ 1048576) : szWorld (forV x kind A C lit).1 ≤ 1048700 ∧ markN (forV x kind A C lit).1 ≤ 4194304 ∧ ∀ y ∈ (forV x kind A C lit).1.trace, y.lit.length ≤ 1048576 := by
  unfold forV
  split
  · rename_i h
    simp only [forOk, takV, Bool.and_eq_true, decide_eq_true_eq] at h
    obtain ⟨-, ⟨⟨⟨h1, -⟩, -⟩, h2⟩, h3⟩ := h
    have hf := wok_facts h1
    have cl := callV_len x kind A C lit
    have ce := callV_ev x kind A C lit
    have el := evn_le x.trace
    unfold szWorld at hs
    rw [szEntrys_eq] at hs
    have e1 : szEvents (x.trace ++ [(callV x kind A C lit).2]) ≤ szEvents x.trace + 65 := by rw [szEvents_app]; simp only [szEvents, szEvent]; omega
    have e2 : evn (x.trace ++ [(callV x kind A C lit).2]) ≤ evn x.trace + 68 := by rw [evn_app]; simp only [evn]; omega
    refine ⟨?_, ?_, ?_⟩
    · show (callV x kind A C lit).1.draws.length + szEntrys (callV x kind A C lit).1.store + szEvents ((callV x kind A C lit).1.trace ++ [(callV x kind A C lit).2]) ≤ _
      rw [szEntrys_eq, ce.2]; omega
    · show (callV x kind A C lit).1.draws.length + 2 * (callV x kind A C lit).1.store.length + evn ((callV x kind A C lit).1.trace ++ [(callV x kind A C lit).2]) ≤ _
      rw [ce.2]; omega
    · show ∀ y ∈ (callV x kind A C lit).1.trace ++ [(callV x kind A C lit).2], _
      rw [ce.2]
      intro y hy
      rcases List.mem_append.1 hy with hy | hy
      · have := lit_le y hy; omega
      · simp only [List.mem_cons, List.not_mem_nil, or_false] at hy; subst hy; omega
  · exact ⟨by simp [szWorld, szEntrys, szEvents], by simp [markN, evn], fun y hy => by simp at hy⟩
end Go.Proofs.Ytccnninmkfhejaa.By
