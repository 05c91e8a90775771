/-
  What an op has, whether an instruction is one: the specification's by their contracts. No statement is proved here.
-/
import Derived.Test.YtmjbnalhimhgnaaDoorICb
import Derived.Test.YtmjbnalhimhgnaaDoorNI0
import Derived.Deep.DeepCutAuto
namespace Go.Proofs.YtmjbnalhimhgnaaDoor.By
open Go.RowKit
set_option linter.unusedVariables false
set_option linter.unusedSimpArgs false

def partV (op : Int) : Int := if op = 22 then 3 else if op = 21 then 2 else if op = 2 then 4 else if hasA op then 1 else 0
set_option maxHeartbeats 1000000 in
theorem l8partsT (op : Int) (w : World) :
    Calls Tryd.prog 11 #[.int .i64 op] w fun e u => e = .returned (.int .i64 (partV op)) ∧ u = w := by
  by_cases h1 : op = 1
  · subst h1
    go_enter Tryd.func11, Tryd.ntmps11
    go_wp2
    go_ret
    exact ⟨rfl, rfl⟩
  have k1 : (op == 1) = false := by simpa using h1
  by_cases h4 : op = 4
  · subst h4
    go_enter Tryd.func11, Tryd.ntmps11
    go_wp2
    go_ret
    exact ⟨rfl, rfl⟩
  have k4 : (op == 4) = false := by simpa using h4
  by_cases h6 : op = 6
  · subst h6
    go_enter Tryd.func11, Tryd.ntmps11
    go_wp2
    go_ret
    exact ⟨rfl, rfl⟩
  have k6 : (op == 6) = false := by simpa using h6
  by_cases h7 : op = 7
  · subst h7
    go_enter Tryd.func11, Tryd.ntmps11
    go_wp2
    go_ret
    exact ⟨rfl, rfl⟩
  have k7 : (op == 7) = false := by simpa using h7
  by_cases h23 : op = 23
  · subst h23
    go_enter Tryd.func11, Tryd.ntmps11
    go_wp2
    go_ret
    exact ⟨rfl, rfl⟩
  have k23 : (op == 23) = false := by simpa using h23
  by_cases h26 : op = 26
  · subst h26
    go_enter Tryd.func11, Tryd.ntmps11
    go_wp2
    go_ret
    exact ⟨rfl, rfl⟩
  have k26 : (op == 26) = false := by simpa using h26
  by_cases h27 : op = 27
  · subst h27
    go_enter Tryd.func11, Tryd.ntmps11
    go_wp2
    go_ret
    exact ⟨rfl, rfl⟩
  have k27 : (op == 27) = false := by simpa using h27
  by_cases h29 : op = 29
  · subst h29
    go_enter Tryd.func11, Tryd.ntmps11
    go_wp2
    go_ret
    exact ⟨rfl, rfl⟩
  have k29 : (op == 29) = false := by simpa using h29
  by_cases h31 : op = 31
  · subst h31
    go_enter Tryd.func11, Tryd.ntmps11
    go_wp2
    go_ret
    exact ⟨rfl, rfl⟩
  have k31 : (op == 31) = false := by simpa using h31
  by_cases h21 : op = 21
  · subst h21
    go_enter Tryd.func11, Tryd.ntmps11
    go_wp2
    go_ret
    exact ⟨rfl, rfl⟩
  have k21 : (op == 21) = false := by simpa using h21
  by_cases h22 : op = 22
  · subst h22
    go_enter Tryd.func11, Tryd.ntmps11
    go_wp2
    go_ret
    exact ⟨rfl, rfl⟩
  have k22 : (op == 22) = false := by simpa using h22
  by_cases h2 : op = 2
  · subst h2
    go_enter Tryd.func11, Tryd.ntmps11
    go_wp2
    go_ret
    exact ⟨rfl, rfl⟩
  have k2 : (op == 2) = false := by simpa using h2
  have HE : Hid (partV op = 0) := by show _ = _; simp [partV, hasA, h1, h4, h6, h7, h23, h26, h27, h29, h31, h21, h22, h2]
  go_enter Tryd.func11, Tryd.ntmps11
  go_wp2
  go_ret
  exact ⟨by rw [HE.out]; rfl, rfl⟩

def cA (a k : Int) : Bool := decide (a < 0) || decide (2147483647 < a) || (!decide (a = 0) && (decide (k = 0) || decide (k = 4)))
def c9 (b : Int) (l1 l2 : Nat) (k : Int) : Bool := decide (b < 0) || decide (2147483647 < b) || (!decide (b = 0) && !decide (k = 2)) || (decide (0 < l1) && !decide (k = 4)) || decide (20 < l1) || decide (5 < l2) || (decide (0 < l2) != decide (k = 3))
def specIns (x : RIns) : Bool := opOk x.op && (if x.op = 1 then wholeV x.a else !cA x.a (partV x.op)) && !c9 x.b x.lit.length x.tos.length (partV x.op) && !x.tos.any noNum && litV x.lit
theorem lit_nil {zs : List Int} (h : zs.length = 0) : litV zs = true := by
  obtain rfl := List.eq_nil_of_length_eq_zero h; rfl
theorem lit_len {zs : List Int} (h : litV zs = true) : zs.length ≤ 20 := by
  simp only [litV, Bool.and_eq_true, decide_eq_true_eq] at h; exact h.1
theorem any_nil {zs : List Int} (h : zs.length = 0) : zs.any noNum = false := by
  obtain rfl := List.eq_nil_of_length_eq_zero h; rfl
theorem cA_has {a : Int} : (!cA a 1) = numV a := by
  rw [Bool.eq_iff_iff]; simp [cA, numV]
theorem cA_two {a : Int} : (!cA a 2) = numV a := by
  rw [Bool.eq_iff_iff]; simp [cA, numV]
theorem cA_three {a : Int} : (!cA a 3) = numV a := by
  rw [Bool.eq_iff_iff]; simp [cA, numV]
theorem cA_none {a : Int} : (!cA a 0) = decide (a = 0) := by
  rw [Bool.eq_iff_iff]; simp [cA]; omega
theorem cA_four {a : Int} : (!cA a 4) = decide (a = 0) := by
  rw [Bool.eq_iff_iff]; simp [cA]; omega
theorem c9_iff (b : Int) (l1 l2 : Nat) (k : Int) : c9 b l1 l2 k = false ↔ (0 ≤ b ∧ b ≤ 2147483647 ∧ (b = 0 ∨ k = 2) ∧ (l1 = 0 ∨ k = 4) ∧ l1 ≤ 20 ∧ l2 ≤ 5 ∧ (0 < l2 ↔ k = 3)) := by
  by_cases h3 : k = 3
  · simp [c9, h3]; omega
  · by_cases h2 : k = 2
    · simp [c9, h2]; omega
    · by_cases h4 : k = 4
      · simp [c9, h4]; omega
      · simp [c9, h3, h2, h4]; omega
theorem rest_of (b : Int) (lit tos : List Int) (k : Int) : (!c9 b lit.length tos.length k && !tos.any noNum && litV lit) = true ↔ ((0 ≤ b ∧ b ≤ 2147483647 ∧ (b = 0 ∨ k = 2) ∧ (lit.length = 0 ∨ k = 4) ∧ lit.length ≤ 20 ∧ tos.length ≤ 5 ∧ (0 < tos.length ↔ k = 3)) ∧ tos.any noNum = false) ∧ litV lit = true := by
  rw [Bool.and_eq_true, Bool.and_eq_true, Bool.not_eq_true', Bool.not_eq_true', c9_iff]
theorem rest_none (k : Int) (h2 : k ≠ 2) (h3 : k ≠ 3) (h4 : k ≠ 4) (b : Int) (lit tos : List Int) : (!c9 b lit.length tos.length k && !tos.any noNum && litV lit) = (decide (b = 0) && decide (lit.length = 0) && decide (tos.length = 0)) := by
  rw [Bool.eq_iff_iff, rest_of]
  simp only [Bool.and_eq_true, decide_eq_true_eq]
  constructor
  · rintro ⟨⟨h, -⟩, -⟩
    exact ⟨⟨by omega, by omega⟩, by omega⟩
  · rintro ⟨⟨hb, hl⟩, ht⟩
    exact ⟨⟨by omega, any_nil ht⟩, lit_nil hl⟩
theorem rest_two (k : Int) (hk : k = 2) (b : Int) (lit tos : List Int) : (!c9 b lit.length tos.length k && !tos.any noNum && litV lit) = (numV b && decide (lit.length = 0) && decide (tos.length = 0)) := by
  rw [Bool.eq_iff_iff, rest_of]
  simp only [numV, Bool.and_eq_true, decide_eq_true_eq]
  constructor
  · rintro ⟨⟨h, -⟩, -⟩
    exact ⟨⟨⟨by omega, by omega⟩, by omega⟩, by omega⟩
  · rintro ⟨⟨hb, hl⟩, ht⟩
    exact ⟨⟨by omega, any_nil ht⟩, lit_nil hl⟩
theorem rest_four (k : Int) (hk : k = 4) (b : Int) (lit tos : List Int) : (!c9 b lit.length tos.length k && !tos.any noNum && litV lit) = (decide (b = 0) && litV lit && decide (tos.length = 0)) := by
  rw [Bool.eq_iff_iff, rest_of]
  simp only [Bool.and_eq_true, decide_eq_true_eq]
  constructor
  · rintro ⟨⟨h, -⟩, hl⟩
    exact ⟨⟨by omega, hl⟩, by omega⟩
  · rintro ⟨⟨hb, hl⟩, ht⟩
    have := lit_len hl
    exact ⟨⟨by omega, any_nil ht⟩, hl⟩
theorem rest_three (k : Int) (hk : k = 3) (b : Int) (lit tos : List Int) : (!c9 b lit.length tos.length k && !tos.any noNum && litV lit) = (decide (b = 0) && decide (lit.length = 0) && toV tos) := by
  rw [Bool.eq_iff_iff, rest_of]
  simp only [toV, Bool.and_eq_true, decide_eq_true_eq, Bool.not_eq_true']
  constructor
  · rintro ⟨⟨h, ha⟩, hl⟩
    exact ⟨⟨by omega, by omega⟩, ⟨by omega, by omega⟩, ha⟩
  · rintro ⟨⟨hb, hl⟩, ⟨h1, h5⟩, ha⟩
    exact ⟨⟨by omega, ha⟩, lit_nil hl⟩
theorem specIns_eq (x : RIns) : specIns x = insV x := by
  obtain ⟨op, a, b, lit, tos⟩ := x
  have e : ∀ p q r s t : Bool, (p && q && r && s && t) = (p && q && (r && s && t)) := by decide
  have e2 : ∀ p q r s t : Bool, (p && q && (r && s && t)) = (p && q && r && s && t) := by decide
  unfold specIns insV
  rw [e]
  simp only []
  by_cases h22 : op = 22
  · subst h22
    have hp : partV 22 = 3 := rfl
    rw [hp, rest_three 3 rfl]
    simp [aV, bV, lV, tV, cA_three, hasA, Bool.and_assoc]
  by_cases h21 : op = 21
  · subst h21
    have hp : partV 21 = 2 := rfl
    rw [hp, rest_two 2 rfl]
    simp [aV, bV, lV, tV, cA_two, hasA, Bool.and_assoc]
  by_cases h2 : op = 2
  · subst h2
    have hp : partV 2 = 4 := rfl
    rw [hp, rest_four 4 rfl]
    simp [aV, bV, lV, tV, cA_four, hasA, Bool.and_assoc]
  cases hh : hasA op with
  | true =>
    have hp : partV op = 1 := by simp [partV, h22, h21, h2, hh]
    rw [hp, rest_none 1 (by omega) (by omega) (by omega)]
    by_cases h1 : op = 1
    · simp [aV, bV, lV, tV, h1, Bool.and_assoc]
    · simp [aV, bV, lV, tV, h1, h22, h21, h2, cA_has, Bool.and_assoc]
  | false =>
    have hp : partV op = 0 := by simp [partV, h22, h21, h2, hh]
    have h1 : op ≠ 1 := by rintro rfl; cases hh
    rw [hp, rest_none 0 (by omega) (by omega) (by omega)]
    simp [aV, bV, lV, tV, h1, h22, h21, h2, cA_none, Bool.and_assoc]

end Go.Proofs.YtmjbnalhimhgnaaDoor.By
