/-
  What the specification and the program ask of data is one: the lists' side. No statement is proved here.
-/
import Derived.Test.YtgjoklakomihaaaEM
import Derived.Test.YtgjoklakomihaaaEX
namespace Go.Proofs.Ytgjoklakomihaaa.By
set_option linter.unusedVariables false
set_option linter.unusedSimpArgs false

/-- Constructors, from the k-th of the i-th data on: named as they must be, each at its own place, fields over D. -/
def cS (V : Int) (ds D : List Da) (i : Nat) : List Co → Nat → Bool
  | [], _ => true
  | y :: r, k => wordV 65 90 y.name && (decide (y.flds.len ≤ 3) && (decide (cIx y.name ds 0 = ((i : Int), (k : Int))) && (fldsV V D y.flds && cS V ds D i r (k + 1))))
/-- Data behind P. -/
def sV (ds : List Da) : List Da → List Da → Bool
  | _, [] => true
  | P, x :: r => (nameV x.name && (!decide (0 ≤ dIx x.name P 0) && (decide (0 ≤ x.vars) && (decide (x.vars ≤ 2) && (decide (1 ≤ x.cons.length) && decide (x.cons.length ≤ 5)))))) && (cS x.vars ds (P ++ [x]) P.length x.cons 0 && sV ds (P ++ [x]) r)
def specV (ds : List Da) : Bool := decide (ds.length ≤ 6) && sV ds [] ds

theorem amV_nil (z : List Int) : amV z [] = false := rfl
theorem amV_cons (z x : List Int) (r : List (List Int)) : amV z (x :: r) = (decide (x = z) || amV z r) := rfl
theorem amV_app (z : List Int) (A B : List (List Int)) : amV z (A ++ B) = (amV z A || amV z B) := by unfold amV; rw [List.any_append]

theorem dIx_any (z : List Int) : ∀ (P : List Da) (i : Nat), decide (0 ≤ dIx z P i) = amV z (P.map Da.name)
  | [], _ => rfl
  | x :: r, i => by
    rw [dIx_cons, List.map_cons, amV_cons]
    by_cases h : x.name = z
    · rw [if_pos h]; simp [h]
    · rw [if_neg h, dIx_any z r (i + 1)]; simp [h]
theorem kIx_any (z : List Int) : ∀ (P : List Co) (i : Nat), decide (0 ≤ kIx z P i) = amV z (P.map Co.name)
  | [], _ => rfl
  | x :: r, i => by
    rw [kIx_cons, List.map_cons, amV_cons]
    by_cases h : x.name = z
    · rw [if_pos h]; simp [h]
    · rw [if_neg h, kIx_any z r (i + 1)]; simp [h]
theorem kIx_off (z : List Int) (B : List Co) : ∀ (A : List Co) (i : Nat), amV z (A.map Co.name) = false → kIx z (A ++ B) i = kIx z B (i + A.length)
  | [], i, _ => by simp
  | x :: r, i, h => by
    rw [List.map_cons, amV_cons, Bool.or_eq_false_iff] at h
    rw [List.cons_append, kIx_cons, if_neg (by simpa using h.1), kIx_off z B r (i + 1) h.2]
    simp [Nat.add_assoc, Nat.add_comm, Nat.add_left_comm]
theorem kIx_in (z : List Int) (B : List Co) : ∀ (A : List Co) (i : Nat), amV z (A.map Co.name) = true → kIx z (A ++ B) i < ((i + A.length : Nat) : Int)
  | [], i, h => by cases h
  | x :: r, i, h => by
    rw [List.map_cons, amV_cons, Bool.or_eq_true] at h
    rw [List.cons_append, kIx_cons]
    by_cases hx : x.name = z
    · rw [if_pos hx]; simp; omega
    · rw [if_neg hx]
      have := kIx_in z B r (i + 1) (h.resolve_left (by simpa using hx))
      simp at this ⊢; omega
theorem conNs_cons (x : Da) (r : List Da) : conNs (x :: r) = x.cons.map Co.name ++ conNs r := rfl
theorem cIx_off (z : List Int) (B : List Da) : ∀ (A : List Da) (i : Nat), amV z (conNs A) = false → cIx z (A ++ B) i = cIx z B (i + A.length)
  | [], i, _ => by simp
  | x :: r, i, h => by
    rw [conNs_cons, amV_app, Bool.or_eq_false_iff, ← kIx_any z x.cons 0] at h
    rw [List.cons_append, cIx_cons, if_neg (by simpa using h.1), cIx_off z B r (i + 1) h.2]
    simp [Nat.add_assoc, Nat.add_comm, Nat.add_left_comm]
theorem cIx_in (z : List Int) (B : List Da) : ∀ (A : List Da) (i : Nat), amV z (conNs A) = true → (cIx z (A ++ B) i).1 < ((i + A.length : Nat) : Int)
  | [], i, h => by cases h
  | x :: r, i, h => by
    rw [conNs_cons, amV_app, Bool.or_eq_true, ← kIx_any z x.cons 0] at h
    rw [List.cons_append, cIx_cons]
    by_cases hx : 0 ≤ kIx z x.cons 0
    · rw [if_pos hx]; simp; omega
    · rw [if_neg hx]
      have := cIx_in z B r (i + 1) (h.resolve_left (by simpa using hx))
      simp at this ⊢; omega

/-- A constructor stands at its own place where no other of its name stands ahead of it. -/
theorem cIx_at (P r : List Da) (x : Da) (A B : List Co) (y : Co) (hx : x.cons = A ++ y :: B) :
    decide (cIx y.name (P ++ x :: r) 0 = ((P.length : Int), (A.length : Int))) = !amV y.name (conNs P ++ A.map Co.name) := by
  rw [amV_app]
  cases h1 : amV y.name (conNs P) with
  | true =>
    have := cIx_in y.name (x :: r) P 0 h1
    have hne : ¬ cIx y.name (P ++ x :: r) 0 = ((P.length : Int), (A.length : Int)) := by
      intro hh
      rw [hh] at this
      simp at this
    simp [hne]
  | false =>
    rw [cIx_off y.name (x :: r) P 0 h1, cIx_cons]
    cases h2 : amV y.name (A.map Co.name) with
    | true =>
      have h3 := kIx_in y.name (y :: B) A 0 h2
      rw [← hx] at h3
      have h4 : 0 ≤ kIx y.name x.cons 0 := by
        have := kIx_any y.name x.cons 0
        rw [hx, List.map_append, amV_app, h2] at this
        rw [hx]
        simpa using this
      rw [if_pos h4]
      simp at h3 ⊢
      omega
    | false =>
      have h3 := kIx_off y.name (y :: B) A 0 h2
      rw [kIx_cons, if_pos rfl, ← hx] at h3
      rw [h3, if_pos (by omega)]
      simp

theorem unV_cons (P : List (List Int)) (x : List Int) (r : List (List Int)) : unV P (x :: r) = (!amV x P && unV (P ++ [x]) r) := rfl
theorem unV_app (B : List (List Int)) : ∀ (A P : List (List Int)), unV P (A ++ B) = (unV P A && unV (P ++ A) B)
  | [], P => by simp [unV]
  | x :: r, P => by
    rw [List.cons_append, unV_cons, unV_cons, unV_app B r (P ++ [x]), List.append_assoc, Bool.and_assoc]
    rfl

theorem cS_eq (P r : List Da) (x : Da) (D : List Da) : ∀ (B A : List Co), x.cons = A ++ B →
    cS x.vars (P ++ x :: r) D P.length B A.length = (B.all (conV x.vars D) && unV (conNs P ++ A.map Co.name) (B.map Co.name))
  | [], A, _ => rfl
  | y :: B, A, hx => by
    have ih := cS_eq P r x D B (A ++ [y]) (by rw [hx]; simp)
    rw [List.length_append, List.length_singleton, List.map_append, ← List.append_assoc] at ih
    unfold cS
    rw [cIx_at P r x A B y hx, ih, List.all_cons]
    simp only [List.map_cons, List.map_nil]
    rw [unV_cons, show conV x.vars D y = (wordV 65 90 y.name && (decide (y.flds.len ≤ 3) && fldsV x.vars D y.flds)) from rfl]
    cases wordV 65 90 y.name <;> cases decide (y.flds.len ≤ 3) <;> cases amV y.name (conNs P ++ A.map Co.name) <;> cases fldsV x.vars D y.flds <;> simp

theorem preV_cons (P : List Da) (x : Da) (r : List Da) : preV P (x :: r) = (lastV (P ++ [x]) x && preV (P ++ [x]) r) := rfl
theorem sV_cons (ds P : List Da) (x : Da) (r : List Da) : sV ds P (x :: r) = ((nameV x.name && (!decide (0 ≤ dIx x.name P 0) && (decide (0 ≤ x.vars) && (decide (x.vars ≤ 2) && (decide (1 ≤ x.cons.length) && decide (x.cons.length ≤ 5)))))) && (cS x.vars ds (P ++ [x]) P.length x.cons 0 && sV ds (P ++ [x]) r)) := rfl
theorem sV_eq (ds : List Da) : ∀ (R P : List Da), ds = P ++ R → sV ds P R = (preV P R && (unV (P.map Da.name) (R.map Da.name) && unV (conNs P) (conNs R)))
  | [], P, _ => rfl
  | x :: r, P, h => by
    have ih := sV_eq ds r (P ++ [x]) (by rw [h]; simp)
    have hc := cS_eq P r x (P ++ [x]) x.cons [] rfl
    rw [← h] at hc
    simp only [List.length_nil, List.map_nil, List.append_nil] at hc
    rw [sV_cons, hc, ih, preV_cons, List.map_cons, unV_cons, conNs_cons, unV_app, dIx_any, lastV, headV, List.map_append, conNs_app, conNs_one]
    simp only [List.map_cons, List.map_nil]
    generalize nameV x.name = b1
    generalize amV x.name (P.map Da.name) = b2
    generalize (decide (0 ≤ x.vars) && (decide (x.vars ≤ 2) && (decide (1 ≤ x.cons.length) && decide (x.cons.length ≤ 5)))) = b3
    generalize x.cons.all (conV x.vars (P ++ [x])) = b4
    generalize unV (conNs P) (x.cons.map Co.name) = b5
    generalize preV (P ++ [x]) r = b6
    generalize unV (P.map Da.name ++ [x.name]) (r.map Da.name) = b7
    generalize unV (conNs P ++ x.cons.map Co.name) (conNs r) = b8
    cases b1 <;> cases b2 <;> cases b3 <;> cases b4 <;> cases b5 <;> cases b6 <;> cases b7 <;> cases b8 <;> rfl
/-- Both ask the same. -/
theorem specV_eq (ds : List Da) : specV ds = implV ds := by
  unfold specV implV
  rw [sV_eq ds ds [] rfl]
  rfl
end Go.Proofs.Ytgjoklakomihaaa.By
