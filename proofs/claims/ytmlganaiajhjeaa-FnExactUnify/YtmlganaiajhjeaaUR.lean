/-
  Trees resolved by binds: the lists' side. No statement is proved here.
-/
import Derived.Test.YtmlganaiajhjeaaUG
import Derived.Test.YtmlganaiajhjeaaTSubF
namespace Go.Proofs.Ytmlganaiajhjeaa.By
open Go.RowKit
set_option linter.unusedVariables false
set_option linter.unusedSimpArgs false

/-- One tree is put for a variable. -/
def pF (v k0 n0 : Int) (d0 : F) : F → F
  | .nil => .nil
  | .cons k n d r => if k = 7 then (if n = v then .cons k0 n0 d0 (pF v k0 n0 d0 r) else .cons k n d (pF v k0 n0 d0 r)) else .cons k n (pF v k0 n0 d0 d) (pF v k0 n0 d0 r)
def pT (v k0 n0 : Int) (d0 : F) (k n : Int) (d : F) : Int × Int × F := if k = 7 then (if n = v then (k0, n0, d0) else (k, n, d)) else (k, n, pF v k0 n0 d0 d)
theorem pF_cons (v k0 n0 : Int) (d0 : F) (k n : Int) (d r : F) : pF v k0 n0 d0 (.cons k n d r) = .cons (pT v k0 n0 d0 k n d).1 (pT v k0 n0 d0 k n d).2.1 (pT v k0 n0 d0 k n d).2.2 (pF v k0 n0 d0 r) := by
  simp only [pF, pT]
  split
  · split <;> rfl
  · rfl
theorem pF_id {v k0 n0 : Int} {d0 : F} (f : F) (h : v ∉ varsF f) : pF v k0 n0 d0 f = f := by
  induction f with
  | nil => rfl
  | cons k n d r ihd ihr =>
    simp only [varsF, List.mem_append, not_or] at h
    obtain ⟨h1, h2⟩ := h
    simp only [pF, ihr h2]
    by_cases h7 : k = 7
    · rw [if_pos h7] at h1 ⊢
      rw [if_neg (fun e => h1 (by simp [e]))]
    · rw [if_neg h7] at h1 ⊢
      rw [ihd h1]
theorem pT_id {v k0 n0 : Int} {d0 : F} {k n : Int} {d : F} (h : v ∉ vT k n d) : pT v k0 n0 d0 k n d = (k, n, d) := by
  unfold vT at h
  unfold pT
  by_cases h7 : k = 7
  · rw [if_pos h7] at h ⊢
    rw [if_neg (fun e => h (by simp [e]))]
  · rw [if_neg h7] at h ⊢
    rw [pF_id d h]
def rsF : B → F → F
  | .nil, f => f
  | .cons v k n d r, f => rsF r (pF v k n d f)
def rsT : B → Int × Int × F → Int × Int × F
  | .nil, t => t
  | .cons v k n d r, t => rsT r (pT v k n d t.1 t.2.1 t.2.2)
theorem rsF_nil (L : B) : rsF L .nil = .nil := by
  induction L with
  | nil => rfl
  | cons v k n d r ih => exact ih
theorem rsF_cons (L : B) : ∀ (k n : Int) (d r : F), rsF L (.cons k n d r) = .cons (rsT L (k, n, d)).1 (rsT L (k, n, d)).2.1 (rsT L (k, n, d)).2.2 (rsF L r) := by
  induction L with
  | nil => intro k n d r; rfl
  | cons v k0 n0 d0 R ih => intro k n d r; simp only [rsF, rsT]; rw [pF_cons, ih]
theorem rsF_len (L : B) (f : F) : (rsF L f).len = f.len := by
  induction f with
  | nil => rw [rsF_nil]
  | cons k n d r _ ih => rw [rsF_cons]; simp [F.len, ih]
theorem rsF_app (L : B) (f g : F) : rsF L (f.app g) = (rsF L f).app (rsF L g) := by
  induction f with
  | nil => rw [rsF_nil]; rfl
  | cons k n d r _ ih => simp only [F.app]; rw [rsF_cons, rsF_cons, ih]; rfl
theorem rsT_other (L : B) : ∀ {k n : Int} {d : F}, k ≠ 7 → rsT L (k, n, d) = (k, n, rsF L d) := by
  induction L with
  | nil => intro k n d _; rfl
  | cons v k0 n0 d0 R ih => intro k n d h; simp only [rsT, rsF, pT, if_neg h]; exact ih h
theorem rsT_free (L : B) : ∀ {x : Int} {d : F}, L.find x = none → rsT L (7, x, d) = (7, x, d) := by
  induction L with
  | nil => intro x d _; rfl
  | cons v k0 n0 d0 R ih =>
    intro x d h
    simp only [B.find] at h
    by_cases hv : v = x
    · rw [if_pos hv] at h; cases h
    · rw [if_neg hv] at h
      simp only [rsT, pT, if_true, if_neg (fun e : x = v => hv e.symm)]
      exact ih h
/-- What is bound names neither itself nor what was bound ahead. -/
def freeB (v : Int) : B → Prop
  | .nil => True
  | .cons x k n d r => x ≠ v ∧ v ∉ vT k n d ∧ freeB v r
def wfB : B → Prop
  | .nil => True
  | .cons v k n d r => (0 ≤ v ∧ v < 100000) ∧ okT k n d = true ∧ v ∉ vT k n d ∧ freeB v r ∧ wfB r
theorem freeB_find {v : Int} {L : B} (h : freeB v L) {x : Int} {t : Int × Int × F} (hf : L.find x = some t) : x ≠ v ∧ v ∉ vT t.1 t.2.1 t.2.2 := by
  induction L with
  | nil => simp [B.find] at hf
  | cons y k n d r ih =>
    obtain ⟨h1, h2, h3⟩ := h
    simp only [B.find] at hf
    by_cases hy : y = x
    · rw [if_pos hy] at hf; cases hf; subst hy; exact ⟨h1, h2⟩
    · rw [if_neg hy] at hf; exact ih h3 hf
theorem freeB_dom {v : Int} {L : B} (h : freeB v L) : v ∉ L.dom := by
  induction L with
  | nil => simp [B.dom]
  | cons y k n d r ih =>
    obtain ⟨h1, h2, h3⟩ := h
    simp only [B.dom, List.mem_cons, not_or]
    exact ⟨fun e => h1 e.symm, ih h3⟩
theorem wfB_find {L : B} (h : wfB L) {x : Int} {t : Int × Int × F} (hf : L.find x = some t) : (0 ≤ x ∧ x < 100000) ∧ okT t.1 t.2.1 t.2.2 = true := by
  induction L with
  | nil => simp [B.find] at hf
  | cons y k n d r ih =>
    obtain ⟨h0, h1, h2, h3, h4⟩ := h
    simp only [B.find] at hf
    by_cases hy : y = x
    · rw [if_pos hy] at hf; cases hf; subst hy; exact ⟨h0, h1⟩
    · rw [if_neg hy] at hf; exact ih h4 hf
theorem rsT_bound (L : B) : ∀ {x : Int} {t : Int × Int × F} {d : F}, wfB L → L.find x = some t → rsT L (7, x, d) = rsT L t := by
  induction L with
  | nil => intro x t d _ hf; simp [B.find] at hf
  | cons v k0 n0 d0 R ih =>
    intro x t d h hf
    obtain ⟨h0, h1, h2, h3, h4⟩ := h
    simp only [B.find] at hf
    simp only [rsT]
    by_cases hv : v = x
    · rw [if_pos hv] at hf
      cases hf
      subst hv
      rw [pT_id h2]
      simp only [pT, if_true]
    · rw [if_neg hv] at hf
      have hx := freeB_find h3 hf
      rw [pT_id hx.2]
      simp only [pT, if_true, if_neg (fun e : x = v => hv e.symm)]
      exact ih h4 hf
/-- How many binds there are from that of a variable on. -/
def rkV : B → Int → Nat
  | .nil, _ => 0
  | .cons v _ _ _ r, x => if v = x then r.len + 1 else rkV r x
theorem rkV_le (L : B) (x : Int) : rkV L x ≤ L.len := by
  induction L with
  | nil => simp [rkV]
  | cons v k n d r ih => simp only [rkV, B.len]; split <;> omega
theorem rk_less {L : B} (h : wfB L) {x y : Int} {d : F} (hf : L.find x = some (7, y, d)) : rkV L y < rkV L x := by
  induction L with
  | nil => simp [B.find] at hf
  | cons v k0 n0 d0 R ih =>
    obtain ⟨h0, h1, h2, h3, h4⟩ := h
    simp only [B.find] at hf
    simp only [rkV]
    by_cases hv : v = x
    · rw [if_pos hv] at hf
      cases hf
      rw [if_pos hv, if_neg (fun e => h2 (by simp [vT, e]))]
      have := rkV_le R y
      omega
    · rw [if_neg hv] at hf
      have hx := freeB_find h3 hf
      rw [if_neg hv, if_neg (fun e => hx.2 (by simp [vT, e]))]
      exact ih h4 hf
/-- The rank of a tree: of a variable alone. -/
def rkT (L : B) (k n : Int) : Nat := if k = 7 then rkV L n else 0
theorem rkT_less {L : B} (h : wfB L) {x k n : Int} {d : F} (hf : L.find x = some (k, n, d)) : rkT L k n < rkT L 7 x := by
  unfold rkT
  rw [if_pos rfl]
  by_cases h7 : k = 7
  · subst h7; rw [if_pos rfl]; exact rk_less h hf
  · rw [if_neg h7]
    clear h
    induction L with
    | nil => simp [B.find] at hf
    | cons v k0 n0 d0 R ih =>
      simp only [B.find] at hf
      simp only [rkV]
      by_cases hv : v = x
      · rw [if_pos hv]; omega
      · rw [if_neg hv] at hf ⊢; exact ih hf
theorem rkT_le (L : B) (k n : Int) : rkT L k n ≤ L.len := by
  unfold rkT; split
  · exact rkV_le L n
  · omega
/-- From what the two sides test. -/
theorem bindsR_wf {R : B} : ∀ {P : B}, bindsR P R = true → wfB R ∧ (∀ v ∈ P.dom, freeB v R) := by
  induction R with
  | nil => intro P _; exact ⟨trivial, fun _ _ => trivial⟩
  | cons v k n d r ih =>
    intro P h
    simp only [bindsR, Bool.and_eq_true] at h
    obtain ⟨h1, h2⟩ := h
    obtain ⟨w1, w2⟩ := ih h2
    simp only [okB1, Bool.and_eq_true, decide_eq_true_eq, Bool.not_eq_true'] at h1
    obtain ⟨q0, q1, q2, q3, q4⟩ := h1
    have hb : ∀ x ∈ vT k n d, badX P v x = false := by
      intro x hx
      cases hq : badX P v x with
      | false => rfl
      | true => rw [List.any_eq_true.2 ⟨x, hx, hq⟩] at q4; cases q4
    have hdom : (P.app (.cons v k n d .nil)).dom = P.dom ++ [v] := by rw [B.dom_app]; rfl
    have hvv : v ∉ vT k n d := fun hx => by have := hb v hx; simp [badX] at this
    refine ⟨⟨⟨q0, q1⟩, q2, hvv, w2 v (by rw [hdom]; simp), w1⟩, fun y hy => ⟨fun e => ?_, fun hx => ?_, w2 y (by rw [hdom]; simp [hy])⟩⟩
    · subst e
      rw [List.contains_iff_mem.2 hy] at q3; cases q3
    · have := hb y hx
      simp only [badX, Bool.or_eq_false_iff] at this
      rw [List.contains_iff_mem.2 hy] at this
      exact absurd this.2 (by simp)
theorem bindsV_wf {L : B} (h : bindsV L = true) : wfB L ∧ L.len ≤ 400 := by
  simp only [bindsV, Bool.and_eq_true, decide_eq_true_eq] at h
  exact ⟨(bindsR_wf h.2).1, h.1⟩
/-- Depths. -/
def depF : F → Nat
  | .nil => 0
  | .cons _ _ d r => max (1 + depF d) (depF r)
theorem depF_app (f g : F) : depF (f.app g) = max (depF f) (depF g) := by
  induction f with
  | nil => simp [F.app, depF]
  | cons k n d r _ ih => simp only [F.app, depF, ih]; omega
def fitF : F → Bool
  | .nil => true
  | .cons k n d r => fitsB k n d.len && (fitF d && fitF r)
theorem okF_iff (f : F) : ∀ p, okF f p = (fitF f && decide (depF f ≤ p)) := by
  induction f with
  | nil => intro p; simp [okF, fitF, depF]
  | cons k n d r ihd ihr =>
    intro p
    simp only [okF, fitF, depF, ihd, ihr]
    rw [Bool.eq_iff_iff]
    simp only [Bool.and_eq_true, decide_eq_true_eq, Nat.max_le]
    constructor
    · rintro ⟨⟨⟨x1, x2⟩, x3, x4⟩, x5, x6⟩; exact ⟨⟨x2, x3, x5⟩, by omega, x6⟩
    · rintro ⟨⟨x2, x3, x5⟩, x4, x6⟩; exact ⟨⟨⟨by omega, x2⟩, x3, by omega⟩, x5, x6⟩
theorem okT_iff (k n : Int) (d : F) : okT k n d = true ↔ fitsB k n d.len = true ∧ fitF d = true ∧ 1 + depF d ≤ 10 ∧ 1 + d.size ≤ 60 := by
  simp only [okT, okF_iff, Bool.and_eq_true, decide_eq_true_eq]
  constructor
  · rintro ⟨⟨a, b, c⟩, d⟩; exact ⟨a, b, by omega, d⟩
  · rintro ⟨a, b, c, d⟩; exact ⟨⟨a, b, by omega⟩, d⟩
/-- May what a tree comes to stand within that depth and room? -/
def wOk (L : B) (k n : Int) (d : F) (depth room : Nat) : Bool := decide (1 + depF (rsT L (k, n, d)).2.2 ≤ depth) && decide (1 + (rsT L (k, n, d)).2.2.size ≤ room)
theorem wOk_bound {L : B} (h : wfB L) {x k n : Int} {d dd : F} (hf : L.find x = some (k, n, d)) (depth room : Nat) : wOk L 7 x dd depth room = wOk L k n d depth room := by
  unfold wOk; rw [rsT_bound L h hf]
theorem fit7 {n : Int} {d : F} {l : Nat} (h : fitsB 7 n l = true) (hl : d.len = l) : d = .nil := by
  rw [fits7] at h
  simp only [Bool.and_eq_true, decide_eq_true_eq] at h
  exact F.nil_of_len (by omega)
/-- What is not a bound variable. -/
theorem rsT_stay {L : B} {k n : Int} {d : F} (hf : fitsB k n d.len = true) (h : k = 7 → L.find n = none) : rsT L (k, n, d) = (k, n, rsF L d) := by
  by_cases h7 : k = 7
  · subst h7
    obtain rfl := fit7 hf rfl
    rw [rsT_free L (h rfl), rsF_nil]
  · exact rsT_other L h7
/-- Resolved. -/
def resOk (L : B) (k n : Int) (d : F) : Bool := bindsV L && (okT k n d && wOk L k n d 10 60)
def resV (L : B) (k n : Int) (d : F) : Int × Int × F := if resOk L k n d = true then rsT L (k, n, d) else (0, 0, .nil)
end Go.Proofs.Ytmlganaiajhjeaa.By
