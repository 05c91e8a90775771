/-
  Several texts in one (UU, UUb). No statement is proved here.
-/
import Derived.Test.YtmlganaiajhjeaaUQ
namespace Go.Proofs.Ytmlganaiajhjeaa.By
open Go.RowKit
set_option linter.unusedVariables false
set_option linter.unusedSimpArgs false

theorem pT_var {v : Int} {t : Int × Int × F} {d : F} : pT v t.1 t.2.1 t.2.2 7 v d = t := by
  unfold pT
  rw [if_pos rfl, if_pos rfl]
theorem rsT_ext {L M : B} {s t : Int × Int × F} (h : rsT L s = rsT L t) : rsT (L.app M) s = rsT (L.app M) t := by
  rw [rsT_app, rsT_app, h]
theorem unL_sound {g : Un} (H : ∀ L a b L', wfB L → gT a → gT b → g L a b = some (some L') → (wfB L' ∧ ∃ M, L' = L.app M) ∧ rsT L' a = rsT L' b) : ∀ (f f' : F) (L L' : B), f.len = f'.len → wfB L → fitF f = true → fitF f' = true → unL g L f f' = some (some L') → (wfB L' ∧ ∃ M, L' = L.app M) ∧ rsF L' f = rsF L' f' := by
  intro f
  induction f with
  | nil =>
    intro f' L L' hl hL _ _ h
    have : f' = .nil := F.nil_of_len (by simpa [F.len] using hl.symm)
    subst this
    cases h
    exact ⟨⟨hL, .nil, (B.app_nil _).symm⟩, rfl⟩
  | cons k n d r _ ih =>
    intro f' L L' hl hL hf hf' h
    cases f' with
    | nil => simp [F.len] at hl
    | cons k' n' d' r' =>
      simp only [unL] at h
      simp only [fitF, Bool.and_eq_true] at hf hf'
      simp only [F.len] at hl
      cases hg : g L (k, n, d) (k', n', d') with
      | none => rw [hg] at h; cases h
      | some o =>
        rw [hg] at h
        cases o with
        | none => cases h
        | some L1 =>
          obtain ⟨⟨h1, M, hM⟩, he⟩ := H _ _ _ _ hL ⟨hf.1, hf.2.1⟩ ⟨hf'.1, hf'.2.1⟩ hg
          obtain ⟨⟨h2, M2, hM2⟩, he2⟩ := ih r' L1 L' (by omega) h1 hf.2.2 hf'.2.2 h
          refine ⟨⟨h2, M.app M2, by rw [hM2, hM, B.app_assoc]⟩, ?_⟩
          have he3 : rsT L' (k, n, d) = rsT L' (k', n', d') := by rw [hM2]; exact rsT_ext he
          rw [rsF_cons, rsF_cons, he3, he2]
theorem un_sound (s : Nat) : ∀ L a b L', wfB L → gT a → gT b → un s L a b = some (some L') → (wfB L' ∧ ∃ M, L' = L.app M) ∧ rsT L' a = rsT L' b := by
  induction s with
  | zero => intro L a b L' _ _ _ h; cases h
  | succ s ih =>
    intro L a b L' hL ha hb h
    have hw := un_wf (s + 1) L a b L' hL ha hb h
    refine ⟨hw, ?_⟩
    rw [un] at h
    split at h
    rotate_left
    · cases h
    rename_i h1
    simp only [Bool.and_eq_true] at h1
    have oa := wOk_ok hL ha h1.1
    have ob := wOk_ok hL hb h1.2
    have va := rsT_vars (t := a) hL
    have vb := rsT_vars (t := b) hL
    have ta := rsT_twice (t := a) hL
    have tb := rsT_twice (t := b) hL
    split at h
    · rename_i h2
      cases h
      have d1 := (okT_var oa h2.1).2
      have d2 := (okT_var ob h2.2.1).2
      exact Prod.ext (h2.1.trans h2.2.1.symm) (Prod.ext h2.2.2 (d1.trans d2.symm))
    split at h
    · rename_i h3
      injection h with h
      unfold bindU at h
      split at h
      · cases h
      rename_i hm
      cases h
      rw [rsT_app, rsT_app]
      have e : rsT L a = (7, (rsT L a).2.1, (rsT L a).2.2) := Prod.ext h3 rfl
      show pT _ _ _ _ (rsT L a).1 _ _ = pT _ _ _ _ (rsT L b).1 _ _
      rw [h3, pT_var]
      exact (pT_id hm).symm
    split at h
    · rename_i h4
      injection h with h
      unfold bindU at h
      split at h
      · cases h
      rename_i hm
      cases h
      rw [rsT_app, rsT_app]
      show pT _ _ _ _ (rsT L a).1 _ _ = pT _ _ _ _ (rsT L b).1 _ _
      rw [h4, pT_var]
      exact pT_id hm
    rename_i x1 x2
    split at h
    · rename_i h5
      have hk1 := x1
      obtain ⟨_, he⟩ := unL_sound ih _ _ _ _ h5.2.2 hL (rsT_good hL ha).2 (rsT_good hL hb).2 h
      obtain ⟨w1, M, hM⟩ := hw
      have e1 : rsT L' a = rsT L' (rsT L a) := by rw [hM, rsT_app, rsT_app, ta]
      have e2 : rsT L' b = rsT L' (rsT L b) := by rw [hM, rsT_app, rsT_app, tb]
      rw [e1, e2]
      have y1 := rsT_other L' (n := (rsT L a).2.1) (d := (rsT L a).2.2) x1
      have y2 := rsT_other L' (n := (rsT L b).2.1) (d := (rsT L b).2.2) x2
      have z1 : rsT L' (rsT L a) = _ := y1
      have z2 : rsT L' (rsT L b) = _ := y2
      rw [z1, z2, he, h5.1, h5.2.1]
    · cases h
/-- What Unify answers makes both alike; whatever one of them comes to is a type. -/
theorem uniV_sound {f L' : B} {s t : Int × Int × F} (h : uniV f s t = some L') : (wfB L' ∧ ∃ M, L' = f.app M) ∧ rsT L' s = rsT L' t ∧ wOk L' s.1 s.2.1 s.2.2 10 60 = true ∧ wOk L' t.1 t.2.1 t.2.2 10 60 = true ∧ okT (rsT L' s).1 (rsT L' s).2.1 (rsT L' s).2.2 = true ∧ wOk L' (rsT L' s).1 (rsT L' s).2.1 (rsT L' s).2.2 10 60 = true ∧ rsT L' (rsT L' s) = rsT L' s := by
  unfold uniV at h
  split at h
  rotate_left
  · cases h
  rename_i hb
  simp only [Bool.and_eq_true] at hb
  obtain ⟨hb, o1, o2⟩ := hb
  have hwf := bindsV_wf hb
  obtain ⟨s0, hs⟩ := unV_some (a := s) (b := t) hwf.1 (gT_ok o1) (gT_ok o2)
  cases hu : unV f s t with
  | none => rw [hu] at h; cases h
  | some M =>
    rw [hu] at h hs
    simp only [] at h
    split at h
    rotate_left
    · cases h
    rename_i hw
    cases h
    obtain ⟨r1, r2⟩ := un_sound s0 f s t L' hwf.1 (gT_ok o1) (gT_ok o2) hs
    have tw := rsT_twice (t := s) r1.1
    refine ⟨r1, r2, hw, ?_, wOk_ok r1.1 (gT_ok o1) hw, ?_, tw⟩
    · obtain ⟨k, n, d⟩ := s
      obtain ⟨k', n', d'⟩ := t
      simp only [wOk] at hw ⊢
      rw [← r2]; exact hw
    · obtain ⟨k, n, d⟩ := s
      have e : rsT L' ((rsT L' (k, n, d)).1, (rsT L' (k, n, d)).2.1, (rsT L' (k, n, d)).2.2) = rsT L' (k, n, d) := tw
      simp only [wOk] at hw ⊢
      rw [e]; exact hw
end Go.Proofs.Ytmlganaiajhjeaa.By

namespace Go.Proofs.Ytmlganaiajhjeaa.By
open Go.RowKit
set_option linter.unusedVariables false
set_option linter.unusedSimpArgs false

theorem bindsR_of_wf {R : B} : ∀ {P : B}, wfB R → (∀ v ∈ P.dom, freeB v R) → bindsR P R = true := by
  induction R with
  | nil => intro P _ _; rfl
  | cons v k n d r ih =>
    intro P h hP
    obtain ⟨h0, h1, h2, h3, h4⟩ := h
    rw [bindsR, Bool.and_eq_true]
    refine ⟨?_, ih h4 (fun y hy => ?_)⟩
    · unfold okB1
      simp only [Bool.and_eq_true, decide_eq_true_eq, Bool.not_eq_true']
      refine ⟨h0.1, h0.2, h1, ?_, ?_⟩
      · rw [Bool.eq_false_iff]
        intro hc
        exact (hP v (List.contains_iff_mem.1 hc)).1 rfl
      · rw [Bool.eq_false_iff]
        intro hc
        obtain ⟨x, hx, hb⟩ := List.any_eq_true.1 hc
        simp only [badX, Bool.or_eq_true, decide_eq_true_eq] at hb
        rcases hb with rfl | hb
        · exact h2 hx
        · exact (hP x (List.contains_iff_mem.1 hb)).2.1 hx
    · rw [B.dom_app] at hy
      rcases List.mem_append.1 hy with hy | hy
      · exact (hP y hy).2.2
      · simp only [B.dom, List.mem_singleton] at hy
        subst hy
        exact h3
theorem bindsV_of_wf {R : B} (h : wfB R) (hl : R.len ≤ 400) : bindsV R = true := by
  unfold bindsV
  rw [bindsR_of_wf h (fun v hv => by simp [B.dom] at hv), decide_eq_true hl]
  rfl
/-- All variables that are named are among those. -/
def allB (V : Int → Prop) : B → Prop
  | .nil => True
  | .cons v k n d r => V v ∧ (∀ x ∈ vT k n d, V x) ∧ allB V r
theorem allB_app {V : Int → Prop} {L M : B} (h : allB V L) (k : allB V M) : allB V (L.app M) := by
  induction L with
  | nil => exact k
  | cons v k' n d r ih => exact ⟨h.1, h.2.1, ih h.2.2⟩
theorem allB_dom {V : Int → Prop} {L : B} (h : allB V L) : ∀ x ∈ L.dom, V x := by
  induction L with
  | nil => intro x hx; simp [B.dom] at hx
  | cons v k n d r ih =>
    intro x hx
    simp only [B.dom, List.mem_cons] at hx
    rcases hx with rfl | hx
    · exact h.1
    · exact ih h.2.2 x hx
theorem rsT_all {V : Int → Prop} : ∀ {L : B} {t : Int × Int × F}, allB V L → (∀ x ∈ vTt t, V x) → ∀ x ∈ vTt (rsT L t), V x := by
  intro L
  induction L with
  | nil => intro t _ h; exact h
  | cons v k n d r ih =>
    intro t hL h
    exact ih hL.2.2 (fun x hx => by
      rcases pT_vars t x hx with hh | hh
      · exact h x hh.1
      · exact hL.2.1 x hh)
theorem kids_all {V : Int → Prop} {t : Int × Int × F} (h7 : t.1 ≠ 7) (h : ∀ x ∈ vTt t, V x) : ∀ x ∈ varsF t.2.2, V x := fun x hx => h x (by unfold vTt vT; rw [if_neg h7]; exact hx)
theorem unL_all {V : Int → Prop} {g : Un} (H : ∀ L a b L', allB V L → (∀ x ∈ vTt a, V x) → (∀ x ∈ vTt b, V x) → g L a b = some (some L') → allB V L') : ∀ (f f' : F) (L L' : B), allB V L → (∀ x ∈ varsF f, V x) → (∀ x ∈ varsF f', V x) → unL g L f f' = some (some L') → allB V L' := by
  intro f
  induction f with
  | nil => intro f' L L' hL _ _ h; cases f' <;> (cases h; exact hL)
  | cons k n d r _ ih =>
    intro f' L L' hL hf hf' h
    cases f' with
    | nil => cases h; exact hL
    | cons k' n' d' r' =>
      simp only [unL] at h
      simp only [varsF, List.mem_append] at hf hf'
      cases hg : g L (k, n, d) (k', n', d') with
      | none => rw [hg] at h; cases h
      | some o =>
        rw [hg] at h
        cases o with
        | none => cases h
        | some L1 => exact ih r' L1 L' (H L (k, n, d) (k', n', d') L1 hL (fun x hx => hf x (.inl (by unfold vTt vT at hx; exact hx))) (fun x hx => hf' x (.inl (by unfold vTt vT at hx; exact hx))) hg) (fun x hx => hf x (.inr hx)) (fun x hx => hf' x (.inr hx)) h
theorem un_all {V : Int → Prop} (s : Nat) : ∀ L a b L', allB V L → (∀ x ∈ vTt a, V x) → (∀ x ∈ vTt b, V x) → un s L a b = some (some L') → allB V L' := by
  induction s with
  | zero => intro L a b L' _ _ _ h; cases h
  | succ s ih =>
    intro L a b L' hL ha hb h
    have va := rsT_all hL ha
    have vb := rsT_all hL hb
    rw [un] at h
    split at h
    rotate_left
    · cases h
    split at h
    · cases h; exact hL
    split at h
    · rename_i h3
      injection h with h
      unfold bindU at h
      split at h
      · cases h
      cases h
      exact allB_app hL ⟨va _ (by simp [vTt, vT, h3]), vb, trivial⟩
    split at h
    · rename_i h4
      injection h with h
      unfold bindU at h
      split at h
      · cases h
      cases h
      exact allB_app hL ⟨vb _ (by simp [vTt, vT, h4]), va, trivial⟩
    rename_i x1 x2
    split at h
    · exact unL_all ih _ _ _ _ hL (kids_all x1 va) (kids_all x2 vb) h
    · cases h
theorem nodup_len : ∀ {l m : List Int}, l.Nodup → (∀ x ∈ l, x ∈ m) → l.length ≤ m.length := by
  intro l
  induction l with
  | nil => intro m _ _; simp
  | cons x r ih =>
    intro m hn hs
    obtain ⟨h1, h2⟩ := List.nodup_cons.1 hn
    have hx := hs x (by simp)
    have := ih (m := m.erase x) h2 (fun y hy => (List.mem_erase_of_ne (by intro e; subst e; exact h1 hy)).2 (hs y (by simp [hy])))
    have h3 := List.length_erase_of_mem hx
    have h4 : 0 < m.length := List.length_pos_of_mem hx
    simp only [List.length_cons]
    omega
/-- At most as many binds as variables are named. -/
theorem uniV_len {f L' : B} {s t : Int × Int × F} {m : List Int} (h : uniV f s t = some L') (hf : allB (· ∈ m) f) (hs : ∀ x ∈ vTt s, x ∈ m) (ht : ∀ x ∈ vTt t, x ∈ m) : L'.len ≤ m.length := by
  have hwf := (uniV_sound h).1.1
  unfold uniV at h
  split at h
  rotate_left
  · cases h
  rename_i hb
  simp only [Bool.and_eq_true] at hb
  obtain ⟨hb, o1, o2⟩ := hb
  have hw0 := bindsV_wf hb
  obtain ⟨s0, hu0⟩ := unV_some (a := s) (b := t) hw0.1 (gT_ok o1) (gT_ok o2)
  cases hu : unV f s t with
  | none => rw [hu] at h; cases h
  | some M =>
    rw [hu] at h hu0
    simp only [] at h
    split at h
    rotate_left
    · cases h
    cases h
    have ha := un_all s0 f s t _ hf hs ht hu0
    rw [← B.dom_len]
    exact nodup_len (wfB_dom hwf).1 (allB_dom ha)
end Go.Proofs.Ytmlganaiajhjeaa.By
