/-
  Two trees made alike by binds: the lists' side. No statement is proved here.
-/
import Derived.Test.YtmlganaiajhjeaaUR
namespace Go.Proofs.Ytmlganaiajhjeaa.By
open Go.RowKit
set_option linter.unusedVariables false
set_option linter.unusedSimpArgs false

/-- Its parts fit. -/
def gT (t : Int × Int × F) : Prop := fitsB t.1 t.2.1 t.2.2.len = true ∧ fitF t.2.2 = true
theorem gT_ok {k n : Int} {d : F} (h : okT k n d = true) : gT (k, n, d) := ⟨((okT_iff k n d).1 h).1, ((okT_iff k n d).1 h).2.1⟩
theorem pT_fit {v k0 n0 : Int} {d0 : F} (h0 : gT (k0, n0, d0)) : (∀ f : F, fitF f = true → fitF (pF v k0 n0 d0 f) = true ∧ (pF v k0 n0 d0 f).len = f.len) := by
  intro f
  induction f with
  | nil => intro h; exact ⟨rfl, rfl⟩
  | cons k n d r ihd ihr =>
    intro h
    simp only [fitF, Bool.and_eq_true] at h
    obtain ⟨h1, h2, h3⟩ := h
    have r1 := ihr h3
    have r2 := ihd h2
    simp only [pF]
    by_cases h7 : k = 7
    · rw [if_pos h7]
      by_cases hn : n = v
      · rw [if_pos hn]
        refine ⟨?_, by simp [F.len, r1.2]⟩
        simp only [fitF, Bool.and_eq_true]
        exact ⟨h0.1, h0.2, r1.1⟩
      · rw [if_neg hn]
        refine ⟨?_, by simp [F.len, r1.2]⟩
        simp only [fitF, Bool.and_eq_true]
        exact ⟨h1, h2, r1.1⟩
    · rw [if_neg h7]
      refine ⟨?_, by simp [F.len, r1.2]⟩
      simp only [fitF, Bool.and_eq_true]
      exact ⟨by rw [r2.2]; exact h1, r2.1, r1.1⟩
theorem pT_good {v k0 n0 : Int} {d0 : F} (h0 : gT (k0, n0, d0)) {t : Int × Int × F} (h : gT t) : gT (pT v k0 n0 d0 t.1 t.2.1 t.2.2) := by
  obtain ⟨k, n, d⟩ := t
  obtain ⟨h1, h2⟩ := h
  unfold pT
  by_cases h7 : k = 7
  · simp only [if_pos h7]
    by_cases hn : n = v
    · simp only [if_pos hn]; exact h0
    · simp only [if_neg hn]; exact ⟨h1, h2⟩
  · simp only [if_neg h7]
    have := pT_fit (v := v) h0 d h2
    exact ⟨by simp only []; rw [this.2]; exact h1, this.1⟩
theorem rsT_good : ∀ {L : B} {t : Int × Int × F}, wfB L → gT t → gT (rsT L t) := by
  intro L
  induction L with
  | nil => intro t _ h; exact h
  | cons v k n d r ih =>
    intro t hL h
    obtain ⟨h0, h1, h2, h3, h4⟩ := hL
    exact ih h4 (pT_good (gT_ok h1) h)
/-- The variables of what one tree is put into. -/
theorem pF_vars {v k0 n0 : Int} {d0 : F} (f : F) : ∀ x ∈ varsF (pF v k0 n0 d0 f), (x ∈ varsF f ∧ x ≠ v) ∨ x ∈ vT k0 n0 d0 := by
  induction f with
  | nil => intro x hx; simp [pF, varsF] at hx
  | cons k n d r ihd ihr =>
    intro x hx
    simp only [pF] at hx
    by_cases h7 : k = 7
    · rw [if_pos h7] at hx
      by_cases hn : n = v
      · rw [if_pos hn] at hx
        simp only [varsF, List.mem_append] at hx
        rcases hx with hx | hx
        · exact .inr hx
        · rcases ihr x hx with h | h
          · exact .inl ⟨by simp only [varsF, List.mem_append]; exact .inr h.1, h.2⟩
          · exact .inr h
      · rw [if_neg hn] at hx
        simp only [varsF, List.mem_append, if_pos h7, List.mem_singleton] at hx
        rcases hx with hx | hx
        · exact .inl ⟨by simp only [varsF, List.mem_append, if_pos h7, List.mem_singleton]; exact .inl hx, by rw [hx]; exact hn⟩
        · rcases ihr x hx with h | h
          · exact .inl ⟨by simp only [varsF, List.mem_append]; exact .inr h.1, h.2⟩
          · exact .inr h
    · rw [if_neg h7] at hx
      simp only [varsF, List.mem_append, if_neg h7] at hx
      rcases hx with hx | hx
      · rcases ihd x hx with h | h
        · exact .inl ⟨by simp only [varsF, List.mem_append, if_neg h7]; exact .inl h.1, h.2⟩
        · exact .inr h
      · rcases ihr x hx with h | h
        · exact .inl ⟨by simp only [varsF, List.mem_append]; exact .inr h.1, h.2⟩
        · exact .inr h
def vTt (t : Int × Int × F) : List Int := vT t.1 t.2.1 t.2.2
theorem pT_vars {v k0 n0 : Int} {d0 : F} (t : Int × Int × F) : ∀ x ∈ vTt (pT v k0 n0 d0 t.1 t.2.1 t.2.2), (x ∈ vTt t ∧ x ≠ v) ∨ x ∈ vT k0 n0 d0 := by
  obtain ⟨k, n, d⟩ := t
  intro x hx
  simp only [vTt, pT] at hx ⊢
  by_cases h7 : k = 7
  · simp only [if_pos h7] at hx
    by_cases hn : n = v
    · simp only [if_pos hn] at hx; exact .inr hx
    · simp only [if_neg hn] at hx
      refine .inl ⟨hx, ?_⟩
      simp only [vT, if_pos h7, List.mem_singleton] at hx
      rw [hx]; exact hn
  · simp only [if_neg h7] at hx
    simp only [vT, if_neg h7] at hx ⊢
    exact pF_vars d x hx
/-- What is resolved names no variable that is bound. -/
theorem rsT_out : ∀ {L : B} {t : Int × Int × F} {v : Int}, wfB L → freeB v L → v ∉ vTt t → v ∉ vTt (rsT L t) := by
  intro L
  induction L with
  | nil => intro t v _ _ h; exact h
  | cons y k n d r ih =>
    intro t v hL hf h
    obtain ⟨h0, h1, h2, h3, h4⟩ := hL
    obtain ⟨f1, f2, f3⟩ := hf
    refine ih h4 f3 (fun hx => ?_)
    rcases pT_vars t v hx with hh | hh
    · exact h hh.1
    · exact f2 hh
theorem rsT_vars : ∀ {L : B} {t : Int × Int × F}, wfB L → ∀ v ∈ L.dom, v ∉ vTt (rsT L t) := by
  intro L
  induction L with
  | nil => intro t _ v hv; simp [B.dom] at hv
  | cons y k n d r ih =>
    intro t hL v hv
    obtain ⟨h0, h1, h2, h3, h4⟩ := hL
    simp only [B.dom, List.mem_cons] at hv
    rcases hv with rfl | hv
    · refine rsT_out (L := r) (t := pT v k n d t.1 t.2.1 t.2.2) h4 h3 (fun hx => ?_)
      rcases pT_vars t v hx with hh | hh
      · exact hh.2 rfl
      · exact h2 hh
    · exact ih h4 v hv
/-- Behind all binds one more. -/
theorem wfB_snoc : ∀ {L : B} {v k n : Int} {d : F}, wfB L → (0 ≤ v ∧ v < 100000) → okT k n d = true → v ∉ vT k n d → v ∉ L.dom → (∀ x ∈ L.dom, x ∉ vT k n d) → wfB (L.app (.cons v k n d .nil)) := by
  intro L
  induction L with
  | nil => intro v k n d _ h1 h2 h3 _ _; exact ⟨h1, h2, h3, trivial, trivial⟩
  | cons y k' n' d' r ih =>
    intro v k n d hL h1 h2 h3 h4 h5
    obtain ⟨p0, p1, p2, p3, p4⟩ := hL
    simp only [B.dom, List.mem_cons, not_or] at h4
    refine ⟨p0, p1, p2, ?_, ih p4 h1 h2 h3 h4.2 (fun x hx => h5 x (by simp [B.dom, hx]))⟩
    have : ∀ {R : B}, freeB y R → freeB y (R.app (.cons v k n d .nil)) := by
      intro R
      induction R with
      | nil => intro _; exact ⟨h4.1, h5 y (by simp [B.dom]), trivial⟩
      | cons z a b c r ih => intro hR; exact ⟨hR.1, hR.2.1, ih hR.2.2⟩
    exact this p3
theorem rsT_app (L M : B) : ∀ t, rsT (L.app M) t = rsT M (rsT L t) := by
  induction L with
  | nil => intro t; rfl
  | cons v k n d r ih => intro t; exact ih _
theorem rsF_appB (L M : B) : ∀ f, rsF (L.app M) f = rsF M (rsF L f) := by
  induction L with
  | nil => intro t; rfl
  | cons v k n d r ih => intro t; exact ih _
/-- What names nothing that is bound stays. -/
theorem rsT_idle : ∀ {L : B} {t : Int × Int × F}, (∀ v ∈ L.dom, v ∉ vTt t) → rsT L t = t := by
  intro L
  induction L with
  | nil => intro t _; rfl
  | cons v k n d r ih =>
    intro t h
    have e : pT v k n d t.1 t.2.1 t.2.2 = t := pT_id (h v (by simp [B.dom]))
    simp only [rsT]
    rw [e]
    exact ih (fun x hx => h x (by simp [B.dom, hx]))
theorem rsT_twice {L : B} {t : Int × Int × F} (hL : wfB L) : rsT L (rsT L t) = rsT L t := rsT_idle (rsT_vars hL)

abbrev Un := B → Int × Int × F → Int × Int × F → Option (Option B)
/-- Lists of parts made alike, from the first on. -/
def unL (g : Un) : B → F → F → Option (Option B)
  | L, .cons k n d r, .cons k' n' d' r' => match g L (k, n, d) (k', n', d') with
    | none => none
    | some none => some none
    | some (some L') => unL g L' r r'
  | L, _, _ => some (some L)
/-- One variable is bound, if that may be. -/
def bindU (L : B) (v : Int) (t : Int × Int × F) : Option B := if v ∈ vTt t then none else some (L.app (.cons v t.1 t.2.1 t.2.2 .nil))
def un : Nat → Un
  | 0, _, _, _ => none
  | s + 1, L, a, b =>
    if (wOk L a.1 a.2.1 a.2.2 10 60 && wOk L b.1 b.2.1 b.2.2 10 60) = true then
      if (rsT L a).1 = 7 ∧ (rsT L b).1 = 7 ∧ (rsT L a).2.1 = (rsT L b).2.1 then some (some L)
      else if (rsT L a).1 = 7 then some (bindU L (rsT L a).2.1 (rsT L b))
      else if (rsT L b).1 = 7 then some (bindU L (rsT L b).2.1 (rsT L a))
      else if (rsT L a).1 = (rsT L b).1 ∧ (rsT L a).2.1 = (rsT L b).2.1 ∧ (rsT L a).2.2.len = (rsT L b).2.2.len then unL (un s) L (rsT L a).2.2 (rsT L b).2.2
      else some none
    else some none
theorem unL_mono {g h : Un} (H : ∀ L a b R, g L a b = some R → h L a b = some R) : ∀ (f f' : F) (L : B) (R : Option B), unL g L f f' = some R → unL h L f f' = some R := by
  intro f
  induction f with
  | nil => intro f' L R hr; cases f' <;> exact hr
  | cons k n d r _ ih =>
    intro f' L R hr
    cases f' with
    | nil => exact hr
    | cons k' n' d' r' =>
      simp only [unL] at hr ⊢
      cases hg : g L (k, n, d) (k', n', d') with
      | none => rw [hg] at hr; cases hr
      | some o =>
        rw [hg] at hr
        rw [H _ _ _ _ hg]
        cases o with
        | none => exact hr
        | some L' => exact ih r' L' R hr
theorem un_mono1 (s : Nat) : ∀ L a b R, un s L a b = some R → un (s + 1) L a b = some R := by
  induction s with
  | zero => intro L a b R h; cases h
  | succ s ih =>
    intro L a b R h
    rw [un] at h ⊢
    split at h
    · rename_i h1
      rw [if_pos h1]
      split at h
      · rename_i h2; rw [if_pos h2]; exact h
      · rename_i h2; rw [if_neg h2]
        split at h
        · rename_i h3; rw [if_pos h3]; exact h
        · rename_i h3; rw [if_neg h3]
          split at h
          · rename_i h4; rw [if_pos h4]; exact h
          · rename_i h4; rw [if_neg h4]
            split at h
            · rename_i h5; rw [if_pos h5]; exact unL_mono ih _ _ _ _ h
            · rename_i h5; rw [if_neg h5]; exact h
    · rename_i h1; rw [if_neg h1]; exact h
theorem un_mono {s s' : Nat} (hs : s ≤ s') {L : B} {a b : Int × Int × F} {R : Option B} (h : un s L a b = some R) : un s' L a b = some R := by
  induction hs with
  | refl => exact h
  | step _ ih => exact un_mono1 _ _ _ _ _ ih
/-- What a tree that may be resolved comes to is a type. -/
theorem wOk_ok {L : B} {t : Int × Int × F} (hL : wfB L) (h : gT t) (hw : wOk L t.1 t.2.1 t.2.2 10 60 = true) : okT (rsT L t).1 (rsT L t).2.1 (rsT L t).2.2 = true := by
  obtain ⟨k, n, d⟩ := t
  have g := rsT_good hL h
  simp only [wOk, Bool.and_eq_true, decide_eq_true_eq] at hw
  exact (okT_iff _ _ _).2 ⟨g.1, g.2, hw.1, hw.2⟩
theorem okT_var {k n : Int} {d : F} (h : okT k n d = true) (h7 : k = 7) : (0 ≤ n ∧ n < 100000) ∧ d = .nil := by
  have := (okT_iff k n d).1 h
  have h1 := this.1
  rw [h7] at h1
  have h2 := fit7 h1 rfl
  rw [fits7] at h1
  simp only [Bool.and_eq_true, decide_eq_true_eq] at h1
  exact ⟨by omega, h2⟩
theorem var_out {L : B} {t : Int × Int × F} (hL : wfB L) (h7 : (rsT L t).1 = 7) : (rsT L t).2.1 ∉ L.dom := fun hx => by
  have := rsT_vars (t := t) hL _ hx
  exact this (by simp [vTt, vT, h7])
theorem bindU_wf {L L' : B} {v : Int} {t : Int × Int × F} (hL : wfB L) (hv : 0 ≤ v ∧ v < 100000) (hvd : v ∉ L.dom) (ht : okT t.1 t.2.1 t.2.2 = true) (hx : ∀ x ∈ L.dom, x ∉ vTt t) (h : bindU L v t = some L') : wfB L' ∧ L' = L.app (.cons v t.1 t.2.1 t.2.2 .nil) := by
  unfold bindU at h
  by_cases hm : v ∈ vTt t
  · rw [if_pos hm] at h; cases h
  · rw [if_neg hm] at h
    cases h
    exact ⟨wfB_snoc hL hv ht hm hvd hx, rfl⟩
def gF (f : F) : Prop := fitF f = true
/-- Binds are only added. -/
theorem unL_wf {g : Un} (H : ∀ L a b L', wfB L → gT a → gT b → g L a b = some (some L') → wfB L' ∧ ∃ M, L' = L.app M) : ∀ (f f' : F) (L L' : B), wfB L → fitF f = true → fitF f' = true → unL g L f f' = some (some L') → wfB L' ∧ ∃ M, L' = L.app M := by
  intro f
  induction f with
  | nil => intro f' L L' hL _ _ h; cases f' <;> (cases h; exact ⟨hL, .nil, (B.app_nil _).symm⟩)
  | cons k n d r _ ih =>
    intro f' L L' hL hf hf' h
    cases f' with
    | nil => cases h; exact ⟨hL, .nil, (B.app_nil _).symm⟩
    | cons k' n' d' r' =>
      simp only [unL] at h
      simp only [fitF, Bool.and_eq_true] at hf hf'
      cases hg : g L (k, n, d) (k', n', d') with
      | none => rw [hg] at h; cases h
      | some o =>
        rw [hg] at h
        cases o with
        | none => cases h
        | some L1 =>
          obtain ⟨h1, M, hM⟩ := H _ _ _ _ hL ⟨hf.1, hf.2.1⟩ ⟨hf'.1, hf'.2.1⟩ hg
          obtain ⟨h2, M2, hM2⟩ := ih r' L1 L' h1 hf.2.2 hf'.2.2 h
          exact ⟨h2, M.app M2, by rw [hM2, hM, B.app_assoc]⟩
theorem un_wf (s : Nat) : ∀ L a b L', wfB L → gT a → gT b → un s L a b = some (some L') → wfB L' ∧ ∃ M, L' = L.app M := by
  induction s with
  | zero => intro L a b L' _ _ _ h; cases h
  | succ s ih =>
    intro L a b L' hL ha hb h
    rw [un] at h
    split at h
    rotate_left
    · cases h
    rename_i h1
    simp only [Bool.and_eq_true] at h1
    have oa := wOk_ok hL ha h1.1
    have ob := wOk_ok hL hb h1.2
    split at h
    · cases h; exact ⟨hL, .nil, (B.app_nil _).symm⟩
    split at h
    · rename_i h3
      injection h with h
      obtain ⟨r1, r2⟩ := bindU_wf hL (okT_var oa h3).1 (var_out hL h3) ob (rsT_vars hL) h
      exact ⟨r1, _, r2⟩
    split at h
    · rename_i h4
      injection h with h
      obtain ⟨r1, r2⟩ := bindU_wf hL (okT_var ob h4).1 (var_out hL h4) oa (rsT_vars hL) h
      exact ⟨r1, _, r2⟩
    split at h
    · exact unL_wf ih _ _ _ _ hL (rsT_good hL ha).2 (rsT_good hL hb).2 h
    · cases h
theorem len_range (N : Nat) : ∀ (l : List Int), l.Nodup → (∀ x ∈ l, 0 ≤ x ∧ x < (N : Int)) → l.length ≤ N := by
  induction N with
  | zero =>
    intro l _ h
    cases l with
    | nil => simp
    | cons x r => have := h x (by simp); omega
  | succ N ih =>
    intro l hn h
    by_cases hm : (N : Int) ∈ l
    · have h1 := ih (l.erase N) (hn.erase _) (fun x hx => by
        have hx' := List.mem_of_mem_erase hx
        have hne : x ≠ (N : Int) := fun e => by subst e; exact (List.Nodup.not_mem_erase hn) hx
        have := h x hx'; omega)
      have h2 := List.length_erase_of_mem hm
      omega
    · have h1 := ih l hn (fun x hx => by
        have hne : x ≠ (N : Int) := fun e => by subst e; exact hm hx
        have := h x hx; omega)
      omega
theorem wfB_dom : ∀ {L : B}, wfB L → L.dom.Nodup ∧ ∀ x ∈ L.dom, 0 ≤ x ∧ x < 100000 := by
  intro L
  induction L with
  | nil => intro _; exact ⟨List.nodup_nil, fun x hx => by simp [B.dom] at hx⟩
  | cons v k n d r ih =>
    intro h
    obtain ⟨h0, h1, h2, h3, h4⟩ := h
    obtain ⟨i1, i2⟩ := ih h4
    exact ⟨List.nodup_cons.2 ⟨freeB_dom h3, i1⟩, fun x hx => by
      simp only [B.dom, List.mem_cons] at hx
      rcases hx with rfl | hx
      · exact h0
      · exact i2 x hx⟩
theorem wfB_len {L : B} (h : wfB L) : L.len ≤ 100000 := by
  rw [← B.dom_len]
  obtain ⟨h1, h2⟩ := wfB_dom h
  exact len_range 100000 _ h1 (fun x hx => by have := h2 x hx; omega)
/-- It ends. -/
theorem unL_ends {L0 : B} {D N : Nat} (hN : ∀ L a b, wfB L → gT a → gT b → 100000 - L.len < N → ∃ s, (un s L a b).isSome = true)
    (hD : ∀ a b, gT a → gT b → depF (rsT L0 a).2.2 < D → ∃ s, (un s L0 a b).isSome = true) (hL0 : 100000 - L0.len ≤ N) :
    ∀ (f f' : F) (L : B), wfB L → fitF f = true → fitF f' = true → ((L = L0 ∧ depF (rsF L0 f) ≤ D) ∨ 100000 - L.len < N) → ∃ s, (unL (un s) L f f').isSome = true := by
  intro f
  induction f with
  | nil => intro f' L _ _ _ _; exact ⟨0, by cases f' <;> rfl⟩
  | cons k n d r _ ih =>
    intro f' L hL hf hf' hc
    cases f' with
    | nil => exact ⟨0, rfl⟩
    | cons k' n' d' r' =>
      simp only [fitF, Bool.and_eq_true] at hf hf'
      obtain ⟨s1, h1⟩ : ∃ s, (un s L (k, n, d) (k', n', d')).isSome = true := by
        rcases hc with ⟨rfl, hd⟩ | hc
        · rw [rsF_cons] at hd
          simp only [depF] at hd
          exact hD _ _ ⟨hf.1, hf.2.1⟩ ⟨hf'.1, hf'.2.1⟩ (by omega)
        · exact hN _ _ _ hL ⟨hf.1, hf.2.1⟩ ⟨hf'.1, hf'.2.1⟩ hc
      obtain ⟨R, hR⟩ := Option.isSome_iff_exists.1 h1
      cases R with
      | none => exact ⟨s1, by simp only [unL]; rw [hR]; rfl⟩
      | some L1 =>
        obtain ⟨w1, M, hM⟩ := un_wf s1 _ _ _ _ hL ⟨hf.1, hf.2.1⟩ ⟨hf'.1, hf'.2.1⟩ hR
        have hl1 := wfB_len w1
        have hlen : L1.len = L.len + M.len := by rw [hM, B.app_len]
        obtain ⟨s2, h2⟩ := ih r' L1 w1 hf.2.2 hf'.2.2 (by
          by_cases hM0 : M.len = 0
          · have : M = .nil := B.nil_of_len hM0
            subst this
            rw [B.app_nil] at hM
            subst hM
            rcases hc with ⟨e, hd⟩ | hc
            · rw [rsF_cons] at hd
              simp only [depF] at hd
              exact .inl ⟨e, by omega⟩
            · exact .inr hc
          · rcases hc with ⟨rfl, hd⟩ | hc
            · exact .inr (by omega)
            · exact .inr (by omega))
        obtain ⟨R2, hR2⟩ := Option.isSome_iff_exists.1 h2
        refine ⟨max s1 s2, ?_⟩
        simp only [unL]
        rw [un_mono (Nat.le_max_left s1 s2) hR]
        simp only []
        rw [unL_mono (fun _ _ _ _ h => un_mono (Nat.le_max_right s1 s2) h) _ _ _ _ hR2]
        rfl
theorem un_ends (N : Nat) : ∀ (D : Nat) (L : B) (a b : Int × Int × F), wfB L → gT a → gT b → 100000 - L.len < N → depF (rsT L a).2.2 < D → ∃ s, (un s L a b).isSome = true := by
  induction N with
  | zero => intro D L a b _ _ _ h; omega
  | succ N ihN =>
    intro D
    induction D with
    | zero => intro L a b _ _ _ _ h; omega
    | succ D ihD =>
      intro L a b hL ha hb hN hD
      have ga := rsT_good hL ha
      have gb := rsT_good hL hb
      by_cases h5 : (rsT L a).1 = 7 ∨ (rsT L b).1 = 7
      · refine ⟨1, ?_⟩
        rw [un]
        split
        · split
          · rfl
          · split
            · rfl
            · split
              · rfl
              · rename_i x1 x2; rcases h5 with h5 | h5
                · exact absurd h5 x1
                · exact absurd h5 x2
        · rfl
      · obtain ⟨s, hs⟩ := unL_ends (L0 := L) (D := D) (N := N) (fun L' a' b' w1 g1 g2 hlt => ihN (depF (rsT L' a').2.2 + 1) L' a' b' w1 g1 g2 hlt (Nat.lt_succ_self _)) (fun a' b' g1 g2 hlt => ihD L a' b' hL g1 g2 hN hlt) (by omega) (rsT L a).2.2 (rsT L b).2.2 L hL ga.2 gb.2 (.inl ⟨rfl, by
          have hk : (rsT L a).1 ≠ 7 := fun e => h5 (.inl e)
          have e1 := rsT_twice (t := a) hL
          have e2 := rsT_other L (n := (rsT L a).2.1) (d := (rsT L a).2.2) hk
          have e3 : rsT L ((rsT L a).1, (rsT L a).2.1, (rsT L a).2.2) = rsT L a := e1
          rw [e3] at e2
          have e4 := congrArg (fun x => x.2.2) e2
          simp only [] at e4
          rw [← e4]; omega⟩)
        refine ⟨s + 1, ?_⟩
        rw [un]
        split
        · split
          · rfl
          · split
            · rfl
            · split
              · rfl
              · split
                · exact hs
                · rfl
        · rfl
theorem un_any {L : B} {a b : Int × Int × F} (hL : wfB L) (ha : gT a) (hb : gT b) : ∃ s, (un s L a b).isSome = true :=
  un_ends (100000 - L.len + 1) (depF (rsT L a).2.2 + 1) L a b hL ha hb (Nat.lt_succ_self _) (Nat.lt_succ_self _)
/-- What comes of making two types alike by binds that may be. -/
noncomputable def unV (L : B) (a b : Int × Int × F) : Option B := open Classical in if h : ∃ s, (un s L a b).isSome = true then (un (Classical.choose h) L a b).getD none else none
theorem unV_eq {L : B} {a b : Int × Int × F} {s : Nat} {R : Option B} (h : un s L a b = some R) : unV L a b = R := by
  have hx : ∃ s, (un s L a b).isSome = true := ⟨s, by rw [h]; rfl⟩
  unfold unV
  rw [dif_pos hx]
  have hc := Classical.choose_spec hx
  obtain ⟨R2, hR2⟩ := Option.isSome_iff_exists.1 hc
  rw [hR2]
  have e1 := un_mono (Nat.le_max_left s (Classical.choose hx)) h
  have e2 := un_mono (Nat.le_max_right s (Classical.choose hx)) hR2
  rw [e1] at e2
  injection e2 with e2
  rw [e2]; rfl
theorem unV_some {L : B} {a b : Int × Int × F} (hL : wfB L) (ha : gT a) (hb : gT b) : ∃ s, un s L a b = some (unV L a b) := by
  obtain ⟨s, hs⟩ := un_any hL ha hb
  obtain ⟨R, hR⟩ := Option.isSome_iff_exists.1 hs
  exact ⟨s, by rw [unV_eq hR]; exact hR⟩
/-- The binds then, of Unify; none: it can't be done. -/
noncomputable def uniV (L : B) (a b : Int × Int × F) : Option B :=
  if (bindsV L && (okT a.1 a.2.1 a.2.2 && okT b.1 b.2.1 b.2.2)) = true then
    match unV L a b with
    | none => none
    | some L' => if wOk L' a.1 a.2.1 a.2.2 10 60 = true then some L' else none
  else none
end Go.Proofs.Ytmlganaiajhjeaa.By
