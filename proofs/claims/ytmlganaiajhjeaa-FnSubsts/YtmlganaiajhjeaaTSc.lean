/-
  What stands for variables, and the variables of it: lists. No statement is proved here.
-/
import Derived.Test.YtmlganaiajhjeaaTSa
namespace Go.Proofs.Ytmlganaiajhjeaa.By
open Go.RowKit
set_option linter.unusedVariables false
set_option linter.unusedSimpArgs false

/-- Variables from 0 on. -/
def idF : Nat → F
  | 0 => .nil
  | j + 1 => (idF j).app (.cons 7 (j : Int) .nil .nil)
theorem F.nth_app (f g : F) : ∀ (i : Nat), (f.app g).nth i = if i < f.len then f.nth i else g.nth (i - f.len) := by
  induction f with
  | nil => intro i; simp [F.app, F.len]
  | cons k n d r _ ih =>
    intro i
    cases i with
    | zero => simp [F.app, F.nth, F.len]
    | succ i =>
      have e : (F.cons k n d r).len = r.len + 1 := by simp [F.len]
      rw [F.app, F.nth, ih, e]
      by_cases h : i < r.len
      · rw [if_pos h, if_pos (by omega)]; rfl
      · rw [if_neg h, if_neg (by omega)]; congr 1; omega
theorem idF_len (j : Nat) : (idF j).len = j := by
  induction j with
  | zero => rfl
  | succ j ih => rw [idF, F.app_len, ih]; simp [F.len]
theorem idF_nth (j : Nat) : ∀ i, (idF j).nth i = if i < j then some (7, (i : Int), .nil) else none := by
  induction j with
  | zero => intro i; simp [idF, F.nth]
  | succ j ih =>
    intro i
    rw [idF, F.nth_app, idF_len, ih]
    by_cases h : i < j
    · rw [if_pos h, if_pos h, if_pos (by omega)]
    · rw [if_neg h]
      by_cases h2 : i = j
      · subst h2; simp [F.nth]
      · rw [if_neg (by omega)]
        obtain ⟨x, hx⟩ : ∃ x, i - j = x + 1 := ⟨i - j - 1, by omega⟩
        rw [hx]; rfl
theorem okL_app (f g : F) : okL (f.app g) = (okL f && okL g) := by
  induction f with
  | nil => simp [F.app, okL]
  | cons k n d r _ ih => simp [F.app, okL, ih, Bool.and_assoc]
theorem idF_ok (j : Nat) (h : j ≤ 100) : okL (idF j) = true := by
  induction j with
  | zero => rfl
  | succ j ih =>
    rw [idF, okL_app, ih (by omega)]
    simp [okL, okT, fitsB, okF, F.len, F.size]
    omega
theorem fits7_nil {n : Int} {d : F} (h : fitsB 7 n d.len = true) : d = .nil ∧ 0 ≤ n := by
  rw [fits7] at h
  simp only [Bool.and_eq_true, decide_eq_true_eq] at h
  exact ⟨F.nil_of_len h.1, h.2.1⟩
theorem subT_id {N : Nat} {k n : Int} {d : F} (h : fitsB k n d.len = true) (hd : subF (idF N) d = d) : subT (idF N) k n d = (k, n, d) := by
  unfold subT
  by_cases h7 : k = 7
  · subst h7
    obtain ⟨rfl, h0⟩ := fits7_nil h
    rw [if_pos rfl, idF_nth]
    by_cases hn : n.toNat < N
    · rw [if_pos hn]; simp; omega
    · rw [if_neg hn]; simp [subF]
  · rw [if_neg h7, hd]
theorem subF_id {N : Nat} (f : F) : ∀ p, okF f p = true → subF (idF N) f = f := by
  induction f with
  | nil => intro p _; rfl
  | cons k n d r ihd ihr =>
    intro p h
    simp only [okF, Bool.and_eq_true, decide_eq_true_eq] at h
    rw [subF_cons, subT_id h.1.1.2 (ihd _ h.1.2), ihr _ h.2]
/-- Variables that stand for themselves change nothing. -/
theorem sub_id {N : Nat} {k n : Int} {d : F} (hN : N ≤ 60) (h : okT k n d = true) : subOk (idF N) k n d = true ∧ subR (idF N) k n d = (k, n, d) := by
  have h' := h
  simp only [okT, Bool.and_eq_true, decide_eq_true_eq] at h'
  have e := subT_id (N := N) h'.1.1 (subF_id d 9 h'.1.2)
  have hok : subOk (idF N) k n d = true := by
    unfold subOk
    rw [h, e, idF_ok N (by omega), idF_len]
    simp [hN, h]
  exact ⟨hok, by rw [subR_yes hok, e]⟩
/-- Of what was put for a variable of a tree the variables are there. -/
def PutIn (E : F) (v : Int) (us : List Int) : Prop := match E.nth v.toNat with
  | some x => ∀ u ∈ vT x.1 x.2.1 x.2.2, u ∈ us
  | none => v ∈ us
theorem putIn_mono {E : F} {v : Int} {us us' : List Int} (h : PutIn E v us) (hs : ∀ u ∈ us, u ∈ us') : PutIn E v us' := by
  unfold PutIn at *
  split at h
  · exact fun u hu => hs u (h u hu)
  · exact hs _ h
theorem putTv {E : F} {k n : Int} {d : F} (h : fitsB k n d.len = true) (hd : ∀ v ∈ varsF d, PutIn E v (varsF (subF E d))) : ∀ v ∈ vT k n d, PutIn E v (vT (subT E k n d).1 (subT E k n d).2.1 (subT E k n d).2.2) := by
  intro v hv
  by_cases h7 : k = 7
  · subst h7
    have e : v = n := by simpa [vT] using hv
    subst e
    obtain ⟨rfl, h0⟩ := fits7_nil h
    unfold subT PutIn
    rw [if_pos rfl]
    cases hx : E.nth v.toNat with
    | none => simp [vT]
    | some x => exact fun u hu => hu
  · have e1 : vT k n d = varsF d := by unfold vT; rw [if_neg h7]
    have e2 : subT E k n d = (k, n, subF E d) := by unfold subT; rw [if_neg h7]
    rw [e1] at hv
    rw [e2]
    have e3 : vT k n (subF E d) = varsF (subF E d) := by unfold vT; rw [if_neg h7]
    simp only []
    rw [e3]
    exact hd v hv
theorem putFv {E : F} (f : F) : ∀ p, okF f p = true → ∀ v ∈ varsF f, PutIn E v (varsF (subF E f)) := by
  induction f with
  | nil => intro p _ v hv; simp [varsF] at hv
  | cons k n d r ihd ihr =>
    intro p h v hv
    simp only [okF, Bool.and_eq_true, decide_eq_true_eq] at h
    rw [subF_cons]
    have e : ∀ k n d r, varsF (.cons k n d r) = vT k n d ++ varsF r := fun _ _ _ _ => rfl
    rw [e] at hv ⊢
    rcases List.mem_append.1 hv with hv | hv
    · exact putIn_mono (putTv h.1.1.2 (ihd _ h.1.2) v hv) (fun u hu => List.mem_append_left _ hu)
    · exact putIn_mono (ihr _ h.2 v hv) (fun u hu => List.mem_append_right _ hu)
theorem okL_nthV {E : F} : ∀ {i : Nat} {x : Int × Int × F}, okL E = true → E.nth i = some x → okT x.1 x.2.1 x.2.2 = true := by
  induction E with
  | nil => intro i x _ h; cases h
  | cons k n d r _ ih =>
    intro i x h hx
    simp only [okL, Bool.and_eq_true] at h
    cases i with
    | zero => simp only [F.nth, Option.some.injEq] at hx; subst hx; exact h.1
    | succ i => exact ih h.2 hx
theorem varsV_mem {k n : Int} {d : F} (h : okT k n d = true) (v : Int) : v ∈ varsV k n d ↔ v ∈ vT k n d := by
  unfold varsV
  rw [if_pos h, insL_mem]
  simp
theorem varsF_pos (f : F) : ∀ p, okF f p = true → ∀ v ∈ varsF f, 0 ≤ v := by
  induction f with
  | nil => intro p _ v hv; simp [varsF] at hv
  | cons k n d r ihd ihr =>
    intro p h v hv
    simp only [okF, Bool.and_eq_true, decide_eq_true_eq] at h
    rw [varsF] at hv
    rcases List.mem_append.1 hv with hv | hv
    · by_cases h7 : k = 7
      · subst h7
        have e : v = n := by simpa using hv
        subst e
        exact (fits7_nil h.1.1.2).2
      · rw [if_neg h7] at hv; exact ihd _ h.1.2 v hv
    · exact ihr _ h.2 v hv
theorem vT_pos {k n : Int} {d : F} {p : Nat} (h : fitsB k n d.len = true) (hd : okF d p = true) : ∀ v ∈ vT k n d, 0 ≤ v := by
  intro v hv
  unfold vT at hv
  by_cases h7 : k = 7
  · subst h7
    have e : v = n := by simpa using hv
    subst e
    exact (fits7_nil h).2
  · rw [if_neg h7] at hv; exact varsF_pos d p hd v hv
/-- What the law asks of a tree for whose variables something was put. -/
theorem put_vars {E : F} {k n : Int} {d : F} (h : subOk E k n d = true) : ∀ v ∈ varsV k n d, 0 ≤ v ∧ match E.nth v.toNat with
    | some x => ∀ u ∈ varsV x.1 x.2.1 x.2.2, u ∈ varsV (subR E k n d).1 (subR E k n d).2.1 (subR E k n d).2.2
    | none => v ∈ varsV (subR E k n d).1 (subR E k n d).2.1 (subR E k n d).2.2 := by
  intro v hv
  have h' := h
  simp only [subOk, Bool.and_eq_true, decide_eq_true_eq] at h'
  have hok := h'.1
  have hk := hok
  simp only [okT, Bool.and_eq_true, decide_eq_true_eq] at hk
  rw [varsV_mem hok] at hv
  have hp := putTv (E := E) hk.1.1 (putFv d 9 hk.1.2) v hv
  rw [subR_yes h]
  refine ⟨vT_pos hk.1.1 hk.1.2 v hv, ?_⟩
  unfold PutIn at hp
  cases hx : E.nth v.toNat with
  | none =>
    rw [hx] at hp
    exact (varsV_mem h'.2.2.2 v).2 hp
  | some x =>
    rw [hx] at hp
    intro u hu
    rw [varsV_mem (okL_nthV h'.2.2.1 hx)] at hu
    exact (varsV_mem h'.2.2.2 u).2 (hp u hu)
end Go.Proofs.Ytmlganaiajhjeaa.By
