/-
  Several texts in one (YWa, Same). No statement is proved here.
-/
import Derived.Test.YtccnninmkfhejaaYLaAlso
import Derived.Test.YtccnninmkfhejaaGQAlso
import Derived.Laws.BytesArg
namespace Go.Proofs.Ytccnninmkfhejaa.By
open Go.RowKit
set_option linter.unusedVariables false
set_option linter.unusedSimpArgs false

theorem fndK_spec : ∀ (xs : List REntry) (A : Int), (∀ i, i < fndK xs A → keyAt xs i < A) ∧ (fndK xs A < xs.length → A ≤ keyAt xs (fndK xs A))
  | [], A => ⟨fun i hi => by simp [fndK] at hi, fun h => by simp at h⟩
  | x :: r, A => by
    have ih := fndK_spec r A
    by_cases h0 : x.key < A
    · simp only [fndK, if_pos h0]
      refine ⟨fun i hi => ?_, fun h => ?_⟩
      · match i, hi with
        | 0, _ => simpa [keyAt] using h0
        | i + 1, hi => simpa [keyAt] using ih.1 i (by omega)
      · simpa [keyAt] using ih.2 (by simpa using h)
    · simp only [fndK, if_neg h0]
      exact ⟨fun i hi => by omega, fun _ => by simp [keyAt]; omega⟩
theorem getD_ins {xs : List REntry} {k m : Nat} (hk : k ≤ xs.length) (e d : REntry) (j : Nat) : (xs.take k ++ e :: xs.drop m).getD j d = if j < k then xs.getD j d else if j = k then e else xs.getD (m + (j - k - 1)) d := by
  have hl : (xs.take k).length = k := by rw [List.length_take]; omega
  simp only [List.getD]
  by_cases h1 : j < k
  · rw [if_pos h1, List.getElem?_append_left (by omega), List.getElem?_take, if_pos h1]
  · rw [if_neg h1, List.getElem?_append_right (by omega), hl]
    by_cases h2 : j = k
    · subst h2; simp
    · rw [if_neg h2]
      obtain ⟨q, hq⟩ : ∃ q, j - k = q + 1 := ⟨j - k - 1, by omega⟩
      rw [hq, List.getElem?_cons_succ, List.getElem?_drop, Nat.add_sub_cancel]
theorem okTo_of {xs : List REntry} : ∀ {n : Nat}, (∀ k, k < n → okAt xs k = true) → okTo xs n = true
  | 0, _ => rfl
  | n + 1, h => by simp only [okTo, Bool.and_eq_true]; exact ⟨okTo_of fun k hk => h k (by omega), h n (by omega)⟩
theorem okAt_iff {xs : List REntry} {k : Nat} : okAt xs k = true ↔ (isW (keyAt xs k) = true ∧ isW (valAt xs k) = true ∧ (k = 0 ∨ keyAt xs (k - 1) < keyAt xs k)) := by
  simp only [okAt, Bool.and_eq_true, Bool.or_eq_true, decide_eq_true_eq]
  constructor
  · rintro ⟨⟨h1, h2⟩, h3⟩; exact ⟨h1, h2, h3⟩
  · rintro ⟨h1, h2, h3⟩; exact ⟨⟨h1, h2⟩, h3⟩
/-- A store that is as it must be stays so behind a put, and what was put is got. -/
theorem putV_ok {xs : List REntry} {A C : Int} (h : okTo xs xs.length = true) (hA : isW A = true) (hC : isW C = true) (hl : xs.length ≤ 20) :
    okTo (putV xs A C) (putV xs A C).length = true ∧ (putV xs A C).length ≤ 20 ∧ (getV (putV xs A C) A = C ∨ xs.length = 20 ∧ getV xs A = 0) := by
  obtain ⟨k, hk⟩ : ∃ k, k = fndK xs A := ⟨_, rfl⟩
  have hs := fndK_spec xs A
  have hkl := fndK_le xs A
  rw [← hk] at hs hkl
  have hat : ∀ j, j < xs.length → _ := fun j hj => okAt_iff.1 (okTo_at h hj)
  unfold putV
  rw [← hk]
  by_cases hb : fndB xs A = true
  · rw [hb]
    have hb' : k < xs.length ∧ keyAt xs k = A := by unfold fndB at hb; rw [← hk] at hb; exact of_decide_eq_true hb
    simp only [putK, if_true]
    have hlen : (xs.take k ++ ⟨A, C⟩ :: xs.drop (k + 1)).length = xs.length := by simp only [List.length_append, List.length_cons, List.length_take, List.length_drop]; omega
    have hkey : ∀ j, keyAt (xs.take k ++ ⟨A, C⟩ :: xs.drop (k + 1)) j = keyAt xs j := fun j => by
      unfold keyAt
      rw [getD_ins hkl]
      split
      · rfl
      · split
        · rename_i e; subst e; exact hb'.2.symm
        · rw [show k + 1 + (j - k - 1) = j by omega]
    have hval : ∀ j, j ≠ k → valAt (xs.take k ++ ⟨A, C⟩ :: xs.drop (k + 1)) j = valAt xs j := fun j hj => by
      unfold valAt
      rw [getD_ins hkl]
      split
      · rfl
      · first | rw [if_neg hj, show k + 1 + (j - k - 1) = j by omega] | rw [show k + 1 + (j - k - 1) = j by omega]
    have hvk : valAt (xs.take k ++ ⟨A, C⟩ :: xs.drop (k + 1)) k = C := by unfold valAt; rw [getD_ins hkl]; simp
    rw [hlen]
    refine ⟨okTo_of fun j hj => ?_, hl, .inl ?_⟩
    · obtain ⟨a1, a2, a3⟩ := hat j hj
      refine okAt_iff.2 ⟨by rw [hkey]; exact a1, ?_, by rw [hkey, hkey]; exact a3⟩
      by_cases e : j = k
      · subst e; rw [hvk]; exact hC
      · rw [hval j e]; exact a2
    · rw [getV_at (k := k) (by omega) (fun i hi => by rw [hkey]; exact hs.1 i hi) (by rw [hkey]; exact hb'.2), hvk]
  · have hb2 : fndB xs A = false := by simpa using hb
    rw [hb2]
    have hb' : ¬ (k < xs.length ∧ keyAt xs k = A) := by unfold fndB at hb2; rw [← hk] at hb2; exact of_decide_eq_false hb2
    by_cases h20 : xs.length < 20
    · simp only [putK, if_pos h20]
      have hlen : (xs.take k ++ ⟨A, C⟩ :: xs.drop k).length = xs.length + 1 := by simp only [List.length_append, List.length_cons, List.length_take, List.length_drop]; omega
      have hlo : ∀ j, j < k → (xs.take k ++ ⟨A, C⟩ :: xs.drop k).getD j ⟨0, 0⟩ = xs.getD j ⟨0, 0⟩ := fun j hj => by rw [getD_ins hkl, if_pos hj]
      have hmi : (xs.take k ++ ⟨A, C⟩ :: xs.drop k).getD k ⟨0, 0⟩ = ⟨A, C⟩ := by rw [getD_ins hkl]; simp
      have hhi : ∀ j, k < j → (xs.take k ++ ⟨A, C⟩ :: xs.drop k).getD j ⟨0, 0⟩ = xs.getD (j - 1) ⟨0, 0⟩ := fun j hj => by rw [getD_ins hkl, if_neg (by omega), if_neg (by omega), show k + (j - k - 1) = j - 1 by omega]
      generalize xs.take k ++ ⟨A, C⟩ :: xs.drop k = ys at *
      simp only [Bool.false_eq_true, if_false]
      rw [hlen]
      refine ⟨okTo_of fun j hj => okAt_iff.2 ?_, by omega, .inl ?_⟩
      · rcases Nat.lt_trichotomy j k with e | e | e
        · obtain ⟨a1, a2, a3⟩ := hat j (by omega)
          simp only [keyAt, valAt] at a1 a2 a3 ⊢
          rw [hlo j e]
          refine ⟨a1, a2, ?_⟩
          rcases a3 with a3 | a3
          · exact .inl a3
          · rw [hlo (j - 1) (by omega)]; exact .inr a3
        · subst e
          simp only [keyAt, valAt]
          rw [hmi]
          refine ⟨hA, hC, ?_⟩
          by_cases h0 : j = 0
          · exact .inl h0
          · right; rw [hlo (j - 1) (by omega)]; exact hs.1 (j - 1) (by omega)
        · obtain ⟨a1, a2, a3⟩ := hat (j - 1) (by omega)
          simp only [keyAt, valAt] at a1 a2 a3 ⊢
          rw [hhi j e]
          refine ⟨a1, a2, .inr ?_⟩
          by_cases e2 : j = k + 1
          · subst e2
            rw [show k + 1 - 1 = k by omega, hmi]
            have h9 := hs.2 (by omega)
            have h8 : ¬ keyAt xs k = A := fun e => hb' ⟨by omega, e⟩
            simp only [keyAt] at h8 h9
            show A < _
            omega
          · rw [hhi (j - 1) (by omega)]
            rcases a3 with a3 | a3
            · omega
            · exact a3
      · rw [getV_at (k := k) (by omega) (fun i hi => by simp only [keyAt]; rw [hlo i hi]; exact hs.1 i hi) (by simp only [keyAt]; rw [hmi])]
        simp only [valAt]; rw [hmi]
    · simp only [putK, if_neg h20, Bool.false_eq_true, if_false]
      refine ⟨h, hl, .inr ⟨by omega, getV_none fun i hi e => ?_⟩⟩
      by_cases e1 : i < k
      · have := hs.1 i e1; omega
      · have h9 := hs.2 (by omega)
        by_cases e2 : i = k
        · subst e2; exact hb' ⟨hi, e⟩
        · have := keys_up h (k := i) (i := k) (by omega) hi; omega

theorem wokV_iff {x : RWorld} : wokV x = true ↔ (x.draws.length ≤ 200 ∧ x.store.length ≤ 20 ∧ x.trace.length ≤ 20000 ∧ numV x.ticks = true ∧ (x.draws.any noNum) = false ∧ okTo x.store x.store.length = true) := by
  simp only [wokV, Bool.and_eq_true, decide_eq_true_eq, Bool.not_eq_true']
  constructor
  · rintro ⟨⟨⟨⟨⟨h1, h2⟩, h3⟩, h4⟩, h5⟩, h6⟩; exact ⟨h1, h2, h3, h4, h5, h6⟩
  · rintro ⟨h1, h2, h3, h4, h5, h6⟩; exact ⟨⟨⟨⟨⟨h1, h2⟩, h3⟩, h4⟩, h5⟩, h6⟩
theorem forOk_iff {x : RWorld} {kind A C : Int} {lit : List Int} : forOk x kind A C lit = true ↔ ((0 ≤ kind ∧ kind ≤ 4) ∧ wokV x = true ∧ isW A = true ∧ isW C = true ∧ lit.length ≤ 64 ∧ x.trace.length < 20000) := by
  simp only [forOk, takV, Bool.and_eq_true, decide_eq_true_eq]
  constructor
  · rintro ⟨h0, ⟨⟨⟨⟨h1, h2⟩, h3⟩, h4⟩, h5⟩⟩; exact ⟨h0, h1, h2, h3, h4, h5⟩
  · rintro ⟨h0, h1, h2, h3, h4, h5⟩; exact ⟨h0, ⟨⟨⟨⟨h1, h2⟩, h3⟩, h4⟩, h5⟩⟩
theorem isW0 : isW 0 = true := by
  unfold isW wd
  first | decide | rfl | simp [wrap64] | kernel_rfl
/-- A call that is taken: the world behind it is as it must be, with one event more. -/
theorem forV_good {x : RWorld} {kind A C : Int} {lit : List Int} (h : forOk x kind A C lit = true) :
    wokV (forV x kind A C lit).1 = true ∧ (forV x kind A C lit).2.2 = true ∧ ∃ ev : REvent, (forV x kind A C lit).1.trace = x.trace ++ [ev] ∧ ev.res = (forV x kind A C lit).2.1 ∧ ev.cap = kind := by
  have hf : forV x kind A C lit = (evApp (callV x kind A C lit).1 (callV x kind A C lit).2, (callV x kind A C lit).2.res, true) := by rw [forV, if_pos h]
  obtain ⟨h0, h1, hA, hC, h4, h5⟩ := forOk_iff.1 h
  obtain ⟨w1, w2, w3, w4, w5, w6⟩ := wokV_iff.1 h1
  have ct := (callV_ev x kind A C lit).2
  obtain ⟨-, -, -, -, hcap⟩ := deed_is x kind A C none 0 0 lit h0
  rw [hf]
  refine ⟨wokV_iff.2 ?_, rfl, (callV x kind A C lit).2, by simp only [evApp]; rw [ct], rfl, hcap⟩
  simp only [evApp]
  rw [ct]
  have hl : (x.trace ++ [(callV x kind A C lit).2]).length ≤ 20000 := by simp only [List.length_append, List.length_cons, List.length_nil]; omega
  rcases (by omega : kind = 0 ∨ kind = 1 ∨ kind = 2 ∨ kind = 3 ∨ kind = 4) with rfl | rfl | rfl | rfl | rfl
  · exact ⟨w1, w2, hl, w4, w5, w6⟩
  · refine ⟨w1, w2, hl, ?_, w5, w6⟩
    simp only [numV, Bool.and_eq_true, decide_eq_true_eq] at w4
    have h9 : 0 ≤ (tickV x).ticks ∧ (tickV x).ticks ≤ 2147483647 := by
      simp only [tickV]
      split
      · constructor <;> omega
      · constructor <;> omega
    show numV (tickV x).ticks = true
    simp only [numV, Bool.and_eq_true, decide_eq_true_eq]
    exact h9
  · show (drawV x A).1.draws.length ≤ 200 ∧ (drawV x A).1.store.length ≤ 20 ∧ _ ∧ numV (drawV x A).1.ticks = true ∧ ((drawV x A).1.draws.any noNum) = false ∧ okTo (drawV x A).1.store (drawV x A).1.store.length = true
    unfold drawV
    cases hx : x.draws with
    | nil => exact ⟨w1, w2, hl, w4, w5, w6⟩
    | cons d r =>
      rw [hx] at w1 w5
      simp only [List.any_cons, Bool.or_eq_false_iff, List.length_cons] at w5 w1
      simp only
      split
      · exact ⟨by simp only; omega, w2, hl, w4, w5.2, w6⟩
      · refine ⟨by rw [hx]; simp only [List.length_cons]; omega, w2, hl, w4, ?_, w6⟩
        rw [hx, List.any_cons, w5.1, w5.2]; rfl
  · exact ⟨w1, w2, hl, w4, w5, w6⟩
  · have hp := putV_ok w6 hA hC w2
    exact ⟨w1, hp.2.1, hl, w4, w5, hp.1⟩
/-- What was put is got, as long as there was room. -/
theorem forV_put {x : RWorld} {A C : Int} (h1 : wokV x = true) (hA : isW A = true) (hC : isW C = true) (h5 : x.trace.length < 19999) :
    (forV x 4 A C []).2.2 = true ∧ (forV (forV x 4 A C []).1 3 A 0 []).2.2 = true ∧ ((forV (forV x 4 A C []).1 3 A 0 []).2.1 = C ∨ x.store.length = 20 ∧ (forV x 3 A 0 []).2.1 = 0) := by
  have o4 : forOk x 4 A C [] = true := forOk_iff.2 ⟨by omega, h1, hA, hC, by simp, by omega⟩
  obtain ⟨g1, g2, ev, g3, -, -⟩ := forV_good o4
  have o3 : forOk (forV x 4 A C []).1 3 A 0 [] = true := forOk_iff.2 ⟨by omega, g1, hA, isW0, by simp, by rw [g3]; simp only [List.length_append, List.length_cons, List.length_nil]; omega⟩
  have o2 : forOk x 3 A 0 [] = true := forOk_iff.2 ⟨by omega, h1, hA, isW0, by simp, by omega⟩
  obtain ⟨w1, w2, w3, w4, w5, w6⟩ := wokV_iff.1 h1
  have hp := (putV_ok w6 hA hC w2).2.2
  have e4 : (forV x 4 A C []).1.store = putV x.store A C := by rw [forV, if_pos o4]; rfl
  have e3 : (forV (forV x 4 A C []).1 3 A 0 []).2.1 = getV (forV x 4 A C []).1.store A := by
    generalize (forV x 4 A C []).1 = y at *
    rw [forV, if_pos o3]; rfl
  have e2 : (forV x 3 A 0 []).2.1 = getV x.store A := by rw [forV, if_pos o2]; rfl
  refine ⟨g2, (forV_good o3).2.1, ?_⟩
  rw [e3, e4, e2]
  exact hp
/-- A call that is not taken. -/
theorem forV_bad {x : RWorld} {kind A C : Int} {lit : List Int} (h : forOk x kind A C lit = false) : forV x kind A C lit = (⟨0, [], [], []⟩, 0, false) := by
  rw [forV, if_neg (by rw [h]; simp)]
end Go.Proofs.Ytccnninmkfhejaa.By

namespace Go.Proofs.Ytccnninmkfhejaa.By
open Go.RowKit
set_option linter.unusedVariables false

/-- An address without a spot, or none. -/
def Plain (a : Option Addr) : Prop := a = none ∨ ∃ b off, a = some ⟨b, off, none⟩
theorem conv_run (w : World) (a : Option Addr) (n cap : Nat) (zs : List Int) (h : Reads w a n zs) (ha : Plain a) : (convert 22 9 (.slice a n cap)).run Try.prog w = .ok (.string (strOfNums zs)) w := by
  obtain ⟨hl, h⟩ := h
  rcases ha with rfl | ⟨b, off, rfl⟩
  · rcases h with h | ⟨_, _, h, _⟩
    · subst h
      obtain rfl : zs = [] := List.eq_nil_of_length_eq_zero hl
      exact run_convert_bytes_nil w 22 5 Try.underlying22 Try.underlying5 0 cap 9 Try.underlying9
    · cases h
  · refine run_convert_bytes_arg w 22 5 Try.underlying22 Try.underlying5 b off n cap zs hl ?_ 9 Try.underlying9
    intro i hi
    rcases h with h | ⟨b', off', h, hc⟩
    · omega
    · cases h; exact hc i hi

set_option maxHeartbeats 400000 in
theorem sameT (a a' : Option Addr) (n cap cap' : Nat) (zs : List Int) (w : World) (h : Reads w a n zs) (h' : Reads w a' n zs) (ha : Plain a) (ha' : Plain a') :
    Calls Try.prog 63 #[.slice a n cap, .slice a' n cap'] w fun e w' => e = .returned (.bool true) ∧ w' = w := by
  have c1 := conv_run w a n cap zs h ha
  have c2 := conv_run w a' n cap' zs h' ha'
  clear h h' ha ha'
  generalize strOfNums zs = s at *
  go_enter Try.func63, Try.ntmps63
  go_wp2
  go_ret
  exact ⟨rfl, rfl⟩
end Go.Proofs.Ytccnninmkfhejaa.By
