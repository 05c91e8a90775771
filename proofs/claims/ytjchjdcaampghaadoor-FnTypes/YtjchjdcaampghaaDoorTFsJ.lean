/-
  Several texts in one (TSm, TFs). No statement is proved here.
-/
import Derived.Test.YtjchjdcaampghaaDoorTSb
import Derived.Lib.ItoaLen
namespace Go.Proofs.YtjchjdcaampghaaDoor.By
open Go.RowKit
set_option linter.unusedVariables false
set_option linter.unusedSimpArgs false

def decB (n : Nat) : List Int := ofB (Lib.decDigits n)
theorem decB_small {n : Nat} (h : n < 10) : decB n = [48 + (n : Int)] := by
  unfold decB
  rw [Lib.decDigits, dif_pos h]
  simp [ofB, UInt8.toNat_ofNat]
  omega
theorem decB_great {n : Nat} (h : ¬ n < 10) : decB n = decB (n / 10) ++ [48 + ((n % 10 : Nat) : Int)] := by
  unfold decB
  rw [Lib.decDigits, dif_neg h, ofB_app]
  congr 1
  simp [ofB, UInt8.toNat_ofNat]
  omega
theorem decB_len : ∀ (m n : Nat), n < 10 ^ (m + 1) → (decB n).length ≤ m + 1 := by
  intro m
  induction m with
  | zero => intro n h; rw [decB_small (by omega)]; simp
  | succ m ih =>
    intro n h
    by_cases h10 : n < 10
    · rw [decB_small h10]; simp
    · rw [decB_great h10, List.length_append, List.length_singleton]
      have := ih (n / 10) (by rw [Nat.div_lt_iff_lt_mul (by decide)]; rw [Nat.pow_succ] at h; omega)
      omega

theorem fits_rangeS {k n : Int} {l : Nat} (h : fitsB k n l = true) : 0 ≤ k ∧ k ≤ 7 := by
  by_cases h0 : 0 ≤ k ∧ k ≤ 7
  · exact h0
  · rw [fitsx (by omega) (by omega) (by omega) (by omega) (by omega) (by omega) (by omega) (by omega)] at h; cases h
/-- The word of a kind. -/
def wordB (k : Int) : List Int :=
  if k = 0 then [117, 110, 105, 116] else if k = 1 then [105, 110, 116] else if k = 2 then [116, 101, 120, 116] else if k = 3 then [112, 97, 105, 114] else if k = 4 then [102, 117, 110] else [114, 101, 102]
/-- What stands ahead of the parts, and whether they follow. -/
def headS (k n : Int) : List Int := if k = 6 then [40, 100, 97, 116, 97, 32] ++ decB n.toNat else if k = 7 then 39 :: decB n.toNat else if k ≤ 2 then wordB k else 40 :: wordB k
def bodyS (k n : Int) (s : List Int) : List Int := headS k n ++ (if 3 ≤ k ∧ k ≤ 6 then s ++ [41] else [])
/-- The texts of parts, each behind a blank. -/
def sayF : F → List Int
  | .nil => []
  | .cons k n d r => 32 :: bodyS k n (sayF d) ++ sayF r
def sayT (k n : Int) (d : F) : List Int := bodyS k n (sayF d)
/-- The number of a kind that has one. -/
theorem fits_num {k n : Int} {l : Nat} (h : fitsB k n l = true) : 0 ≤ n ∧ n ≤ 99999 ∧ (k = 6 → n ≤ 19) := by
  unfold fitsB at h
  split at h
  · simp only [Bool.and_eq_true, decide_eq_true_eq] at h; omega
  · split at h
    · simp only [Bool.and_eq_true, decide_eq_true_eq] at h; omega
    · split at h
      · simp only [Bool.and_eq_true, decide_eq_true_eq] at h; omega
      · split at h
        · simp only [Bool.and_eq_true, decide_eq_true_eq] at h; omega
        · split at h
          · simp only [Bool.and_eq_true, decide_eq_true_eq] at h; omega
          · cases h
theorem wordB_len (k : Int) : (wordB k).length ≤ 4 := by unfold wordB; (repeat' split) <;> simp
theorem headS_len {k n : Int} {l : Nat} (h : fitsB k n l = true) : (headS k n).length ≤ 8 := by
  have hn := fits_num h
  have hw := wordB_len k
  unfold headS
  split
  · rename_i e
    have := decB_len 1 n.toNat (by have := hn.2.2 e; omega)
    simp only [List.length_append, List.length_cons, List.length_nil]; omega
  · split
    · have := decB_len 4 n.toNat (by omega)
      simp only [List.length_cons]; omega
    · split
      · omega
      · simp only [List.length_cons]; omega
theorem bodyS_len {k n : Int} {l : Nat} (h : fitsB k n l = true) (s : List Int) : (bodyS k n s).length ≤ 9 + s.length := by
  have := headS_len h
  unfold bodyS
  rw [List.length_append]
  split
  · simp only [List.length_append, List.length_singleton]; omega
  · simp only [List.length_nil]; omega
theorem sayF_len (f : F) : ∀ p, okF f p = true → (sayF f).length ≤ 12 * f.size := by
  induction f with
  | nil => intro p _; simp [sayF]
  | cons k n d r ihd ihr =>
    intro p h
    simp only [okF, Bool.and_eq_true, decide_eq_true_eq] at h
    have h1 := ihd _ h.1.2
    have h2 := ihr _ h.2
    have h3 := bodyS_len h.1.1.2 (sayF d)
    have e : (F.cons k n d r).size = 1 + d.size + r.size := rfl
    rw [sayF, e]
    simp only [List.length_append, List.length_cons]
    omega
theorem sayT_len (k n : Int) (d : F) {l p : Nat} (h : fitsB k n l = true) (hd : okF d p = true) : (sayT k n d).length + 1 ≤ 12 * (1 + d.size) := by
  have h1 := sayF_len d p hd
  have h3 := bodyS_len h (sayF d)
  unfold sayT
  omega
end Go.Proofs.YtjchjdcaampghaaDoor.By

namespace Go.Proofs.YtjchjdcaampghaaDoor.By
open Go.RowKit
set_option linter.unusedVariables false

def Dig (z : Int) : Bool := decide (48 ≤ z ∧ z ≤ 57)
def valD (l : List Int) : Int := l.foldl (fun a z => a * 10 + (z - 48)) 0
theorem decB_val (m : Nat) : ∀ n : Nat, n < m → valD (decB n) = (n : Int) ∧ ∀ z ∈ decB n, Dig z = true := by
  induction m with
  | zero => intro n h; omega
  | succ m ih =>
    intro n h
    by_cases h10 : n < 10
    · rw [decB_small h10]
      refine ⟨by simp [valD]; omega, ?_⟩
      intro z hz
      simp only [List.mem_singleton] at hz
      subst hz
      simp only [Dig, decide_eq_true_eq]; omega
    · rw [decB_great h10]
      have := ih (n / 10) (by omega)
      refine ⟨?_, ?_⟩
      · have h1 := this.1
        unfold valD at h1 ⊢
        rw [List.foldl_append, h1]
        simp only [List.foldl_cons, List.foldl_nil]
        omega
      · intro z hz
        rw [List.mem_append] at hz
        rcases hz with hz | hz
        · exact this.2 z hz
        · simp only [List.mem_singleton] at hz
          subst hz
          simp only [Dig, decide_eq_true_eq]; omega
/-- What may stand behind a text: nothing, a blank, a bracket's end. -/
def Stp (r : List Int) : Prop := r = [] ∨ ∃ t, r = 32 :: t ∨ r = 41 :: t
def Cls (r : List Int) : Prop := r = [] ∨ ∃ t, r = 41 :: t
theorem Cls.stp {r : List Int} (h : Cls r) : Stp r := by
  rcases h with h | ⟨t, h⟩
  · exact .inl h
  · exact .inr ⟨t, .inr h⟩
theorem Stp.cut {l r : List Int} (hl : ∀ z ∈ l, Dig z = true) (h : Stp r) : (l ++ r).takeWhile Dig = l := by
  induction l with
  | nil =>
    rcases h with rfl | ⟨t, rfl | rfl⟩
    · rfl
    · simp [Dig]
    · simp [Dig]
  | cons x l ih =>
    rw [List.cons_append, List.takeWhile_cons, hl x (by simp), if_pos rfl, ih (fun z hz => hl z (by simp [hz]))]
theorem dec_inj {n m : Nat} {r r' : List Int} (hr : Stp r) (hr' : Stp r') (h : decB n ++ r = decB m ++ r') : n = m ∧ r = r' := by
  have a := decB_val (n + 1) n (by omega)
  have b := decB_val (m + 1) m (by omega)
  have e : decB n = decB m := by rw [← hr.cut a.2, h, hr'.cut b.2]
  have : (n : Int) = m := by rw [← a.1, ← b.1, e]
  rw [e] at h
  exact ⟨by omega, List.append_cancel_left h⟩
theorem say_stp (f : F) {r : List Int} (h : Cls r) : Stp (sayF f ++ r) := by
  cases f with
  | nil => exact h.stp
  | cons k n d s => exact .inr ⟨_, .inl rfl⟩
theorem len0 {d : F} (h : d.len = 0) : d = .nil := by
  cases d with
  | nil => rfl
  | cons => simp [F.len] at h
theorem body_inj {k n k' n' : Int} {d d' : F} {r r' : List Int} (hf : fitsB k n d.len = true) (hf' : fitsB k' n' d'.len = true) (hr : Stp r) (hr' : Stp r')
    (ih : ∀ s s', Cls s → Cls s' → sayF d ++ s = sayF d' ++ s' → d = d' ∧ s = s')
    (h : bodyS k n (sayF d) ++ r = bodyS k' n' (sayF d') ++ r') : k = k' ∧ n = n' ∧ d = d' ∧ r = r' := by
  have hk := fits_rangeS hf
  have hk' := fits_rangeS hf'
  have c1 : Cls (41 :: r) := .inr ⟨_, rfl⟩
  have c2 : Cls (41 :: r') := .inr ⟨_, rfl⟩
  have s1 := say_stp d c1
  have s2 := say_stp d' c2
  rcases (by omega : k = 0 ∨ k = 1 ∨ k = 2 ∨ k = 3 ∨ k = 4 ∨ k = 5 ∨ k = 6 ∨ k = 7) with rfl | rfl | rfl | rfl | rfl | rfl | rfl | rfl <;>
    rcases (by omega : k' = 0 ∨ k' = 1 ∨ k' = 2 ∨ k' = 3 ∨ k' = 4 ∨ k' = 5 ∨ k' = 6 ∨ k' = 7) with rfl | rfl | rfl | rfl | rfl | rfl | rfl | rfl <;>
    (try (exfalso; simp [bodyS, headS, wordB] at h; done)) <;>
    simp [bodyS, headS, wordB] at h <;>
    simp [fitsB] at hf hf'
  all_goals first
    | (exact ⟨rfl, by omega, (len0 hf.1).trans (len0 hf'.1).symm, h⟩)
    | (obtain ⟨a, b⟩ := ih _ _ c1 c2 h; refine ⟨rfl, by omega, a, by simpa using b⟩)
    | (obtain ⟨a, b⟩ := dec_inj s1 s2 h; obtain ⟨x, y⟩ := ih _ _ c1 c2 b; exact ⟨rfl, by omega, x, by simpa using y⟩)
    | (obtain ⟨a, b⟩ := dec_inj hr hr' h; exact ⟨rfl, by omega, (len0 hf.1).trans (len0 hf'.1).symm, b⟩)
theorem sayF_inj (f : F) : ∀ (g : F) (p q : Nat) (r r' : List Int), okF f p = true → okF g q = true → Cls r → Cls r' → sayF f ++ r = sayF g ++ r' → f = g ∧ r = r' := by
  induction f with
  | nil =>
    intro g p q r r' _ _ hr hr' h
    cases g with
    | nil => exact ⟨rfl, h⟩
    | cons k n d s => rcases hr with rfl | ⟨t, rfl⟩ <;> simp [sayF] at h
  | cons k n d s ihd ihs =>
    intro g p q r r' hf hg hr hr' h
    cases g with
    | nil => rcases hr' with rfl | ⟨t, rfl⟩ <;> simp [sayF] at h
    | cons k' n' d' s' =>
      simp only [okF, Bool.and_eq_true, decide_eq_true_eq] at hf hg
      simp only [sayF, List.cons_append, List.append_assoc, List.cons.injEq, true_and] at h
      obtain ⟨a, b, c, e⟩ := body_inj hf.1.1.2 hg.1.1.2 (say_stp s hr) (say_stp s' hr') (fun x y hx hy e => ihd d' _ _ x y hf.1.2 hg.1.2 hx hy e) h
      obtain ⟨x, y⟩ := ihs s' _ _ r r' hf.2 hg.2 hr hr' e
      subst a b c x
      exact ⟨rfl, y⟩
/-- Two types with one text are one. -/
theorem sayT_inj {k n k' n' : Int} {d d' : F} (hf : okT k n d = true) (hg : okT k' n' d' = true) (h : sayT k n d = sayT k' n' d') : k = k' ∧ n = n' ∧ d = d' := by
  simp only [okT, Bool.and_eq_true, decide_eq_true_eq] at hf hg
  obtain ⟨a, b, c, _⟩ := body_inj (r := []) (r' := []) hf.1.1 hg.1.1 (.inl rfl) (.inl rfl) (fun x y hx hy e => sayF_inj d d' _ _ x y hf.1.2 hg.1.2 hx hy e) (by simpa [sayT] using h)
  exact ⟨a, b, c⟩
end Go.Proofs.YtjchjdcaampghaaDoor.By
