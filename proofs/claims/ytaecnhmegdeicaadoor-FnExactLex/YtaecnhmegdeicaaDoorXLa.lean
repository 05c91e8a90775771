/-
  Whole numbers in the one way in which they are written, in lists. No statement is proved here.
-/
import Derived.Test.YtaecnhmegdeicaaDoorNB0
import Derived.Test.YtaecnhmegdeicaaDoorEW
import Derived.Lib.AtoiAll
import Derived.Lib.ItoaNum
namespace Go.Proofs.YtaecnhmegdeicaaDoor.By
open Go.RowKit
set_option linter.unusedVariables false
set_option linter.unusedSimpArgs false

def dcB (n : Nat) : List Int := (Lib.decDigits n).map fun b => (b.toNat : Int)
theorem dcB_small {n : Nat} (h : n < 10) : dcB n = [48 + (n : Int)] := by
  unfold dcB
  rw [Lib.decDigits, dif_pos h]
  simp [UInt8.toNat_ofNat]
  omega
theorem dcB_great {n : Nat} (h : ¬ n < 10) : dcB n = dcB (n / 10) ++ [48 + ((n % 10 : Nat) : Int)] := by
  unfold dcB
  rw [Lib.decDigits, dif_neg h, List.map_append]
  congr 1
  simp [UInt8.toNat_ofNat]
  omega
theorem dcB_ne (n : Nat) : dcB n ≠ [] := by
  by_cases h : n < 10
  · rw [dcB_small h]; simp
  · rw [dcB_great h]; simp
theorem dcB_len : ∀ (m n : Nat), n < 10 ^ (m + 1) → (dcB n).length ≤ m + 1 := by
  intro m
  induction m with
  | zero => intro n h; rw [dcB_small (by omega)]; simp
  | succ m ih =>
    intro n h
    by_cases h10 : n < 10
    · rw [dcB_small h10]; simp
    · rw [dcB_great h10, List.length_append, List.length_singleton]
      have := ih (n / 10) (by rw [Nat.div_lt_iff_lt_mul (by decide)]; rw [Nat.pow_succ] at h; omega)
      omega
/-- The first digit of what is above 0 is no nought. -/
theorem dcB_head (n : Nat) (h : 1 ≤ n) : ∃ z r, dcB n = z :: r ∧ z ≠ 48 := by
  induction n using Nat.strongRecOn with
  | _ n ih =>
    by_cases h10 : n < 10
    · exact ⟨_, _, dcB_small h10, by omega⟩
    · obtain ⟨z, r, e, hz⟩ := ih (n / 10) (by omega) (by omega)
      rw [dcB_great h10, e]
      exact ⟨z, r ++ [48 + ((n % 10 : Nat) : Int)], rfl, hz⟩

def digZ (z : Int) : Bool := decide (48 ≤ z) && decide (z ≤ 57)
/-- The number that digits tell, from what those ahead told. -/
def intR : List Int → Int → Option Int
  | [], n => some n
  | z :: r, n => if digZ z = true then intR r (n * 10 + (z - 48)) else none
theorem intR_snoc : ∀ (xs : List Int) (z n : Int), intR (xs ++ [z]) n = (intR xs n).bind fun k => if digZ z = true then some (k * 10 + (z - 48)) else none
  | [], z, n => by simp [intR]
  | x :: r, z, n => by
    simp only [List.cons_append, intR]
    split
    · exact intR_snoc r z _
    · rfl
theorem intR_dc (n : Nat) : intR (dcB n) 0 = some (n : Int) := by
  induction n using Nat.strongRecOn with
  | _ n ih =>
    by_cases h10 : n < 10
    · rw [dcB_small h10]
      have : digZ (48 + (n : Int)) = true := by simp [digZ]; omega
      simp only [intR, this, if_true]
      congr 1; omega
    · rw [dcB_great h10, intR_snoc, ih (n / 10) (by omega)]
      have : digZ (48 + ((n % 10 : Nat) : Int)) = true := by simp only [digZ, Bool.and_eq_true, decide_eq_true_eq]; omega
      simp only [Option.bind_some, this, if_true]
      congr 1; omega
/-- Digits without needless noughts are the decimal of the number that they tell. -/
theorem intR_un : ∀ (k : Nat) (ds : List Int) (m : Int), ds.length = k → ds ≠ [] → (∀ z r, ds = z :: r → z = 48 → r = []) → intR ds 0 = some m → 0 ≤ m ∧ ds = dcB m.toNat
  | 0, ds, m, hl, hn, _, _ => absurd (List.eq_nil_of_length_eq_zero hl) hn
  | k + 1, ds, m, hl, hn, hz, h => by
    obtain ⟨xs, z, rfl⟩ : ∃ xs z, ds = xs ++ [z] := ⟨ds.dropLast, ds.getLast hn, (List.dropLast_concat_getLast hn).symm⟩
    rw [intR_snoc] at h
    have hxl : xs.length = k := by simp at hl; exact hl
    by_cases hx : xs = []
    · subst hx
      simp only [intR, Option.bind_some] at h
      split at h
      · rename_i hd
        simp only [digZ, Bool.and_eq_true, decide_eq_true_eq] at hd
        have e := Option.some.inj h
        obtain ⟨d, hd2⟩ : ∃ d : Nat, z - 48 = d := ⟨(z - 48).toNat, by omega⟩
        have e2 : m = d := by omega
        subst e2
        refine ⟨by omega, ?_⟩
        rw [Int.toNat_natCast, dcB_small (by omega)]
        simp; omega
      · cases h
    · cases hk : intR xs 0 with
      | none => rw [hk] at h; cases h
      | some q =>
        rw [hk] at h
        simp only [Option.bind_some] at h
        split at h
        · rename_i hd
          simp only [digZ, Bool.and_eq_true, decide_eq_true_eq] at hd
          have e := Option.some.inj h
          have hz' : ∀ y r, xs = y :: r → y = 48 → r = [] := fun y r e1 e2 => by
            have := hz y (r ++ [z]) (by rw [e1]; rfl) e2
            simp at this
          obtain ⟨q0, eq⟩ := intR_un k xs q hxl hx hz' hk
          have q1 : 1 ≤ q := by
            by_cases h9 : 1 ≤ q
            · exact h9
            · have q2 : q = 0 := by omega
              subst q2
              rw [show (0 : Int).toNat = 0 from rfl, dcB_small (by omega)] at eq
              have := hz 48 [z] (by rw [eq]; rfl) rfl
              simp at this
          refine ⟨by omega, ?_⟩
          rw [dcB_great (by omega), show m.toNat / 10 = q.toNat by omega, ← eq]
          congr 1
          simp; omega
        · cases h

/-- A number as it is written: a - ahead below 0. -/
def itoB (n : Int) : List Int := if n < 0 then 45 :: dcB n.natAbs else dcB n.toNat
theorem itoB_eq (n : Int) : (Lib.itoa n).map (fun b => (b.toNat : Int)) = itoB n := by
  unfold Lib.itoa itoB dcB
  split <;> rfl
/-- The number that a piece tells, and whether it is one in the one way. -/
def negZ (zs : List Int) : Bool := decide (zs.head? = some 45)
def dgZ (zs : List Int) : List Int := if negZ zs = true then zs.tail else zs
def wholeZ (zs : List Int) : Option Int :=
  if (dgZ zs).length < 1 ∨ 10 < (dgZ zs).length ∨ ((dgZ zs).head? = some 48 ∧ 1 < zs.length) then none
  else match intR (dgZ zs) 0 with
  | none => none
  | some n => if wholeV (if negZ zs = true then -n else n) = true then some (if negZ zs = true then -n else n) else none
theorem wholeZ_iff (zs : List Int) (n : Int) : wholeZ zs = some n ↔ zs = itoB n ∧ wholeV n = true := by
  constructor
  · intro h
    unfold wholeZ at h
    split at h
    · cases h
    rename_i hc
    have hc1 : ¬ (dgZ zs).length < 1 := fun e => hc (.inl e)
    have hc3 : ¬ ((dgZ zs).head? = some 48 ∧ 1 < zs.length) := fun e => hc (.inr (.inr e))
    split at h
    · cases h
    rename_i m hm
    by_cases hw : wholeV (if negZ zs = true then -m else m) = true
    rotate_left
    · rw [if_neg hw] at h; cases h
    rw [if_pos hw] at h
    have e := Option.some.inj h
    rw [e] at hw
    have hne : dgZ zs ≠ [] := fun e => by rw [e] at hc1; simp at hc1
    cases hg : negZ zs with
    | true =>
      have hd : dgZ zs = zs.tail := by unfold dgZ; rw [hg]; rfl
      rw [hg] at e
      simp only [if_true] at e
      obtain ⟨r, rfl⟩ : ∃ r, zs = 45 :: r := by
        cases zs with
        | nil => simp [negZ] at hg
        | cons z r => simp [negZ] at hg; exact ⟨r, by rw [hg]⟩
      simp only [List.tail_cons] at hd
      rw [hd] at hm hc3 hne
      have hz48 : ∀ z q, r = z :: q → z = 48 → q = [] := fun z q e1 e2 => by
        exfalso; apply hc3; rw [e1, e2]; simp
      obtain ⟨m0, em⟩ := intR_un r.length r m rfl hne hz48 hm
      have m1 : 1 ≤ m := by
        by_cases h9 : 1 ≤ m
        · exact h9
        · have : m = 0 := by omega
          subst this
          rw [show (0 : Int).toNat = 0 from rfl, dcB_small (by omega)] at em
          exfalso; apply hc3; rw [em]; simp
      refine ⟨?_, hw⟩
      unfold itoB
      rw [if_pos (by omega), em, show n.natAbs = m.toNat by omega]
    | false =>
      have hd : dgZ zs = zs := by unfold dgZ; rw [hg]; rfl
      rw [hg] at e
      simp only [Bool.false_eq_true, if_false] at e
      rw [hd] at hm hc3 hne
      have hz48 : ∀ z q, zs = z :: q → z = 48 → q = [] := fun z q e1 e2 => by
        cases q with
        | nil => rfl
        | cons y t => exfalso; apply hc3; rw [e1, e2]; simp
      obtain ⟨m0, em⟩ := intR_un zs.length zs m rfl hne hz48 hm
      refine ⟨?_, hw⟩
      unfold itoB
      rw [if_neg (by omega), ← e]; exact em
  · rintro ⟨rfl, hw⟩
    have hb : -1073741824 ≤ n ∧ n ≤ 1073741823 := by simpa [wholeV] using hw
    by_cases hn : n < 0
    · have e : itoB n = 45 :: dcB n.natAbs := by unfold itoB; rw [if_pos hn]
      have hg : negZ (itoB n) = true := by rw [e]; rfl
      have hd : dgZ (itoB n) = dcB n.natAbs := by unfold dgZ; rw [hg, e]; rfl
      obtain ⟨z, r, hh, hz⟩ := dcB_head n.natAbs (by omega)
      have hl := dcB_len 9 n.natAbs (by omega)
      unfold wholeZ
      rw [hg, hd, if_neg, intR_dc]
      · simp only [if_true]
        rw [show -((n.natAbs : Nat) : Int) = n by omega, if_pos hw]
      · rintro (h | h | h)
        · rw [hh] at h; simp at h
        · omega
        · rw [hh] at h; simp at h; exact hz h.1
    · have e : itoB n = dcB n.toNat := by unfold itoB; rw [if_neg hn]
      have hhd : ∃ z r, dcB n.toNat = z :: r ∧ z ≠ 45 ∧ (z = 48 → r = []) := by
        by_cases h0 : n.toNat < 10
        · exact ⟨_, _, dcB_small h0, by omega, fun _ => rfl⟩
        · obtain ⟨z, r, hh, hz⟩ := dcB_head n.toNat (by omega)
          refine ⟨z, r, hh, ?_, fun h => absurd h hz⟩
          have h1 := intR_dc n.toNat
          rw [hh] at h1
          simp only [intR] at h1
          intro e45
          subst e45
          simp [digZ] at h1
      obtain ⟨z, r, hh, hz, hz2⟩ := hhd
      have hg : negZ (itoB n) = false := by rw [e, hh]; simp [negZ, hz]
      have hd : dgZ (itoB n) = dcB n.toNat := by unfold dgZ; rw [hg, e]; rfl
      have hl := dcB_len 9 n.toNat (by omega)
      unfold wholeZ
      rw [hg, hd, if_neg, intR_dc]
      · simp only [Bool.false_eq_true, if_false]
        rw [show ((n.toNat : Nat) : Int) = n by omega, if_pos hw]
      · rintro (h | h | h)
        · rw [hh] at h; simp at h
        · omega
        · rw [e, hh] at h
          simp at h
          have := hz2 h.1
          rw [this] at h; simp at h
end Go.Proofs.YtaecnhmegdeicaaDoor.By
