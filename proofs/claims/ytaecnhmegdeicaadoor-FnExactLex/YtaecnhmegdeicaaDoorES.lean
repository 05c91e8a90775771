/-
  Words and names: the specification's side by its contracts. No statement is proved here.
-/
import Derived.Test.YtaecnhmegdeicaaDoorEK
namespace Go.Proofs.YtaecnhmegdeicaaDoor.By
open Go.RowKit
set_option linter.unusedVariables false
set_option linter.unusedSimpArgs false


set_option maxHeartbeats 400000 in
theorem lowerT (z : Int) (w : World) : Calls Tryd.prog 23 #[.int .u8 z] w fun e u => e = .returned (.bool (decide (97 ≤ z) && decide (z ≤ 122))) ∧ u = w := by
  by_cases h1 : 97 ≤ z
  · by_cases h2 : z ≤ 122
    · go_enter Tryd.func23, Tryd.ntmps23
      go_wp2
      go_ret
      exact ⟨by simp [h1, h2], rfl⟩
    · go_enter Tryd.func23, Tryd.ntmps23
      go_wp2
      go_ret
      exact ⟨by simp [h1, h2], rfl⟩
  · go_enter Tryd.func23, Tryd.ntmps23
    go_wp2
    go_ret
    exact ⟨by simp; omega, rfl⟩

set_option maxHeartbeats 400000 in
theorem upperT (z : Int) (w : World) : Calls Tryd.prog 22 #[.int .u8 z] w fun e u => e = .returned (.bool (decide (65 ≤ z) && decide (z ≤ 90))) ∧ u = w := by
  by_cases h1 : 65 ≤ z
  · by_cases h2 : z ≤ 90
    · go_enter Tryd.func22, Tryd.ntmps22
      go_wp2
      go_ret
      exact ⟨by simp [h1, h2], rfl⟩
    · go_enter Tryd.func22, Tryd.ntmps22
      go_wp2
      go_ret
      exact ⟨by simp [h1, h2], rfl⟩
  · go_enter Tryd.func22, Tryd.ntmps22
    go_wp2
    go_ret
    exact ⟨by simp; omega, rfl⟩

set_option maxHeartbeats 400000 in
theorem digitT (z : Int) (w : World) : Calls Tryd.prog 20 #[.int .u8 z] w fun e u => e = .returned (.bool (decide (48 ≤ z) && decide (z ≤ 57))) ∧ u = w := by
  by_cases h1 : 48 ≤ z
  · by_cases h2 : z ≤ 57
    · go_enter Tryd.func20, Tryd.ntmps20
      go_wp2
      go_ret
      exact ⟨by simp [h1, h2], rfl⟩
    · go_enter Tryd.func20, Tryd.ntmps20
      go_wp2
      go_ret
      exact ⟨by simp [h1, h2], rfl⟩
  · go_enter Tryd.func20, Tryd.ntmps20
    go_wp2
    go_ret
    exact ⟨by simp; omega, rfl⟩

theorem lod_split (z : Int) : lodB z = ((decide (97 ≤ z) && decide (z ≤ 122)) || (decide (48 ≤ z) && decide (z ≤ 57))) := rfl
/-- The first byte's bounds. -/
def loG (g : Bool) : Int := if g then 65 else 97
def hiG (g : Bool) : Int := if g then 90 else 122




set_option maxHeartbeats 2000000 in
theorem l5wordT (a : Option Addr) (n c : Nat) (zs : List Int) (g : Bool) (w : World) (h : RdB w a n zs) :
    Calls Tryd.prog 14 #[.slice a n c, .bool g] w fun e u => e = .returned (.bool (wordV (loG g) (hiG g) zs)) ∧ w.grownBy u none := by
  have hl := h.1.1
  have hz := h.2.1
  have hrd := h.1.2
  clear h
  by_cases hn : 1 ≤ n ∧ n ≤ 8
  rotate_left
  · have E : Hid (wordV (loG g) (hiG g) zs = false) := by
      show _ = _
      unfold wordV
      rw [hl]
      by_cases h1 : 1 ≤ n
      · have : ¬ n ≤ 8 := fun h2 => hn ⟨h1, h2⟩
        simp [this]
      · simp [h1]
    by_cases h0 : n = 0
    · subst h0
      go_enter Tryd.func14, Tryd.ntmps14
      go_wp2
      go_ret
      exact ⟨by rw [E.out]; rfl, World.grownBy.refl _ _⟩
    · have h8 : (n : Int) > 8 := by omega
      have h00 : ¬ (n : Int) < 1 := by omega
      go_enter Tryd.func14, Tryd.ntmps14
      go_wp2
      go_ret
      exact ⟨by rw [E.out]; rfl, World.grownBy.refl _ _⟩
  obtain ⟨hn1, hn8⟩ := hn
  rcases hrd with h0 | ⟨b, o, rfl, hc⟩
  · omega
  have E : Hid (wordV (loG g) (hiG g) zs = wordR (loG g) (hiG g) 0 zs) := by show _ = _; unfold wordV; simp [hl, hn1, hn8]
  have HC : Hid (∀ i, i < n → w.cell? ⟨b, o + i, none⟩ = some (.int .u8 (zs.getD i 0))) := hc
  have h00 : ¬ (n : Int) < 1 := by omega
  have h8 : ¬ (n : Int) > 8 := by omega
  clear hc hz
  have CL : Hid _ := lowerT
  have CU : Hid _ := upperT
  have CD : Hid _ := digitT
  go_enter Tryd.func14, Tryd.ntmps14
  go_wp2
  go_loopw [5] (fun i wr => ∃ (j : Nat) (R : List Int), j ≤ n ∧ i = .int .i64 j ∧ R.length + j = n ∧ wr = w ∧ Hid (zs.drop j = R ∧ wordR (loG g) (hiG g) 0 zs = wordR (loG g) (hiG g) j R)) (fun i _ => n - (intOf i).toNat)
  case atStart => exact ⟨0, zs, Nat.zero_le _, rfl, by omega, rfl, rfl, rfl⟩
  case round =>
    obtain ⟨j, R, hj, rfl, hRl, rfl, HR⟩ := hrel
    by_cases hlt : j < n
    · obtain ⟨z, R', rfl⟩ : ∃ z R', R = z :: R' := by
        cases R with
        | nil => simp at hRl; omega
        | cons z R' => exact ⟨z, R', rfl⟩
      have hjz : zs.getD j 0 = z := by
        have h1 := HR.out.1
        rw [List.getD_eq_getElem?_getD, ← By.List.getElem?_drop_zero_of zs j, h1]; rfl
      have c0 := HC.out j hlt
      rw [hjz] at c0
      have HW : Hid (zs.drop (j + 1) = R' ∧ wordR (loG g) (hiG g) 0 zs = ((if j = 0 then decide (loG g ≤ z) && decide (z ≤ hiG g) else lodB z) && wordR (loG g) (hiG g) (j + 1) R')) := ⟨by have := congrArg List.tail HR.out.1; simpa using this, by rw [HR.out.2, wordR_step]⟩
      simp only [List.length_cons] at hRl
      clear HR hjz
      have hlt' : (j : Int) < (n : Int) := by omega
      by_cases hj0 : j = 0
      · subst hj0
        rw [Nat.add_zero] at c0
        have HW2 := HW.out.2
        rw [if_pos rfl] at HW2
        cases g with
        | true =>
          have hb : (decide (loG true ≤ z) && decide (z ≤ hiG true)) = (decide (65 ≤ z) && decide (z ≤ 90)) := rfl
          rw [hb] at HW2
          have HW3 : Hid _ := HW2
          clear HW2 hb
          go_wp2_with fail
          refine Calls.mono (CU.out z _) ?_
          rintro e v ⟨he, hv⟩
          subst he hv
          simp only []
          cases hq : (decide (65 ≤ z) && decide (z ≤ 90)) with
          | true =>
            have HV : Hid (wordR (loG true) (hiG true) 0 zs = wordR (loG true) (hiG true) (0 + 1) R') := by show _ = _; rw [HW3.out, hq]; rfl
            clear HW3 hq
            go_wp2
            go_roundw
            case rel => exact ⟨0 + 1, R', by omega, by go_num, by omega, by first | rfl | trivial, HW.out.1, HV.out⟩
            case measure => simp [intOf]; omega
          | false =>
            have HV : Hid (wordR (loG true) (hiG true) 0 zs = false) := by show _ = _; rw [HW3.out, hq]; rfl
            clear HW3 hq
            go_wp2
            go_ret
            exact ⟨by rw [E.out, HV.out]; rfl, World.grownBy.refl _ _⟩
        | false =>
          have hb : (decide (loG false ≤ z) && decide (z ≤ hiG false)) = (decide (97 ≤ z) && decide (z ≤ 122)) := rfl
          rw [hb] at HW2
          have HW3 : Hid _ := HW2
          clear HW2 hb
          go_wp2_with fail
          refine Calls.mono (CL.out z _) ?_
          rintro e v ⟨he, hv⟩
          subst he hv
          simp only []
          cases hq : (decide (97 ≤ z) && decide (z ≤ 122)) with
          | true =>
            have HV : Hid (wordR (loG false) (hiG false) 0 zs = wordR (loG false) (hiG false) (0 + 1) R') := by show _ = _; rw [HW3.out, hq]; rfl
            clear HW3 hq
            go_wp2
            go_roundw
            case rel => exact ⟨0 + 1, R', by omega, by go_num, by omega, by first | rfl | trivial, HW.out.1, HV.out⟩
            case measure => simp [intOf]; omega
          | false =>
            have HV : Hid (wordR (loG false) (hiG false) 0 zs = false) := by show _ = _; rw [HW3.out, hq]; rfl
            clear HW3 hq
            go_wp2
            go_ret
            exact ⟨by rw [E.out, HV.out]; rfl, World.grownBy.refl _ _⟩
      · have hj1 : ¬ (j : Int) = 0 := by omega
        have hj2 : (j : Int) > 0 := by omega
        have hj3 : ((j : Int) == 0) = false := by simp; omega
        have HW2 := HW.out.2
        rw [if_neg hj0, lod_split] at HW2
        have HW3 : Hid _ := HW2
        clear HW2
        go_wp2_with fail
        refine Calls.mono (CL.out z _) ?_
        rintro e v ⟨he, hv⟩
        subst he hv
        simp only []
        cases hq : (decide (97 ≤ z) && decide (z ≤ 122)) with
        | true =>
          have HV : Hid (wordR (loG g) (hiG g) 0 zs = wordR (loG g) (hiG g) (j + 1) R') := by show _ = _; rw [HW3.out, hq]; rfl
          clear HW3 hq
          go_wp2
          go_roundw
          case rel => exact ⟨j + 1, R', by omega, by go_num, by omega, by first | rfl | trivial, HW.out.1, HV.out⟩
          case measure => simp [intOf]; omega
        | false =>
          rw [hq] at HW3
          clear hq
          go_wp2_with fail
          refine Calls.mono (CD.out z _) ?_
          rintro e v ⟨he, hv⟩
          subst he hv
          simp only []
          cases hq : (decide (48 ≤ z) && decide (z ≤ 57)) with
          | true =>
            have HV : Hid (wordR (loG g) (hiG g) 0 zs = wordR (loG g) (hiG g) (j + 1) R') := by show _ = _; rw [HW3.out, hq]; rfl
            clear HW3 hq
            go_wp2
            go_roundw
            case rel => exact ⟨j + 1, R', by omega, by go_num, by omega, by first | rfl | trivial, HW.out.1, HV.out⟩
            case measure => simp [intOf]; omega
          | false =>
            have HV : Hid (wordR (loG g) (hiG g) 0 zs = false) := by show _ = _; rw [HW3.out, hq]; rfl
            clear HW3 hq
            go_wp2
            go_ret
            exact ⟨by rw [E.out, HV.out]; rfl, World.grownBy.refl _ _⟩
    · obtain rfl : j = n := by omega
      obtain rfl : R = [] := List.eq_nil_of_length_eq_zero (by omega)
      have HV : Hid (wordR (loG g) (hiG g) 0 zs = true) := by show _ = _; rw [HR.out.2, wordR_end]
      clear HR
      go_wp2
      go_ret
      exact ⟨by rw [E.out, HV.out]; rfl, World.grownBy.refl _ _⟩

end Go.Proofs.YtaecnhmegdeicaaDoor.By
