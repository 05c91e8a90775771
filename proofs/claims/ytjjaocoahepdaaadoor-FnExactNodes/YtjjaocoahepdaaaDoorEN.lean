/-
  Lists of names: whether one is there, whether all are unlike. No statement is proved here.
-/
import Derived.Test.YtjjaocoahepdaaaDoorEK
import Derived.Test.YtjjaocoahepdaaaDoorGW0Also
namespace Go.Proofs.YtjjaocoahepdaaaDoor.By
open Go.RowKit
set_option linter.unusedVariables false
set_option linter.unusedSimpArgs false

def amV (z : List Int) (xs : List (List Int)) : Bool := xs.any fun x => decide (x = z)

set_option maxHeartbeats 2000000 in
theorem amongT (xs : List (List Int)) (a : Option Addr) (l c : Nat) (z : List Int) (a' : Option Addr) (n' c' : Nat) (w : World) (h : SlSS w a l xs) (hz : RdB w a' n' z) :
    Calls Tryd.prog 72 #[.slice a l c, .slice a' n' c'] w fun e u => e = .returned (.bool (amV z xs)) ∧ w.grownBy u none := by
  have hl := h.2.1
  have hfl := h.1
  rcases h.cases with ⟨rfl, rfl⟩ | ⟨b, o, rfl, hin, hpos⟩
  · go_enter Tryd.func72, Tryd.ntmps72
    go_wp2
    refine wp_loop_rounds 1 ?_
    rw [rounds_succ]
    go_wp2
    go_ret
    exact ⟨rfl, World.grownBy.refl _ _⟩
  have IN : Hid (InSS w w xs b o ∧ RdB w a' n' z) := ⟨hin, hz⟩
  clear hin h hz
  go_enter Tryd.func72, Tryd.ntmps72
  go_wp2
  go_loopw [9] (fun i wr => ∃ (j : Nat) (R : List (List Int)), j ≤ l ∧ i = .int .i64 j ∧ R.length + j = l ∧ Hid (w.grownBy wr none ∧ InSS wr wr R b (o + j) ∧ amV z xs = amV z R)) (fun i _ => l - (intOf i).toNat)
  case atStart => exact ⟨0, xs, Nat.zero_le _, rfl, by omega, World.grownBy.refl _ _, by simpa using IN.out.1, rfl⟩
  case round =>
    obtain ⟨j, R, hj, rfl, hRl, HR⟩ := hrel
    by_cases hlt : j < l
    · obtain ⟨x, R', rfl⟩ : ∃ x R', R = x :: R' := by
        cases R with
        | nil => simp at hRl; omega
        | cons x R' => exact ⟨x, R', rfl⟩
      obtain ⟨hg, ⟨⟨a1, n1, c1, k0, hd⟩, hR2⟩, hv⟩ := HR.out
      rw [show o + j + 1 = o + (j + 1) by omega] at hR2
      have CC : Hid _ := bytesEqT a1 a' n1 c1 n' c' x z wr hd (IN.out.2.none hg)
      have FX : Hid (w.grownBy wr none ∧ InSS wr wr R' b (o + (j + 1)) ∧ amV z xs = (decide (x = z) || amV z R')) := ⟨hg, hR2, by rw [hv]; rfl⟩
      clear hd hR2 hg hv HR
      simp only [List.length_cons] at hRl
      go_wp2_with fail
      refine Calls.mono CC.out ?_
      rintro e u ⟨he, hgu⟩
      subst he
      have FY : Hid (w.grownBy u none ∧ InSS u u R' b (o + (j + 1))) := ⟨grown_trans FX.out.1 hgu, FX.out.2.1.le (CLe.grown hgu) (CLe.grown hgu)⟩
      clear CC hgu k0
      simp only []
      by_cases hxz : x = z
      · have E : Hid (amV z xs = true) := by show _ = _; rw [FX.out.2.2]; simp [hxz]
        have hd2 : decide (x = z) = true := by simp [hxz]
        rw [hd2]
        clear hxz hd2 FX
        go_wp2
        go_ret
        exact ⟨by rw [E.out]; rfl, FY.out.1⟩
      · have E : Hid (amV z xs = amV z R') := by show _ = _; rw [FX.out.2.2]; simp [hxz]
        have hd2 : decide (x = z) = false := by simp [hxz]
        rw [hd2]
        clear hxz hd2 FX
        go_wp2
        go_roundw
        case rel => exact ⟨j + 1, R', by omega, by go_num, by omega, FY.out.1, FY.out.2, E.out⟩
        case measure => simp [intOf]; omega
    · obtain rfl : j = l := by omega
      obtain rfl : R = [] := List.eq_nil_of_length_eq_zero (by omega)
      have E : Hid (amV z xs = false ∧ w.grownBy wr none) := ⟨HR.out.2.2, HR.out.1⟩
      clear HR
      go_wp2
      go_ret
      exact ⟨by rw [E.out.1]; rfl, E.out.2⟩

/-- None of R is among P or those ahead of it in R. -/
def unV : List (List Int) → List (List Int) → Bool
  | _, [] => true
  | P, x :: r => !amV x P && unV (P ++ [x]) r

set_option maxHeartbeats 2000000 in
theorem allUnT (xs : List (List Int)) (a : Option Addr) (l c : Nat) (w : World) (h : SlSS w a l xs) (hlc : l ≤ c) :
    Calls Tryd.prog 68 #[.slice a l c] w fun e u => e = .returned (.bool (unV [] xs)) ∧ w.grownBy u none := by
  have hl := h.2.1
  have hfl := h.1
  rcases h.cases with ⟨rfl, rfl⟩ | ⟨b, o, rfl, hin, hpos⟩
  · go_enter Tryd.func68, Tryd.ntmps68
    go_wp2
    refine wp_loop_rounds 1 ?_
    rw [rounds_succ]
    go_wp2
    go_ret
    exact ⟨rfl, World.grownBy.refl _ _⟩
  have IN : Hid (InSS w w xs b o) := hin
  clear hin h
  go_enter Tryd.func68, Tryd.ntmps68
  go_wp2
  go_loopw [7] (fun i wr => ∃ (j : Nat) (P R : List (List Int)), j ≤ l ∧ i = .int .i64 j ∧ P.length = j ∧ R.length + j = l ∧ Hid (w.grownBy wr none ∧ InSS wr wr (P ++ R) b o ∧ unV [] xs = unV P R)) (fun i _ => l - (intOf i).toNat)
  case atStart => exact ⟨0, [], xs, Nat.zero_le _, rfl, rfl, by omega, World.grownBy.refl _ _, by simpa using IN.out, rfl⟩
  case round =>
    obtain ⟨j, P, R, hj, rfl, hPl, hRl, HR⟩ := hrel
    by_cases hlt : j < l
    · obtain ⟨x, R', rfl⟩ : ∃ x R', R = x :: R' := by
        cases R with
        | nil => simp at hRl; omega
        | cons x R' => exact ⟨x, R', rfl⟩
      obtain ⟨hg, hin, hv⟩ := HR.out
      obtain ⟨⟨a1, n1, c1, k0, hd⟩, -⟩ := hin.snd
      rw [hPl] at k0
      have CC : Hid _ := amongT P (some ⟨b, o, none⟩) j c x a1 n1 c1 wr ⟨hPl, by omega, .inr ⟨b, o, rfl, hin.fst⟩⟩ hd
      have FX : Hid (w.grownBy wr none ∧ InSS wr wr ((P ++ [x]) ++ R') b o ∧ unV [] xs = (!amV x P && unV (P ++ [x]) R')) := ⟨hg, by rw [List.append_assoc]; exact hin, by rw [hv]; rfl⟩
      clear hd hin hg hv HR
      simp only [List.length_cons] at hRl
      go_wp2_with fail
      refine Calls.mono CC.out ?_
      rintro e u ⟨he, hgu⟩
      subst he
      have FY : Hid (w.grownBy u none ∧ InSS u u ((P ++ [x]) ++ R') b o) := ⟨grown_trans FX.out.1 hgu, FX.out.2.1.le (CLe.grown hgu) (CLe.grown hgu)⟩
      clear CC hgu k0
      simp only []
      cases hq : amV x P with
      | true =>
        have E : Hid (unV [] xs = false) := by show _ = _; rw [FX.out.2.2, hq]; rfl
        clear hq FX
        go_wp2
        go_ret
        exact ⟨by rw [E.out]; rfl, FY.out.1⟩
      | false =>
        have E : Hid (unV [] xs = unV (P ++ [x]) R') := by show _ = _; rw [FX.out.2.2, hq]; rfl
        clear hq FX
        go_wp2
        go_roundw
        case rel => exact ⟨j + 1, P ++ [x], R', by omega, by go_num, by simp [hPl], by omega, FY.out.1, FY.out.2, E.out⟩
        case measure => simp [intOf]; omega
    · obtain rfl : j = l := by omega
      obtain rfl : R = [] := List.eq_nil_of_length_eq_zero (by omega)
      have E : Hid (unV [] xs = true ∧ w.grownBy wr none) := ⟨HR.out.2.2, HR.out.1⟩
      clear HR
      go_wp2
      go_ret
      exact ⟨by rw [E.out.1]; rfl, E.out.2⟩
end Go.Proofs.YtjjaocoahepdaaaDoor.By
