/-
  The program's DatasOk by its contract. No statement is proved here.
-/
import Derived.Test.YtgjoklakomihaaaEL
import Derived.Test.YtgjoklakomihaaaEQ
namespace Go.Proofs.Ytgjoklakomihaaa.By
open Go.RowKit
set_option linter.unusedVariables false
set_option linter.unusedSimpArgs false

theorem InDa.fst {w wp : World} {P Q : List Da} {b off : Nat} (h : InDa w wp (P ++ Q) b off) : InDa w wp P b off := by
  induction P generalizing off with
  | nil => trivial
  | cons x r ih => exact ⟨h.1, ih h.2⟩
/-- Each is as the last of those up to it must be. -/
def preV : List Da → List Da → Bool
  | _, [] => true
  | P, x :: r => lastV (P ++ [x]) x && preV (P ++ [x]) r
def implV (ds : List Da) : Bool := decide (ds.length ≤ 6) && (preV [] ds && (unV [] (ds.map Da.name) && unV [] (conNs ds)))

set_option maxRecDepth 8000 in
set_option maxHeartbeats 4000000 in
theorem implDatasT (ds : List Da) (a : Option Addr) (l c : Nat) (w : World) (h : SlDa w a l ds) (hlc : l ≤ c) (hs : szDas ds ≤ 1048576) :
    Calls Try.prog 7 #[.slice a l c] w fun e u => e = .returned (.bool (implV ds)) ∧ w.grownBy u none := by
  have hl := h.2.1
  have hfl := h.1
  by_cases h6 : l ≤ 6
  rotate_left
  · have EV : Hid (implV ds = false) := by show _ = _; unfold implV; rw [hfl]; simp [h6]
    have h6' : (l : Int) > 6 := by omega
    go_enter Try.func7, Try.ntmps7
    go_wp2
    go_ret
    exact ⟨by rw [EV.out]; rfl, World.grownBy.refl _ _⟩
  have h6' : ¬ (l : Int) > 6 := by omega
  have h6b : decide ((l : Int) > 6) = false := by simpa using h6'
  have EV : Hid (implV ds = (preV [] ds && (unV [] (ds.map Da.name) && unV [] (conNs ds)))) := by show _ = _; unfold implV; rw [hfl]; simp [h6]
  have HD : Hid (∀ u, w.grownBy u none → SlDa u a l ds) := fun u hu => h.none hu
  have CN : Hid (∀ u, w.grownBy u none → Calls Try.prog 19 #[.slice a l c] u fun e u' => ∃ a' c', e = .returned (.slice a' l c') ∧ u.grownBy u' none ∧ SlSS u' a' l (ds.map Da.name) ∧ l ≤ c') := fun u hu => dataNamesT ds a l c u (h.none hu) (by omega)
  have CC : Hid (∀ u, w.grownBy u none → Calls Try.prog 20 #[.slice a l c] u fun e u' => ∃ a' c', e = .returned (.slice a' (conNs ds).length c') ∧ u.grownBy u' none ∧ SlSS u' a' (conNs ds).length (conNs ds) ∧ (conNs ds).length ≤ c') := fun u hu => conNamesT ds a l c u (h.none hu) hs
  clear h
  go_enter Try.func7, Try.ntmps7
  go_wp2
  go_loopw [9] (fun i wr => ∃ (j : Nat) (P R : List Da), j ≤ l ∧ i = .int .i64 j ∧ P.length = j ∧ R.length + j = l ∧ Hid (w.grownBy wr none ∧ P ++ R = ds ∧ preV [] ds = preV P R)) (fun i _ => l - (intOf i).toNat)
  case atStart => exact ⟨0, [], ds, Nat.zero_le _, rfl, rfl, by omega, World.grownBy.refl _ _, rfl, rfl⟩
  case round =>
    obtain ⟨j, P, R, hj, rfl, hPl, hRl, HR⟩ := hrel
    by_cases hlt : j < l
    · obtain ⟨x, R', rfl⟩ : ∃ x R', R = x :: R' := by
        cases R with
        | nil => simp at hRl; omega
        | cons x R' => exact ⟨x, R', rfl⟩
      obtain ⟨hg, hcs, hv⟩ := HR.out
      have hcs2 : (P ++ [x]) ++ R' = ds := by rw [List.append_assoc]; exact hcs
      have hD := HD.out wr hg
      obtain ⟨b, o, rfl, hin, -⟩ : ∃ b o, a = some ⟨b, o, none⟩ ∧ InDa wr wr ds b o ∧ 0 < l := by
        rcases hD.cases with ⟨z1, z2⟩ | hh
        · omega
        · exact hh
      rw [← hcs2] at hin
      have CL : Hid _ := lastT P x (some ⟨b, o, none⟩) (j + 1) c wr ⟨by simp [hPl], by omega, .inr ⟨b, o, rfl, hin.fst⟩⟩
      have FX : Hid (w.grownBy wr none ∧ (P ++ [x]) ++ R' = ds ∧ preV [] ds = (lastV (P ++ [x]) x && preV (P ++ [x]) R')) := ⟨hg, hcs2, by rw [hv]; rfl⟩
      have hjc : (j : Int) + 1 ≤ (c : Int) := by omega
      have ew : IntKind.i64.wrap ((j : Int) + 1) = (j : Int) + 1 := IntWalk.i64_in _ (by omega)
      clear hg hcs hv hcs2 hD hin HR
      simp only [List.length_cons] at hRl
      go_wp2_with fail
      refine Calls.mono CL.out ?_
      rintro e u ⟨he, hgu⟩
      subst he
      have G2 : Hid (w.grownBy u none) := grown_trans FX.out.1 hgu
      clear CL hgu
      simp only []
      cases hq : lastV (P ++ [x]) x with
      | false =>
        have E2 : Hid (implV ds = false) := by show _ = _; rw [EV.out, FX.out.2.2, hq]; rfl
        clear hq
        go_wp2
        go_ret
        exact ⟨by rw [E2.out]; rfl, G2.out⟩
      | true =>
        have E2 : Hid (preV [] ds = preV (P ++ [x]) R') := by show _ = _; rw [FX.out.2.2, hq]; rfl
        clear hq ew
        go_wp2
        go_roundw
        case rel => exact ⟨j + 1, P ++ [x], R', by omega, by go_num, by simp [hPl], by omega, G2.out, FX.out.2.1, E2.out⟩
        case measure => simp [intOf]; omega
    · obtain rfl : j = l := by omega
      obtain rfl : R = [] := List.eq_nil_of_length_eq_zero (by omega)
      have E1 : Hid (implV ds = (unV [] (ds.map Da.name) && unV [] (conNs ds)) ∧ w.grownBy wr none) := ⟨by rw [EV.out, HR.out.2.2]; rfl, HR.out.1⟩
      clear HR
      go_wp2_with fail
      refine Calls.mono (CN.out wr E1.out.2) ?_
      rintro e u1 ⟨a1, c1, he, hg1, hS1, hc1⟩
      subst he
      have CU : Hid _ := allUnT (ds.map Da.name) a1 j c1 u1 hS1 hc1
      have G1 : Hid (w.grownBy u1 none) := grown_trans E1.out.2 hg1
      clear hg1 hS1 hc1 CN
      simp only []
      go_wp2_with fail
      refine Calls.mono CU.out ?_
      rintro e u2 ⟨he, hg2⟩
      subst he
      have G2 : Hid (w.grownBy u2 none) := grown_trans G1.out hg2
      clear hg2 CU
      simp only []
      cases hq : unV [] (ds.map Da.name) with
      | false =>
        have E2 : Hid (implV ds = false) := by show _ = _; rw [E1.out.1, hq]; rfl
        clear hq
        go_wp2
        go_ret
        exact ⟨by rw [E2.out]; rfl, G2.out⟩
      | true =>
        have E2 : Hid (implV ds = unV [] (conNs ds)) := by show _ = _; rw [E1.out.1, hq]; rfl
        clear hq
        go_wp2_with fail
        refine Calls.mono (CC.out u2 G2.out) ?_
        rintro e u3 ⟨a3, c3, he, hg3, hS3, hc3⟩
        subst he
        have CU : Hid _ := allUnT (conNs ds) a3 (conNs ds).length c3 u3 hS3 hc3
        have G3 : Hid (w.grownBy u3 none) := grown_trans G2.out hg3
        clear hg3 hS3 hc3 CC
        simp only []
        go_wp2_with fail
        refine Calls.mono CU.out ?_
        rintro e u4 ⟨he, hg4⟩
        subst he
        have G4 : Hid (w.grownBy u4 none) := grown_trans G3.out hg4
        clear hg4 CU
        simp only []
        go_wp2
        go_ret
        exact ⟨by rw [E2.out]; rfl, G4.out⟩
end Go.Proofs.Ytgjoklakomihaaa.By
