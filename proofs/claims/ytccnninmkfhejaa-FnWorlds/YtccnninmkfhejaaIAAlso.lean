/-
  Several texts in one (NB0, IA). No statement is proved here.
-/
import Derived.Test.YtccnninmkfhejaaEC0Also
import Derived.Test.YtccnninmkfhejaaHMkAlso
namespace Go.Proofs.Ytccnninmkfhejaa.By
open Go.RowKit
set_option linter.unusedVariables false
set_option linter.unusedSimpArgs false

def AtP (b : Bool) (r : Int) : Prop := if b = true then 0 ≤ r else r = -1

/-- What is left of a row of bytes from place j on. -/
def DrB (w : World) (b o : Nat) (R : List Int) : Prop := ∀ i, i < R.length → w.cell? ⟨b, o + i, none⟩ = some (.int .u8 (R.getD i 0))
theorem DrB.le {w u : World} {b o : Nat} {R : List Int} (h : DrB w b o R) (k : CLe w u) : DrB u b o R := fun i hi => k _ _ (h i hi)
theorem DrB.tl {w : World} {b o : Nat} {z : Int} {R : List Int} (h : DrB w b o (z :: R)) : w.cell? ⟨b, o, none⟩ = some (.int .u8 z) ∧ DrB w b (o + 1) R := by
  refine ⟨by simpa using h 0 (by simp), fun i hi => ?_⟩
  have := h (i + 1) (by simp; omega)
  rw [show o + 1 + i = o + (i + 1) by omega]; simpa using this

end Go.Proofs.Ytccnninmkfhejaa.By

namespace Go.Proofs.Ytccnninmkfhejaa.By
open Go.RowKit
set_option linter.unusedVariables false
set_option linter.unusedSimpArgs false

def numV (n : Int) : Bool := decide (0 ≤ n) && decide (n ≤ 2147483647)
def noNum (n : Int) : Bool := !numV n
theorem isNumT (n : Int) (w : World) :
    Calls Try.prog 59 #[.int .i64 n] w fun e u => e = .returned (.bool (numV n)) ∧ u = w := by
  by_cases h1 : 0 ≤ n
  · by_cases h2 : n ≤ 2147483647
    · go_enter Try.func59, Try.ntmps59
      go_wp2
      go_ret
      exact ⟨by simp [numV, h1, h2], rfl⟩
    · go_enter Try.func59, Try.ntmps59
      go_wp2
      go_ret
      exact ⟨by simp [numV, h1, h2], rfl⟩
  · go_enter Try.func59, Try.ntmps59
    go_wp2
    go_ret
    exact ⟨by have e : numV n = false := by (simp [numV]; omega)
              rw [e]; rfl, rfl⟩

theorem isNoNumT (n : Int) (w : World) :
    Calls Try.prog 61 #[.int .i64 n] w fun e u => e = .returned (.bool (noNum n)) ∧ u = w := by
  have CC : Hid _ := isNumT n w
  go_enter Try.func61, Try.ntmps61
  go_wp2_with fail
  refine Calls.mono CC.out ?_
  rintro e u ⟨rfl, rfl⟩
  clear CC
  simp only []
  go_wp2
  go_ret
  exact ⟨rfl, rfl⟩

/-- What is left of a row of numbers from a place on. -/
def DrI (w : World) (b o : Nat) (R : List Int) : Prop := ∀ i, i < R.length → w.cell? ⟨b, o + i, none⟩ = some (.int .i64 (R.getD i 0))
theorem DrI.le {w u : World} {b o : Nat} {R : List Int} (h : DrI w b o R) (k : CLe w u) : DrI u b o R := fun i hi => k _ _ (h i hi)
theorem DrI.tl {w : World} {b o : Nat} {z : Int} {R : List Int} (h : DrI w b o (z :: R)) : w.cell? ⟨b, o, none⟩ = some (.int .i64 z) ∧ DrI w b (o + 1) R := by
  refine ⟨by simpa using h 0 (by simp), fun i hi => ?_⟩
  have := h (i + 1) (by simp; omega)
  rw [show o + 1 + i = o + (i + 1) by omega]; simpa using this

set_option maxRecDepth 4000 in
set_option maxHeartbeats 2000000 in
theorem indexNT (zs : List Int) (a : Option Addr) (l c : Nat) (w : World) (h : RdI w a l zs) :
    Calls Try.prog 76 #[.slice a l c, .func (.func 61) #[] #[]] w fun e u => (∃ r : Int, e = .returned (.int .i64 r) ∧ AtP (zs.any noNum) r) ∧ w.grownBy u none := by
  have hl := h.2
  have hfl := h.1.1
  have hcs : (l = 0 ∧ zs = []) ∨ ∃ b o, a = some ⟨b, o, none⟩ ∧ DrI w b o zs ∧ 0 < l := by
    by_cases h0 : l = 0
    · exact .inl ⟨h0, List.eq_nil_of_length_eq_zero (by omega)⟩
    · rcases h.1.2 with h2 | ⟨b, o, e, h2⟩
      · exact absurd h2 h0
      · exact .inr ⟨b, o, e, fun i hi => h2 i (by omega), by omega⟩
  rcases hcs with ⟨rfl, rfl⟩ | ⟨b, o, rfl, hin, hpos⟩
  · go_enter Try.func76, Try.ntmps76
    go_wp2
    refine wp_loop_rounds 1 ?_
    rw [rounds_succ]
    go_wp2
    go_ret
    exact ⟨⟨-1, rfl, by unfold AtP; exact rfl⟩, World.grownBy.refl _ _⟩
  have IN : Hid (DrI w b o zs) := hin
  clear hin h
  go_enter Try.func76, Try.ntmps76
  go_wp2
  go_loopw [8] (fun i wr => ∃ (j : Nat) (R : List Int), j ≤ l ∧ i = .int .i64 j ∧ R.length + j = l ∧ Hid (w.grownBy wr none ∧ DrI wr b (o + j) R ∧ (zs.any noNum) = R.any noNum)) (fun i _ => l - (intOf i).toNat)
  case atStart => exact ⟨0, zs, Nat.zero_le _, rfl, by omega, World.grownBy.refl _ _, by simpa using IN.out, rfl⟩
  case round =>
    obtain ⟨j, R, hj, rfl, hRl, HR⟩ := hrel
    by_cases hlt : j < l
    · obtain ⟨z, R', rfl⟩ : ∃ x R', R = x :: R' := by
        cases R with
        | nil => simp at hRl; omega
        | cons x R' => exact ⟨x, R', rfl⟩
      obtain ⟨hg, hR, hv⟩ := HR.out
      obtain ⟨k0, hT⟩ := hR.tl
      rw [show o + j + 1 = o + (j + 1) by omega] at hT
      have hd : True := trivial
      simp only [List.any_cons] at hv
      have CC : Hid (Calls Try.prog 61 #[.int .i64 z] wr fun e u => e = .returned (.bool (noNum z)) ∧ wr.grownBy u none) := (isNoNumT z wr).mono fun e u hh => ⟨hh.1, by rw [hh.2]; exact World.grownBy.refl _ _⟩
      have FX : Hid (w.grownBy wr none ∧ DrI wr b (o + (j + 1)) R' ∧ (zs.any noNum) = (noNum z || R'.any noNum)) := ⟨hg, hT, hv⟩
      clear hg hR hv hd hT HR IN
      simp only [List.length_cons] at hRl
      go_wp2_with fail
      refine Calls.mono CC.out ?_
      rintro e u2 ⟨rfl, hgu⟩
      have FY : Hid (w.grownBy u2 none ∧ DrI u2 b (o + (j + 1)) R' ∧ (zs.any noNum) = (noNum z || R'.any noNum)) := ⟨grown_trans FX.out.1 hgu, FX.out.2.1.le (CLe.grown hgu), FX.out.2.2⟩
      clear FX hgu CC k0
      simp only []
      cases hb : noNum z with
      | false =>
        have FZ : Hid (w.grownBy u2 none ∧ DrI u2 b (o + (j + 1)) R' ∧ (zs.any noNum) = R'.any noNum) := ⟨FY.out.1, FY.out.2.1, by rw [FY.out.2.2, hb, Bool.false_or]⟩
        clear FY hb
        go_wp2
        go_roundw
        case rel => exact ⟨j + 1, R', by omega, by go_num, by omega, FZ⟩
        case measure => simp [intOf]; omega
      | true =>
        have FZ : Hid (w.grownBy u2 none ∧ (zs.any noNum) = true) := ⟨FY.out.1, by rw [FY.out.2.2, hb, Bool.true_or]⟩
        clear FY hb
        go_wp2
        go_ret
        exact ⟨⟨(j : Int), rfl, by unfold AtP; rw [if_pos FZ.out.2]; omega⟩, FZ.out.1⟩
    · obtain rfl : j = l := by omega
      obtain rfl : R = [] := List.eq_nil_of_length_eq_zero (by omega)
      have FZ : Hid (w.grownBy wr none ∧ (zs.any noNum) = false) := ⟨HR.out.1, HR.out.2.2⟩
      clear HR
      go_wp2
      go_ret
      exact ⟨⟨-1, rfl, by unfold AtP; rw [if_neg (by rw [FZ.out.2]; simp)]⟩, FZ.out.1⟩

set_option maxHeartbeats 400000 in
theorem containsNT (zs : List Int) (a : Option Addr) (l c : Nat) (w : World) (h : RdI w a l zs) :
    Calls Try.prog 60 #[.slice a l c, .func (.func 61) #[] #[]] w fun e u => e = .returned (.bool (zs.any noNum)) ∧ w.grownBy u none := by
  have CC : Hid _ := indexNT zs a l c w h
  clear h
  go_enter Try.func60, Try.ntmps60
  go_wp2_with fail
  refine Calls.mono CC.out ?_
  rintro e u ⟨⟨r, rfl, hr⟩, hg⟩
  have G : Hid (w.grownBy u none) := hg
  clear hg CC
  unfold AtP at hr
  simp only []
  cases hb : (zs.any noNum) with
  | true =>
    rw [hb, if_pos rfl] at hr
    go_wp2
    go_ret
    refine ⟨?_, G.out⟩
    rw [hb]
    first | rfl | (simp; done) | (simp; omega)
  | false =>
    rw [hb, if_neg (by simp)] at hr
    subst hr
    go_wp2
    go_ret
    refine ⟨?_, G.out⟩
    rw [hb]
    first | rfl | (simp; done)


end Go.Proofs.Ytccnninmkfhejaa.By
