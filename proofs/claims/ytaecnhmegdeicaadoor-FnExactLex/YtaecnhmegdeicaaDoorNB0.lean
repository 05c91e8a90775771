/-
  Whole numbers and literals: the program's own by their contracts. No statement is proved here.
-/
import Derived.Test.YtaecnhmegdeicaaDoorEC0
import Derived.Test.YtaecnhmegdeicaaDoorTHelp
namespace Go.Proofs.YtaecnhmegdeicaaDoor.By
open Go.RowKit
set_option linter.unusedVariables false
set_option linter.unusedSimpArgs false

def wholeV (n : Int) : Bool := decide (-1073741824 ≤ n) && decide (n ≤ 1073741823)
theorem isWholeT (n : Int) (w : World) :
    Calls Tryd.prog 50 #[.int .i64 n] w fun e u => e = .returned (.bool (wholeV n)) ∧ u = w := by
  by_cases h1 : -1073741824 ≤ n
  · by_cases h2 : n ≤ 1073741823
    · go_enter Tryd.func50, Tryd.ntmps50
      go_wp2
      go_ret
      exact ⟨by simp [wholeV, h1, h2], rfl⟩
    · go_enter Tryd.func50, Tryd.ntmps50
      go_wp2
      go_ret
      exact ⟨by simp [wholeV, h1, h2], rfl⟩
  · go_enter Tryd.func50, Tryd.ntmps50
    go_wp2
    go_ret
    exact ⟨by have e : wholeV n = false := by (simp [wholeV]; omega)
              rw [e]; rfl, rfl⟩

def noLit (z : Int) : Bool := decide (z < 32) || decide (126 < z) || decide (z = 34) || decide (z = 92)
def litV (zs : List Int) : Bool := decide (zs.length ≤ 20) && !zs.any noLit
theorem isNoLitT (z : Int) (w : World) :
    Calls Tryd.prog 43 #[.int .u8 z] w fun e u => e = .returned (.bool (noLit z)) ∧ u = w := by
  by_cases h1 : z < 32
  · go_enter Tryd.func43, Tryd.ntmps43
    go_wp2
    go_ret
    exact ⟨by simp [noLit, h1], rfl⟩
  by_cases h2 : 126 < z
  · have h2' : z > 126 := h2
    go_enter Tryd.func43, Tryd.ntmps43
    go_wp2
    go_ret
    exact ⟨by simp [noLit, h2], rfl⟩
  have h2' : ¬ z > 126 := h2
  by_cases h3 : z = 34
  · go_enter Tryd.func43, Tryd.ntmps43
    go_wp2
    go_ret
    exact ⟨by simp [noLit, h3], rfl⟩
  by_cases h4 : z = 92
  · go_enter Tryd.func43, Tryd.ntmps43
    go_wp2
    go_ret
    exact ⟨by simp [noLit, h4], rfl⟩
  go_enter Tryd.func43, Tryd.ntmps43
  go_wp2
  go_ret
  exact ⟨by have e : noLit z = false := by (simp [noLit, h3, h4]; omega)
            simp [e, h3, h4], rfl⟩
/-- Where the first one is; -1: there is none. -/

def AtP (b : Bool) (r : Int) : Prop := if b = true then 0 ≤ r else r = -1

/-- What is left of a row of bytes from place j on. -/
def DrB (w : World) (b o : Nat) (R : List Int) : Prop := ∀ i, i < R.length → w.cell? ⟨b, o + i, none⟩ = some (.int .u8 (R.getD i 0))
theorem DrB.le {w u : World} {b o : Nat} {R : List Int} (h : DrB w b o R) (k : CLe w u) : DrB u b o R := fun i hi => k _ _ (h i hi)
theorem DrB.tl {w : World} {b o : Nat} {z : Int} {R : List Int} (h : DrB w b o (z :: R)) : w.cell? ⟨b, o, none⟩ = some (.int .u8 z) ∧ DrB w b (o + 1) R := by
  refine ⟨by simpa using h 0 (by simp), fun i hi => ?_⟩
  have := h (i + 1) (by simp; omega)
  rw [show o + 1 + i = o + (i + 1) by omega]; simpa using this

set_option maxRecDepth 4000 in
set_option maxHeartbeats 2000000 in
theorem indexBT (zs : List Int) (a : Option Addr) (l c : Nat) (w : World) (h : RdB w a l zs) :
    Calls Tryd.prog 53 #[.slice a l c, .func (.func 43) #[] #[]] w fun e u => (∃ r : Int, e = .returned (.int .i64 r) ∧ AtP (zs.any noLit) r) ∧ w.grownBy u none := by
  have hl := h.2.2
  have hfl := h.1.1
  have hcs : (l = 0 ∧ zs = []) ∨ ∃ b o, a = some ⟨b, o, none⟩ ∧ DrB w b o zs ∧ 0 < l := by
    by_cases h0 : l = 0
    · exact .inl ⟨h0, List.eq_nil_of_length_eq_zero (by omega)⟩
    · rcases h.1.2 with h2 | ⟨b, o, e, h2⟩
      · exact absurd h2 h0
      · exact .inr ⟨b, o, e, fun i hi => h2 i (by omega), by omega⟩
  rcases hcs with ⟨rfl, rfl⟩ | ⟨b, o, rfl, hin, hpos⟩
  · go_enter Tryd.func53, Tryd.ntmps53
    go_wp2
    refine wp_loop_rounds 1 ?_
    rw [rounds_succ]
    go_wp2
    go_ret
    exact ⟨⟨-1, rfl, by unfold AtP; exact rfl⟩, World.grownBy.refl _ _⟩
  have IN : Hid (DrB w b o zs) := hin
  clear hin h
  go_enter Tryd.func53, Tryd.ntmps53
  go_wp2
  go_loopw [8] (fun i wr => ∃ (j : Nat) (R : List Int), j ≤ l ∧ i = .int .i64 j ∧ R.length + j = l ∧ Hid (w.grownBy wr none ∧ DrB wr b (o + j) R ∧ (zs.any noLit) = R.any noLit)) (fun i _ => l - (intOf i).toNat)
  case atStart => exact ⟨0, zs, Nat.zero_le _, rfl, by omega, World.grownBy.refl _ _, by simpa using IN.out, rfl⟩
  case round =>
    obtain ⟨j, R, hj, rfl, hRl, HR⟩ := hrel
    by_cases hlt : j < l
    · obtain ⟨z, R', rfl⟩ : ∃ x R', R = x :: R' := by
        cases R with
        | nil => simp at hRl; omega
        | cons x R' => exact ⟨x, R', rfl⟩
      obtain ⟨hg, hR, hv⟩ := HR.out
      obtain ⟨k0, hT⟩ := hR.tl
      rw [show o + j + 1 = o + (j + 1) by omega] at hT
      have hd : True := trivial
      simp only [List.any_cons] at hv
      have CC : Hid (Calls Tryd.prog 43 #[.int .u8 z] wr fun e u => e = .returned (.bool (noLit z)) ∧ wr.grownBy u none) := (isNoLitT z wr).mono fun e u hh => ⟨hh.1, by rw [hh.2]; exact World.grownBy.refl _ _⟩
      have FX : Hid (w.grownBy wr none ∧ DrB wr b (o + (j + 1)) R' ∧ (zs.any noLit) = (noLit z || R'.any noLit)) := ⟨hg, hT, hv⟩
      clear hg hR hv hd hT HR IN
      simp only [List.length_cons] at hRl
      go_wp2_with fail
      refine Calls.mono CC.out ?_
      rintro e u2 ⟨rfl, hgu⟩
      have FY : Hid (w.grownBy u2 none ∧ DrB u2 b (o + (j + 1)) R' ∧ (zs.any noLit) = (noLit z || R'.any noLit)) := ⟨grown_trans FX.out.1 hgu, FX.out.2.1.le (CLe.grown hgu), FX.out.2.2⟩
      clear FX hgu CC k0
      simp only []
      cases hb : noLit z with
      | false =>
        have FZ : Hid (w.grownBy u2 none ∧ DrB u2 b (o + (j + 1)) R' ∧ (zs.any noLit) = R'.any noLit) := ⟨FY.out.1, FY.out.2.1, by rw [FY.out.2.2, hb, Bool.false_or]⟩
        clear FY hb
        go_wp2
        go_roundw
        case rel => exact ⟨j + 1, R', by omega, by go_num, by omega, FZ⟩
        case measure => simp [intOf]; omega
      | true =>
        have FZ : Hid (w.grownBy u2 none ∧ (zs.any noLit) = true) := ⟨FY.out.1, by rw [FY.out.2.2, hb, Bool.true_or]⟩
        clear FY hb
        go_wp2
        go_ret
        exact ⟨⟨(j : Int), rfl, by unfold AtP; rw [if_pos FZ.out.2]; omega⟩, FZ.out.1⟩
    · obtain rfl : j = l := by omega
      obtain rfl : R = [] := List.eq_nil_of_length_eq_zero (by omega)
      have FZ : Hid (w.grownBy wr none ∧ (zs.any noLit) = false) := ⟨HR.out.1, HR.out.2.2⟩
      clear HR
      go_wp2
      go_ret
      exact ⟨⟨-1, rfl, by unfold AtP; rw [if_neg (by rw [FZ.out.2]; simp)]⟩, FZ.out.1⟩

set_option maxHeartbeats 400000 in
theorem containsBT (zs : List Int) (a : Option Addr) (l c : Nat) (w : World) (h : RdB w a l zs) :
    Calls Tryd.prog 42 #[.slice a l c, .func (.func 43) #[] #[]] w fun e u => e = .returned (.bool (zs.any noLit)) ∧ w.grownBy u none := by
  have CC : Hid _ := indexBT zs a l c w h
  clear h
  go_enter Tryd.func42, Tryd.ntmps42
  go_wp2_with fail
  refine Calls.mono CC.out ?_
  rintro e u ⟨⟨r, rfl, hr⟩, hg⟩
  have G : Hid (w.grownBy u none) := hg
  clear hg CC
  unfold AtP at hr
  simp only []
  cases hb : (zs.any noLit) with
  | true =>
    rw [hb, if_pos rfl] at hr
    go_wp2
    go_ret
    refine ⟨?_, G.out⟩
    rw [hb]
    first | rfl | (simp; done) | (simp; omega)
  | false =>
    rw [hb, if_neg (by simp)] at hr
    subst hr
    go_wp2
    go_ret
    refine ⟨?_, G.out⟩
    rw [hb]
    first | rfl | (simp; done)

set_option maxHeartbeats 400000 in
theorem isLiteralT (a : Option Addr) (n c : Nat) (zs : List Int) (w : World) (h : RdB w a n zs) :
    Calls Tryd.prog 28 #[.slice a n c] w fun e u => e = .returned (.bool (litV zs)) ∧ w.grownBy u none := by
  have CC : Hid _ := containsBT zs a n c w h
  have hn := h.1.1
  clear h
  by_cases hl : n ≤ 20
  · have hl' : (n : Int) ≤ 20 := by omega
    go_enter Tryd.func28, Tryd.ntmps28
    go_wp2_with fail
    refine Calls.mono CC.out ?_
    rintro e u ⟨rfl, hg⟩
    have G : Hid (w.grownBy u none) := hg
    clear CC hg
    simp only []
    go_wp2
    go_ret
    refine ⟨?_, G.out⟩
    have e : litV zs = !zs.any noLit := by unfold litV; rw [hn]; simp [hl]
    rw [e]; rfl
  · have hl' : ¬ (n : Int) ≤ 20 := by omega
    clear CC
    go_enter Tryd.func28, Tryd.ntmps28
    go_wp2
    go_ret
    refine ⟨?_, World.grownBy.refl _ _⟩
    have e : litV zs = false := by unfold litV; rw [hn]; simp [hl]
    rw [e]; rfl

end Go.Proofs.YtaecnhmegdeicaaDoor.By
