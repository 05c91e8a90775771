/-
  Several texts in one (NB0, IA, IB, IOp). No statement is proved here.
-/
import Derived.Test.YtpdkgmagjhibkaaGreatDoorEC0Also
import Derived.Test.YtpdkgmagjhibkaaGreatDoorTEqAlso
import Derived.Deep.DeepCutAuto
import Derived.Laws.Rows
import Derived.Test.YtpdkgmagjhibkaaGreatDoorRows
import Derived.OpenShut
import Derived.ChangeArms
import Derived.LaidLaws
namespace Go.Proofs.YtpdkgmagjhibkaaGreatDoor.By
open Go.RowKit
set_option linter.unusedVariables false
set_option linter.unusedSimpArgs false

def wholeV (n : Int) : Bool := decide (-1073741824 ≤ n) && decide (n ≤ 1073741823)
theorem isWholeT (n : Int) (w : World) :
    Calls Tryz.prog 140 #[.int .i64 n] w fun e u => e = .returned (.bool (wholeV n)) ∧ u = w := by
  by_cases h1 : -1073741824 ≤ n
  · by_cases h2 : n ≤ 1073741823
    · go_enter Tryz.func140, Tryz.ntmps140
      go_wp2
      go_ret
      exact ⟨by simp [wholeV, h1, h2], rfl⟩
    · go_enter Tryz.func140, Tryz.ntmps140
      go_wp2
      go_ret
      exact ⟨by simp [wholeV, h1, h2], rfl⟩
  · go_enter Tryz.func140, Tryz.ntmps140
    go_wp2
    go_ret
    exact ⟨by have e : wholeV n = false := by (simp [wholeV]; omega)
              rw [e]; rfl, rfl⟩

def noLit (z : Int) : Bool := decide (z < 32) || decide (126 < z) || decide (z = 34) || decide (z = 92)
def litV (zs : List Int) : Bool := decide (zs.length ≤ 20) && !zs.any noLit
theorem isNoLitT (z : Int) (w : World) :
    Calls Tryz.prog 147 #[.int .u8 z] w fun e u => e = .returned (.bool (noLit z)) ∧ u = w := by
  by_cases h1 : z < 32
  · go_enter Tryz.func147, Tryz.ntmps147
    go_wp2
    go_ret
    exact ⟨by simp [noLit, h1], rfl⟩
  by_cases h2 : 126 < z
  · have h2' : z > 126 := h2
    go_enter Tryz.func147, Tryz.ntmps147
    go_wp2
    go_ret
    exact ⟨by simp [noLit, h2], rfl⟩
  have h2' : ¬ z > 126 := h2
  by_cases h3 : z = 34
  · go_enter Tryz.func147, Tryz.ntmps147
    go_wp2
    go_ret
    exact ⟨by simp [noLit, h3], rfl⟩
  by_cases h4 : z = 92
  · go_enter Tryz.func147, Tryz.ntmps147
    go_wp2
    go_ret
    exact ⟨by simp [noLit, h4], rfl⟩
  go_enter Tryz.func147, Tryz.ntmps147
  go_wp2
  go_ret
  exact ⟨by have e : noLit z = false := by (simp [noLit, h3, h4]; omega)
            simp [e, h3, h4], rfl⟩
/-- Where the first one is; -1: there is none. -/
def AtP (b : Bool) (r : Int) : Prop := if b = true then 0 ≤ r else r = -1
/-- What is left of a row of bytes from place j on. -/
def DrB (w : World) (b o : Nat) (R : List Int) : Prop := ∀ i, i < R.length → w.cell? ⟨b, o + i, none⟩ = some (.int .u8 (R.getD i 0))
theorem DrB.le {w u : World} {b o : Nat} {R : List Int} (h : DrB w b o R) (k : CLe w u) : DrB u b o R := fun i hi => k _ _ (h i hi)
theorem DrB.tl {w : World} {b o : Nat} {z : Int} {R : List Int} (h : DrB w b o (z :: R)) : w.cell? ⟨b, o, none⟩ = some (.int .u8 z) ∧ DrB w b (o + 1) R := by
  refine ⟨by simpa using h 0 (by simp), fun i hi => ?_⟩
  have := h (i + 1) (by simp; omega)
  rw [show o + 1 + i = o + (i + 1) by omega]; simpa using this

set_option maxRecDepth 4000 in
set_option maxHeartbeats 2000000 in
theorem indexBT (zs : List Int) (a : Option Addr) (l c : Nat) (w : World) (h : RdB w a l zs) :
    Calls Tryz.prog 149 #[.slice a l c, .func (.func 147) #[] #[]] w fun e u => (∃ r : Int, e = .returned (.int .i64 r) ∧ AtP (zs.any noLit) r) ∧ w.grownBy u none := by
  have hl := h.2.2
  have hfl := h.1.1
  have hcs : (l = 0 ∧ zs = []) ∨ ∃ b o, a = some ⟨b, o, none⟩ ∧ DrB w b o zs ∧ 0 < l := by
    by_cases h0 : l = 0
    · exact .inl ⟨h0, List.eq_nil_of_length_eq_zero (by omega)⟩
    · rcases h.1.2 with h2 | ⟨b, o, e, h2⟩
      · exact absurd h2 h0
      · exact .inr ⟨b, o, e, fun i hi => h2 i (by omega), by omega⟩
  rcases hcs with ⟨rfl, rfl⟩ | ⟨b, o, rfl, hin, hpos⟩
  · go_enter Tryz.func149, Tryz.ntmps149
    go_wp2
    refine wp_loop_rounds 1 ?_
    rw [rounds_succ]
    go_wp2
    go_ret
    exact ⟨⟨-1, rfl, by unfold AtP; exact rfl⟩, World.grownBy.refl _ _⟩
  have IN : Hid (DrB w b o zs) := hin
  clear hin h
  go_enter Tryz.func149, Tryz.ntmps149
  go_wp2
  go_loopw [8] (fun i wr => ∃ (j : Nat) (R : List Int), j ≤ l ∧ i = .int .i64 j ∧ R.length + j = l ∧ Hid (w.grownBy wr none ∧ DrB wr b (o + j) R ∧ (zs.any noLit) = R.any noLit)) (fun i _ => l - (intOf i).toNat)
  case atStart => exact ⟨0, zs, Nat.zero_le _, rfl, by omega, World.grownBy.refl _ _, by simpa using IN.out, rfl⟩
  case round =>
    obtain ⟨j, R, hj, rfl, hRl, HR⟩ := hrel
    by_cases hlt : j < l
    · obtain ⟨z, R', rfl⟩ : ∃ x R', R = x :: R' := by
        cases R with
        | nil => simp at hRl; omega
        | cons x R' => exact ⟨x, R', rfl⟩
      obtain ⟨hg, hR, hv⟩ := HR.out
      obtain ⟨k0, hT⟩ := hR.tl
      rw [show o + j + 1 = o + (j + 1) by omega] at hT
      have hd : True := trivial
      simp only [List.any_cons] at hv
      have CC : Hid (Calls Tryz.prog 147 #[.int .u8 z] wr fun e u => e = .returned (.bool (noLit z)) ∧ wr.grownBy u none) := (isNoLitT z wr).mono fun e u hh => ⟨hh.1, by rw [hh.2]; exact World.grownBy.refl _ _⟩
      have FX : Hid (w.grownBy wr none ∧ DrB wr b (o + (j + 1)) R' ∧ (zs.any noLit) = (noLit z || R'.any noLit)) := ⟨hg, hT, hv⟩
      clear hg hR hv hd hT HR IN
      simp only [List.length_cons] at hRl
      go_wp2_with fail
      refine Calls.mono CC.out ?_
      rintro e u2 ⟨rfl, hgu⟩
      have FY : Hid (w.grownBy u2 none ∧ DrB u2 b (o + (j + 1)) R' ∧ (zs.any noLit) = (noLit z || R'.any noLit)) := ⟨grown_trans FX.out.1 hgu, FX.out.2.1.le (CLe.grown hgu), FX.out.2.2⟩
      clear FX hgu CC k0
      simp only []
      cases hb : noLit z with
      | false =>
        have FZ : Hid (w.grownBy u2 none ∧ DrB u2 b (o + (j + 1)) R' ∧ (zs.any noLit) = R'.any noLit) := ⟨FY.out.1, FY.out.2.1, by rw [FY.out.2.2, hb, Bool.false_or]⟩
        clear FY hb
        go_wp2
        go_roundw
        case rel => exact ⟨j + 1, R', by omega, by go_num, by omega, FZ⟩
        case measure => simp [intOf]; omega
      | true =>
        have FZ : Hid (w.grownBy u2 none ∧ (zs.any noLit) = true) := ⟨FY.out.1, by rw [FY.out.2.2, hb, Bool.true_or]⟩
        clear FY hb
        go_wp2
        go_ret
        exact ⟨⟨(j : Int), rfl, by unfold AtP; rw [if_pos FZ.out.2]; omega⟩, FZ.out.1⟩
    · obtain rfl : j = l := by omega
      obtain rfl : R = [] := List.eq_nil_of_length_eq_zero (by omega)
      have FZ : Hid (w.grownBy wr none ∧ (zs.any noLit) = false) := ⟨HR.out.1, HR.out.2.2⟩
      clear HR
      go_wp2
      go_ret
      exact ⟨⟨-1, rfl, by unfold AtP; rw [if_neg (by rw [FZ.out.2]; simp)]⟩, FZ.out.1⟩

set_option maxHeartbeats 400000 in
theorem containsBT (zs : List Int) (a : Option Addr) (l c : Nat) (w : World) (h : RdB w a l zs) :
    Calls Tryz.prog 146 #[.slice a l c, .func (.func 147) #[] #[]] w fun e u => e = .returned (.bool (zs.any noLit)) ∧ w.grownBy u none := by
  have CC : Hid _ := indexBT zs a l c w h
  clear h
  go_enter Tryz.func146, Tryz.ntmps146
  go_wp2_with fail
  refine Calls.mono CC.out ?_
  rintro e u ⟨⟨r, rfl, hr⟩, hg⟩
  have G : Hid (w.grownBy u none) := hg
  clear hg CC
  unfold AtP at hr
  simp only []
  cases hb : (zs.any noLit) with
  | true =>
    rw [hb, if_pos rfl] at hr
    go_wp2
    go_ret
    refine ⟨?_, G.out⟩
    rw [hb]
    first | rfl | (simp; done) | (simp; omega)
  | false =>
    rw [hb, if_neg (by simp)] at hr
    subst hr
    go_wp2
    go_ret
    refine ⟨?_, G.out⟩
    rw [hb]
    first | rfl | (simp; done)

set_option maxHeartbeats 400000 in
theorem isLiteralT (a : Option Addr) (n c : Nat) (zs : List Int) (w : World) (h : RdB w a n zs) :
    Calls Tryz.prog 142 #[.slice a n c] w fun e u => e = .returned (.bool (litV zs)) ∧ w.grownBy u none := by
  have CC : Hid _ := containsBT zs a n c w h
  have hn := h.1.1
  clear h
  by_cases hl : n ≤ 20
  · have hl' : (n : Int) ≤ 20 := by omega
    go_enter Tryz.func142, Tryz.ntmps142
    go_wp2_with fail
    refine Calls.mono CC.out ?_
    rintro e u ⟨rfl, hg⟩
    have G : Hid (w.grownBy u none) := hg
    clear CC hg
    simp only []
    go_wp2
    go_ret
    refine ⟨?_, G.out⟩
    have e : litV zs = !zs.any noLit := by unfold litV; rw [hn]; simp [hl]
    rw [e]; rfl
  · have hl' : ¬ (n : Int) ≤ 20 := by omega
    clear CC
    go_enter Tryz.func142, Tryz.ntmps142
    go_wp2
    go_ret
    refine ⟨?_, World.grownBy.refl _ _⟩
    have e : litV zs = false := by unfold litV; rw [hn]; simp [hl]
    rw [e]; rfl

end Go.Proofs.YtpdkgmagjhibkaaGreatDoor.By

namespace Go.Proofs.YtpdkgmagjhibkaaGreatDoor.By
open Go.RowKit
set_option linter.unusedVariables false
set_option linter.unusedSimpArgs false

def numV (n : Int) : Bool := decide (0 ≤ n) && decide (n ≤ 2147483647)
def noNum (n : Int) : Bool := !numV n
theorem isNumT (n : Int) (w : World) :
    Calls Tryz.prog 141 #[.int .i64 n] w fun e u => e = .returned (.bool (numV n)) ∧ u = w := by
  by_cases h1 : 0 ≤ n
  · by_cases h2 : n ≤ 2147483647
    · go_enter Tryz.func141, Tryz.ntmps141
      go_wp2
      go_ret
      exact ⟨by simp [numV, h1, h2], rfl⟩
    · go_enter Tryz.func141, Tryz.ntmps141
      go_wp2
      go_ret
      exact ⟨by simp [numV, h1, h2], rfl⟩
  · go_enter Tryz.func141, Tryz.ntmps141
    go_wp2
    go_ret
    exact ⟨by have e : numV n = false := by (simp [numV]; omega)
              rw [e]; rfl, rfl⟩

theorem isNoNumT (n : Int) (w : World) :
    Calls Tryz.prog 144 #[.int .i64 n] w fun e u => e = .returned (.bool (noNum n)) ∧ u = w := by
  have CC : Hid _ := isNumT n w
  go_enter Tryz.func144, Tryz.ntmps144
  go_wp2_with fail
  refine Calls.mono CC.out ?_
  rintro e u ⟨rfl, rfl⟩
  clear CC
  simp only []
  go_wp2
  go_ret
  exact ⟨rfl, rfl⟩

/-- What is left of a row of numbers from a place on. -/
def DrI (w : World) (b o : Nat) (R : List Int) : Prop := ∀ i, i < R.length → w.cell? ⟨b, o + i, none⟩ = some (.int .i64 (R.getD i 0))
theorem DrI.le {w u : World} {b o : Nat} {R : List Int} (h : DrI w b o R) (k : CLe w u) : DrI u b o R := fun i hi => k _ _ (h i hi)
theorem DrI.tl {w : World} {b o : Nat} {z : Int} {R : List Int} (h : DrI w b o (z :: R)) : w.cell? ⟨b, o, none⟩ = some (.int .i64 z) ∧ DrI w b (o + 1) R := by
  refine ⟨by simpa using h 0 (by simp), fun i hi => ?_⟩
  have := h (i + 1) (by simp; omega)
  rw [show o + 1 + i = o + (i + 1) by omega]; simpa using this

set_option maxRecDepth 4000 in
set_option maxHeartbeats 2000000 in
theorem indexNT (zs : List Int) (a : Option Addr) (l c : Nat) (w : World) (h : RdI w a l zs) :
    Calls Tryz.prog 148 #[.slice a l c, .func (.func 144) #[] #[]] w fun e u => (∃ r : Int, e = .returned (.int .i64 r) ∧ AtP (zs.any noNum) r) ∧ w.grownBy u none := by
  have hl := h.2
  have hfl := h.1.1
  have hcs : (l = 0 ∧ zs = []) ∨ ∃ b o, a = some ⟨b, o, none⟩ ∧ DrI w b o zs ∧ 0 < l := by
    by_cases h0 : l = 0
    · exact .inl ⟨h0, List.eq_nil_of_length_eq_zero (by omega)⟩
    · rcases h.1.2 with h2 | ⟨b, o, e, h2⟩
      · exact absurd h2 h0
      · exact .inr ⟨b, o, e, fun i hi => h2 i (by omega), by omega⟩
  rcases hcs with ⟨rfl, rfl⟩ | ⟨b, o, rfl, hin, hpos⟩
  · go_enter Tryz.func148, Tryz.ntmps148
    go_wp2
    refine wp_loop_rounds 1 ?_
    rw [rounds_succ]
    go_wp2
    go_ret
    exact ⟨⟨-1, rfl, by unfold AtP; exact rfl⟩, World.grownBy.refl _ _⟩
  have IN : Hid (DrI w b o zs) := hin
  clear hin h
  go_enter Tryz.func148, Tryz.ntmps148
  go_wp2
  go_loopw [8] (fun i wr => ∃ (j : Nat) (R : List Int), j ≤ l ∧ i = .int .i64 j ∧ R.length + j = l ∧ Hid (w.grownBy wr none ∧ DrI wr b (o + j) R ∧ (zs.any noNum) = R.any noNum)) (fun i _ => l - (intOf i).toNat)
  case atStart => exact ⟨0, zs, Nat.zero_le _, rfl, by omega, World.grownBy.refl _ _, by simpa using IN.out, rfl⟩
  case round =>
    obtain ⟨j, R, hj, rfl, hRl, HR⟩ := hrel
    by_cases hlt : j < l
    · obtain ⟨z, R', rfl⟩ : ∃ x R', R = x :: R' := by
        cases R with
        | nil => simp at hRl; omega
        | cons x R' => exact ⟨x, R', rfl⟩
      obtain ⟨hg, hR, hv⟩ := HR.out
      obtain ⟨k0, hT⟩ := hR.tl
      rw [show o + j + 1 = o + (j + 1) by omega] at hT
      have hd : True := trivial
      simp only [List.any_cons] at hv
      have CC : Hid (Calls Tryz.prog 144 #[.int .i64 z] wr fun e u => e = .returned (.bool (noNum z)) ∧ wr.grownBy u none) := (isNoNumT z wr).mono fun e u hh => ⟨hh.1, by rw [hh.2]; exact World.grownBy.refl _ _⟩
      have FX : Hid (w.grownBy wr none ∧ DrI wr b (o + (j + 1)) R' ∧ (zs.any noNum) = (noNum z || R'.any noNum)) := ⟨hg, hT, hv⟩
      clear hg hR hv hd hT HR IN
      simp only [List.length_cons] at hRl
      go_wp2_with fail
      refine Calls.mono CC.out ?_
      rintro e u2 ⟨rfl, hgu⟩
      have FY : Hid (w.grownBy u2 none ∧ DrI u2 b (o + (j + 1)) R' ∧ (zs.any noNum) = (noNum z || R'.any noNum)) := ⟨grown_trans FX.out.1 hgu, FX.out.2.1.le (CLe.grown hgu), FX.out.2.2⟩
      clear FX hgu CC k0
      simp only []
      cases hb : noNum z with
      | false =>
        have FZ : Hid (w.grownBy u2 none ∧ DrI u2 b (o + (j + 1)) R' ∧ (zs.any noNum) = R'.any noNum) := ⟨FY.out.1, FY.out.2.1, by rw [FY.out.2.2, hb, Bool.false_or]⟩
        clear FY hb
        go_wp2
        go_roundw
        case rel => exact ⟨j + 1, R', by omega, by go_num, by omega, FZ⟩
        case measure => simp [intOf]; omega
      | true =>
        have FZ : Hid (w.grownBy u2 none ∧ (zs.any noNum) = true) := ⟨FY.out.1, by rw [FY.out.2.2, hb, Bool.true_or]⟩
        clear FY hb
        go_wp2
        go_ret
        exact ⟨⟨(j : Int), rfl, by unfold AtP; rw [if_pos FZ.out.2]; omega⟩, FZ.out.1⟩
    · obtain rfl : j = l := by omega
      obtain rfl : R = [] := List.eq_nil_of_length_eq_zero (by omega)
      have FZ : Hid (w.grownBy wr none ∧ (zs.any noNum) = false) := ⟨HR.out.1, HR.out.2.2⟩
      clear HR
      go_wp2
      go_ret
      exact ⟨⟨-1, rfl, by unfold AtP; rw [if_neg (by rw [FZ.out.2]; simp)]⟩, FZ.out.1⟩

set_option maxHeartbeats 400000 in
theorem containsNT (zs : List Int) (a : Option Addr) (l c : Nat) (w : World) (h : RdI w a l zs) :
    Calls Tryz.prog 143 #[.slice a l c, .func (.func 144) #[] #[]] w fun e u => e = .returned (.bool (zs.any noNum)) ∧ w.grownBy u none := by
  have CC : Hid _ := indexNT zs a l c w h
  clear h
  go_enter Tryz.func143, Tryz.ntmps143
  go_wp2_with fail
  refine Calls.mono CC.out ?_
  rintro e u ⟨⟨r, rfl, hr⟩, hg⟩
  have G : Hid (w.grownBy u none) := hg
  clear hg CC
  unfold AtP at hr
  simp only []
  cases hb : (zs.any noNum) with
  | true =>
    rw [hb, if_pos rfl] at hr
    go_wp2
    go_ret
    refine ⟨?_, G.out⟩
    rw [hb]
    first | rfl | (simp; done) | (simp; omega)
  | false =>
    rw [hb, if_neg (by simp)] at hr
    subst hr
    go_wp2
    go_ret
    refine ⟨?_, G.out⟩
    rw [hb]
    first | rfl | (simp; done)


end Go.Proofs.YtpdkgmagjhibkaaGreatDoor.By

namespace Go.Proofs.YtpdkgmagjhibkaaGreatDoor.By
open Go.RowKit
set_option linter.unusedVariables false
set_option linter.unusedSimpArgs false

set_option maxRecDepth 20000

def hasA (op : Int) : Bool := decide (op = 1) || decide (op = 4) || decide (op = 6) || decide (op = 7) || decide (op = 21) || decide (op = 22) || decide (op = 23) || decide (op = 26) || decide (op = 27) || decide (op = 29) || decide (op = 31)
def opsA : Array Value := #[.bool false, .bool false, .bool false, .bool false, .bool false, .bool true, .bool true, .bool false, .bool false, .bool false, .bool false, .bool false, .bool false, .bool true, .bool false, .bool false, .bool false, .bool false, .bool false, .bool false, .bool true, .bool false, .bool false, .bool false, .bool false, .bool false, .bool false, .bool false, .bool false, .bool false, .bool true, .bool false, .bool false, .bool false, .bool false, .bool true, .bool false, .bool false, .bool false, .bool false, .bool false, .bool false, .bool false, .bool false, .bool false, .bool false, .bool false, .bool false, .bool false, .bool false, .bool false, .bool false, .bool false, .bool false, .bool false, .bool false, .bool false, .bool false, .bool false, .bool false, .bool false, .bool false, .bool false, .bool false, .bool false, .bool false, .bool false, .bool false, .bool false, .bool false, .bool false, .bool false, .bool false, .bool false, .bool false, .bool false, .bool false, .bool false, .bool false, .bool false, .bool false, .bool false, .bool false, .bool false, .bool false, .bool false, .bool false, .bool false, .bool false, .bool false, .bool false, .bool false, .bool false, .bool false, .bool false, .bool false, .bool false, .bool false, .bool false, .bool false, .bool false, .bool false, .bool false, .bool false, .bool false, .bool true, .bool false, .bool true, .bool false, .bool false, .bool true, .bool false, .bool false, .bool false, .bool true, .bool true, .bool false, .bool false, .bool false, .bool false, .bool false, .bool false, .bool false, .bool false, .bool false, .bool false, .bool false, .bool false, .bool false, .bool false, .bool true, .bool false, .bool false, .bool false, .bool false, .bool true, .bool false, .bool false, .bool false, .bool false, .bool false, .bool false, .bool false, .bool false, .bool false, .bool true, .bool false, .bool false, .bool false, .bool false, .bool false, .bool false, .bool false, .bool false, .bool false, .bool true, .bool false, .bool false, .bool false, .bool false]
theorem opsA_size : opsA.size = 160 := by kernel_rfl
theorem getO : ∀ (j : Nat), j < 32 → opsA[j * 5]? = some (.bool (hasA j)) ∧ opsA[j * 5 + 1]? = some (.bool (decide ((j : Int) = 1))) ∧ opsA[j * 5 + 2]? = some (.bool (decide ((j : Int) = 21))) ∧ opsA[j * 5 + 3]? = some (.bool (decide ((j : Int) = 2))) ∧ opsA[j * 5 + 4]? = some (.bool (decide ((j : Int) = 22)))
  | 0, _ => ⟨by kernel_rfl, by kernel_rfl, by kernel_rfl, by kernel_rfl, by kernel_rfl⟩
  | 1, _ => ⟨by kernel_rfl, by kernel_rfl, by kernel_rfl, by kernel_rfl, by kernel_rfl⟩
  | 2, _ => ⟨by kernel_rfl, by kernel_rfl, by kernel_rfl, by kernel_rfl, by kernel_rfl⟩
  | 3, _ => ⟨by kernel_rfl, by kernel_rfl, by kernel_rfl, by kernel_rfl, by kernel_rfl⟩
  | 4, _ => ⟨by kernel_rfl, by kernel_rfl, by kernel_rfl, by kernel_rfl, by kernel_rfl⟩
  | 5, _ => ⟨by kernel_rfl, by kernel_rfl, by kernel_rfl, by kernel_rfl, by kernel_rfl⟩
  | 6, _ => ⟨by kernel_rfl, by kernel_rfl, by kernel_rfl, by kernel_rfl, by kernel_rfl⟩
  | 7, _ => ⟨by kernel_rfl, by kernel_rfl, by kernel_rfl, by kernel_rfl, by kernel_rfl⟩
  | 8, _ => ⟨by kernel_rfl, by kernel_rfl, by kernel_rfl, by kernel_rfl, by kernel_rfl⟩
  | 9, _ => ⟨by kernel_rfl, by kernel_rfl, by kernel_rfl, by kernel_rfl, by kernel_rfl⟩
  | 10, _ => ⟨by kernel_rfl, by kernel_rfl, by kernel_rfl, by kernel_rfl, by kernel_rfl⟩
  | 11, _ => ⟨by kernel_rfl, by kernel_rfl, by kernel_rfl, by kernel_rfl, by kernel_rfl⟩
  | 12, _ => ⟨by kernel_rfl, by kernel_rfl, by kernel_rfl, by kernel_rfl, by kernel_rfl⟩
  | 13, _ => ⟨by kernel_rfl, by kernel_rfl, by kernel_rfl, by kernel_rfl, by kernel_rfl⟩
  | 14, _ => ⟨by kernel_rfl, by kernel_rfl, by kernel_rfl, by kernel_rfl, by kernel_rfl⟩
  | 15, _ => ⟨by kernel_rfl, by kernel_rfl, by kernel_rfl, by kernel_rfl, by kernel_rfl⟩
  | 16, _ => ⟨by kernel_rfl, by kernel_rfl, by kernel_rfl, by kernel_rfl, by kernel_rfl⟩
  | 17, _ => ⟨by kernel_rfl, by kernel_rfl, by kernel_rfl, by kernel_rfl, by kernel_rfl⟩
  | 18, _ => ⟨by kernel_rfl, by kernel_rfl, by kernel_rfl, by kernel_rfl, by kernel_rfl⟩
  | 19, _ => ⟨by kernel_rfl, by kernel_rfl, by kernel_rfl, by kernel_rfl, by kernel_rfl⟩
  | 20, _ => ⟨by kernel_rfl, by kernel_rfl, by kernel_rfl, by kernel_rfl, by kernel_rfl⟩
  | 21, _ => ⟨by kernel_rfl, by kernel_rfl, by kernel_rfl, by kernel_rfl, by kernel_rfl⟩
  | 22, _ => ⟨by kernel_rfl, by kernel_rfl, by kernel_rfl, by kernel_rfl, by kernel_rfl⟩
  | 23, _ => ⟨by kernel_rfl, by kernel_rfl, by kernel_rfl, by kernel_rfl, by kernel_rfl⟩
  | 24, _ => ⟨by kernel_rfl, by kernel_rfl, by kernel_rfl, by kernel_rfl, by kernel_rfl⟩
  | 25, _ => ⟨by kernel_rfl, by kernel_rfl, by kernel_rfl, by kernel_rfl, by kernel_rfl⟩
  | 26, _ => ⟨by kernel_rfl, by kernel_rfl, by kernel_rfl, by kernel_rfl, by kernel_rfl⟩
  | 27, _ => ⟨by kernel_rfl, by kernel_rfl, by kernel_rfl, by kernel_rfl, by kernel_rfl⟩
  | 28, _ => ⟨by kernel_rfl, by kernel_rfl, by kernel_rfl, by kernel_rfl, by kernel_rfl⟩
  | 29, _ => ⟨by kernel_rfl, by kernel_rfl, by kernel_rfl, by kernel_rfl, by kernel_rfl⟩
  | 30, _ => ⟨by kernel_rfl, by kernel_rfl, by kernel_rfl, by kernel_rfl, by kernel_rfl⟩
  | 31, _ => ⟨by kernel_rfl, by kernel_rfl, by kernel_rfl, by kernel_rfl, by kernel_rfl⟩
  | j + 32, h => absurd h (by omega)
/-- The table stands. -/
def OpsIn (w : World) : Prop := ∃ t fr, w.heap[0]? = some (.cells opsA t fr)
theorem OpsIn.none {w u : World} (h : OpsIn w) (k : w.grownBy u Option.none) : OpsIn u := by
  obtain ⟨t, fr, h⟩ := h
  exact ⟨t, fr, (k.block _ (lt_of_block h) (by simp)).trans h⟩
theorem cellsO {w : World} (h : OpsIn w) (j : Nat) (hj : j < 32) : w.cell? ⟨0, j * 5, none⟩ = some (.bool (hasA j)) ∧ w.cell? ⟨0, j * 5 + 1, none⟩ = some (.bool (decide ((j : Int) = 1))) ∧ w.cell? ⟨0, j * 5 + 2, none⟩ = some (.bool (decide ((j : Int) = 21))) ∧ w.cell? ⟨0, j * 5 + 3, none⟩ = some (.bool (decide ((j : Int) = 2))) ∧ w.cell? ⟨0, j * 5 + 4, none⟩ = some (.bool (decide ((j : Int) = 22))) := by
  obtain ⟨t, fr, h⟩ := h
  obtain ⟨q0, q1, q2, q3, q4⟩ := getO j hj
  exact ⟨(cell_of_row w _ _ _ t fr h).trans q0, (cell_of_row w _ _ _ t fr h).trans q1, (cell_of_row w _ _ _ t fr h).trans q2, (cell_of_row w _ _ _ t fr h).trans q3, (cell_of_row w _ _ _ t fr h).trans q4⟩
def opOk (op : Int) : Bool := decide (0 ≤ op) && decide (op ≤ 31)
/-- What an op has. -/
def FoO (op : Int) (e : Ending) : Prop := e = .returned (.tuple #[.agg #[.bool (opOk op && hasA op), .bool (opOk op && decide (op = 1)), .bool (opOk op && decide (op = 21)), .bool (opOk op && decide (op = 2)), .bool (opOk op && decide (op = 22))], .bool (opOk op)])

theorem blk5 {w : World} {g : Nat} {t : TypeId} {v0 v1 v2 v3 v4 : Value} (h : w.heap[g]? = some (.cells #[v0, v1, v2, v3, v4] t (0, 0))) : (w.cell? ⟨g, 0, none⟩ = some v0 ∧ w.cell? ⟨g, 1, none⟩ = some v1 ∧ w.cell? ⟨g, 2, none⟩ = some v2 ∧ w.cell? ⟨g, 3, none⟩ = some v3 ∧ w.cell? ⟨g, 4, none⟩ = some v4) ∧ ∀ j, w.frozen? ⟨g, j, none⟩ = false := by
  refine ⟨⟨?_, ?_, ?_, ?_, ?_⟩, fun j => frozen_of_row w g _ _ t h⟩ <;> (rw [cell_of_row w g _ _ t (0, 0) h]; rfl)
theorem results_cell2O {P : Program} {fn : Func} {p u : Tmp} {ty : TypeId} (h : fn.results = #[.cell p ty, .tmp u]) (tmps : Array Value) (w : World) (g : Nat) (t : TypeId) (cs : Array Value) (fr : Nat × Nat) (d : TypeDesc)
    (hp : tmps.getD p undef = .pointer (some ⟨g, 0, none⟩)) (hg : w.heap[g]? = some (.cells cs t fr))
    (hu : P.underlying ty = some d) (hd : (match d with | .struct _ | .array _ _ => true | _ => false) = true) (hi : (P.info? ty).map (·.size) = some cs.size) :
    (results fn tmps).run P w = .ok (.tuple #[.agg cs, tmps.getD u undef]) w := by
  have hp' : tmps[p]?.getD undef = .pointer (some ⟨g, 0, none⟩) := by simpa using hp
  simp [results, h, hp', asAddr, run_loadVar_row w g t ty cs fr d hg hu hd hi]

set_option maxHeartbeats 2000000 in
theorem formOfOpT (op : Int) (w : World) (hF : OpsIn w) :
    Calls Tryz.prog 115 #[.int .i64 op] w fun e u => FoO op e ∧ w.grownBy u none := by
  have b0 := heap_alloc_new w (.cells #[.bool false, .bool false, .bool false, .bool false, .bool false] 157)
  have g0 := World.grownBy_alloc w (.cells #[.bool false, .bool false, .bool false, .bool false, .bool false] 157) none
  have hf0 := hF.none g0
  have L0 : Hid (w.grownBy _ none ∧ _ = some (Obj.cells #[.bool false, .bool false, .bool false, .bool false, .bool false] 157)) := ⟨g0, b0⟩
  obtain ⟨⟨y0, y1, y2, y3, y4⟩, hfy⟩ := blk5 b0
  have f0 := hfy 0
  have f1 := hfy 1
  have f2 := hfy 2
  have f3 := hfy 3
  have f4 := hfy 4
  clear hF g0 b0 hfy
  by_cases h1 : op < 0
  · have HE : Hid (opOk op = false) := by show _ = _; simp [opOk]; omega
    clear hf0
    go_enter Tryz.func115, Tryz.ntmps115
    go_wp2
    refine bodyPost_ret (results_cell2O (P := Tryz.prog) Tryz.results115 _ _ _ _ _ _ _ rfl L0.out.2 Tryz.underlying157 rfl (by kernel_rfl)) rfl ?_
    exact ⟨by unfold FoO; rw [HE.out]; rfl, L0.out.1⟩
  by_cases h2 : op > 31
  · have HE : Hid (opOk op = false) := by show _ = _; simp [opOk]; omega
    clear hf0
    go_enter Tryz.func115, Tryz.ntmps115
    go_wp2
    refine bodyPost_ret (results_cell2O (P := Tryz.prog) Tryz.results115 _ _ _ _ _ _ _ rfl L0.out.2 Tryz.underlying157 rfl (by kernel_rfl)) rfl ?_
    exact ⟨by unfold FoO; rw [HE.out]; rfl, L0.out.1⟩
  obtain ⟨j, rfl⟩ : ∃ j : Nat, op = (j : Int) := ⟨op.toNat, by omega⟩
  have HE : Hid (opOk j = true) := by show _ = _; simp [opOk]; omega
  obtain ⟨q0, q1, q2, q3, q4⟩ := cellsO hf0 j (by omega)
  obtain ⟨x0, hx0⟩ : ∃ x, hasA j = x := ⟨_, rfl⟩
  obtain ⟨x1, hx1⟩ : ∃ x, decide ((j : Int) = 1) = x := ⟨_, rfl⟩
  obtain ⟨x2, hx2⟩ : ∃ x, decide ((j : Int) = 21) = x := ⟨_, rfl⟩
  obtain ⟨x3, hx3⟩ : ∃ x, decide ((j : Int) = 2) = x := ⟨_, rfl⟩
  obtain ⟨x4, hx4⟩ : ∃ x, decide ((j : Int) = 22) = x := ⟨_, rfl⟩
  rw [hx0] at q0
  rw [hx1] at q1
  rw [hx2] at q2
  rw [hx3] at q3
  rw [hx4] at q4
  have HF5 : Hid _ := fill5 (.bool x0) (.bool x1) (.bool x2) (.bool x3) (.bool x4) L0.out.2
  have GG : Hid (FoO j (.returned (.tuple #[.agg #[.bool x0, .bool x1, .bool x2, .bool x3, .bool x4], .bool true]))) := by
    show FoO _ _
    unfold FoO
    rw [HE.out, hx0, hx1, hx2, hx3, hx4]
    simp only [Bool.true_and]
  clear HE hf0 hx0 hx1 hx2 hx3 hx4
  go_enter Tryz.func115, Tryz.ntmps115
  go_upto_region 3 with fail
  have G9 : Hid (w.grownBy _ none ∧ w.heap.size ≤ w.heap.size) := ⟨L0.out.1, Nat.le_refl _⟩
  clear L0
  generalize w.alloc (.cells #[.bool false, .bool false, .bool false, .bool false, .bool false] 157) = u at *
  generalize hp : w.heap.size = p at *
  have HP : Hid (w.heap.size = p) := hp
  clear hp
  go_wp2
  refine bodyPost_ret (results_cell2O (P := Tryz.prog) Tryz.results115 _ _ _ _ _ _ _ rfl HF5.out.1 Tryz.underlying157 rfl (by kernel_rfl)) rfl ?_
  exact ⟨GG.out, grown_into G9.out.1 HF5.out.2 (Nat.le_of_eq HP.out)⟩

end Go.Proofs.YtpdkgmagjhibkaaGreatDoor.By

namespace Go.Proofs.YtpdkgmagjhibkaaGreatDoor.By
open Go.RowKit
set_option linter.unusedVariables false
set_option maxRecDepth 100000

abbrev Ofm := Bool × Bool × Bool × Bool × Bool
def opsL : List Ofm := [(false, false, false, false, false), (true, true, false, false, false), (false, false, false, true, false), (false, false, false, false, false), (true, false, false, false, false), (false, false, false, false, false), (true, false, false, false, false), (true, false, false, false, false), (false, false, false, false, false), (false, false, false, false, false), (false, false, false, false, false), (false, false, false, false, false), (false, false, false, false, false), (false, false, false, false, false), (false, false, false, false, false), (false, false, false, false, false), (false, false, false, false, false), (false, false, false, false, false), (false, false, false, false, false), (false, false, false, false, false), (false, false, false, false, false), (true, false, true, false, false), (true, false, false, false, true), (true, false, false, false, false), (false, false, false, false, false), (false, false, false, false, false), (true, false, false, false, false), (true, false, false, false, false), (false, false, false, false, false), (true, false, false, false, false), (false, false, false, false, false), (true, false, false, false, false)]
theorem opsL_len : opsL.length = 32 := rfl
def cellsOf5 (f : Ofm) : List Value := [.bool f.1, .bool f.2.1, .bool f.2.2.1, .bool f.2.2.2.1, .bool f.2.2.2.2]
def datO {H : Type} (f : Ofm) : DataW H := .agg [.lit (.bool f.1), .lit (.bool f.2.1), .lit (.bool f.2.2.1), .lit (.bool f.2.2.2.1), .lit (.bool f.2.2.2.2)]
theorem opsA_cells : opsA.toList = opsL.flatMap cellsOf5 := by kernel_rfl
theorem laidO_dat : (Rows.laid_loop_example_g00293_impl_opForms : DataW Unit) = .agg (opsL.map datO) := by kernel_rfl

theorem rowsO_join : ∀ (rows : List Ofm) (cs : List Value), cs.length = rows.length * 5 → (∀ i f, rows[i]? = some f → (cs.drop (i * 5)).take 5 = cellsOf5 f) → cs = rows.flatMap cellsOf5
  | [], cs, h, _ => by simpa using h
  | f :: rows, cs, h, H => by
    have h0 : cs.take 5 = cellsOf5 f := by simpa using H 0 f rfl
    have ht : cs.drop 5 = rows.flatMap cellsOf5 := rowsO_join rows (cs.drop 5) (by simp at h ⊢; omega) (fun i g hg => by
      have := H (i + 1) g (by simpa using hg)
      rw [List.drop_drop]
      have e : 5 + i * 5 = (i + 1) * 5 := by omega
      rw [e]; exact this)
    rw [List.flatMap_cons, ← h0, ← ht, List.take_append_drop]

section
variable {H : Type} {enc : TypeId × Value → H} {W : World} {base : Nat} {spare : Nat → Bool} {held : Bool}
theorem ofm_of {m : Nat} {cs : List Value} {f : Ofm} {p : List MemPlace} (h : DataW.trod enc Tryz.prog W base spare held m 157 cs = some (datO f, p)) : cs = cellsOf5 f := by
  have c4 : Tryz.prog.cellsOf 4 = 1 := by kernel_rfl
  have c5 : Tryz.prog.cellsOf 157 = 5 := by kernel_rfl
  obtain ⟨xs, n, hn, hx, hl, hxl, hf⟩ := DataW.trod_struct Tryz.underlying157 h
  have f0 : DataW.trod enc Tryz.prog W base spare held n 4 ((cs.drop 0).take (Tryz.prog.cellsOf 4)) = xs[0]? := hf 0 _ rfl
  have f1 : DataW.trod enc Tryz.prog W base spare held n 4 ((cs.drop 1).take (Tryz.prog.cellsOf 4)) = xs[1]? := hf 1 _ rfl
  have f2 : DataW.trod enc Tryz.prog W base spare held n 4 ((cs.drop 2).take (Tryz.prog.cellsOf 4)) = xs[2]? := hf 2 _ rfl
  have f3 : DataW.trod enc Tryz.prog W base spare held n 4 ((cs.drop 3).take (Tryz.prog.cellsOf 4)) = xs[3]? := hf 3 _ rfl
  have f4 : DataW.trod enc Tryz.prog W base spare held n 4 ((cs.drop 4).take (Tryz.prog.cellsOf 4)) = xs[4]? := hf 4 _ rfl
  rw [c4] at f0 f1 f2 f3 f4
  have hx5 : xs.length = 5 := hxl
  rw [c5] at hl
  match cs, hl with
  | [v0, v1, v2, v3, v4], _ =>
  match xs, hx5 with
  | [x0, x1, x2, x3, x4], _ =>
  obtain ⟨s0, e0, d0⟩ := DataW.trod_bool Tryz.underlying4 (show DataW.trod enc Tryz.prog W base spare held n 4 [v0] = some x0 from f0)
  obtain ⟨s1, e1, d1⟩ := DataW.trod_bool Tryz.underlying4 (show DataW.trod enc Tryz.prog W base spare held n 4 [v1] = some x1 from f1)
  obtain ⟨s2, e2, d2⟩ := DataW.trod_bool Tryz.underlying4 (show DataW.trod enc Tryz.prog W base spare held n 4 [v2] = some x2 from f2)
  obtain ⟨s3, e3, d3⟩ := DataW.trod_bool Tryz.underlying4 (show DataW.trod enc Tryz.prog W base spare held n 4 [v3] = some x3 from f3)
  obtain ⟨s4, e4, d4⟩ := DataW.trod_bool Tryz.underlying4 (show DataW.trod enc Tryz.prog W base spare held n 4 [v4] = some x4 from f4)
  subst d0 d1 d2 d3 d4
  have hd := congrArg Prod.fst hx
  simp only [datO, List.map_cons, List.map_nil, DataW.agg.injEq, List.cons.injEq, DataW.lit.injEq, Lit.bool.injEq, and_true] at hd
  obtain ⟨q0, q1, q2, q3, q4⟩ := hd
  cases e0; cases e1; cases e2; cases e3; cases e4
  unfold cellsOf5
  rw [q0, q1, q2, q3, q4]

theorem ops_of {fuel : Nat} {cs : List Value} {p : List MemPlace} (h : DataW.trod enc Tryz.prog W base spare held fuel 177 cs = some (.agg (opsL.map datO), p)) : cs = opsA.toList := by
  have c4 : Tryz.prog.cellsOf 157 = 5 := by kernel_rfl
  have c160 : Tryz.prog.cellsOf 177 = 160 := by kernel_rfl
  obtain ⟨xs, m, hm, hx, hl, hxl, he⟩ := DataW.trod_array Tryz.underlying177 h
  rw [c160] at hl
  have hd : opsL.map datO = xs.map (·.1) := by
    have := congrArg Prod.fst hx
    simpa only [DataW.agg.injEq] using this
  rw [opsA_cells]
  refine rowsO_join opsL cs (by rw [hl, opsL_len]) fun i f hf => ?_
  have hi : i < 32 := by
    have := (List.getElem?_eq_some_iff.1 hf).1
    rwa [opsL_len] at this
  have h1 := he i hi
  rw [c4] at h1
  have h2 : (xs.map (·.1))[i]? = some (datO f) := by rw [← hd, List.getElem?_map, hf]; rfl
  rw [List.getElem?_map] at h2
  obtain ⟨⟨y, z⟩, hy, hz⟩ := Option.map_eq_some_iff.1 h2
  rw [hy] at h1
  obtain rfl : y = datO f := hz
  exact ofm_of h1
end

theorem opsIn_of_laid {W : World} {rest : List (String × DataW Unit)} (h : laidMet Tryz.prog (("loop.example/g00293/impl.opForms", Rows.laid_loop_example_g00293_impl_opForms) :: rest) W) : OpsIn W := by
  obtain ⟨ps, ⟨g, t, cs, fuel, p, q, hg, ht, hvar, hd, _, _⟩, _⟩ := h
  obtain rfl := Option.some.inj ((show Tryz.prog.globalNamed "loop.example/g00293/impl.opForms" = some 0 by kernel_rfl).symm.trans hg)
  obtain rfl := Option.some.inj ((show (Tryz.prog.globals[0]?).map (·.type) = some 177 by kernel_rfl).symm.trans ht)
  rw [laidO_dat] at hd
  have hc : cs.toList = opsA.toList := ops_of hd
  obtain rfl : cs = opsA := by
    cases cs; cases hfa : opsA
    rw [hfa] at hc
    simp at hc
    rw [hc]
  unfold World.var? at hvar
  rw [hg] at hvar
  simp only [Option.bind_some] at hvar
  split at hvar
  · rename_i c t' fr hh
    exact ⟨t', fr, by rw [hh]; cases hvar; rfl⟩
  · cases hvar

end Go.Proofs.YtpdkgmagjhibkaaGreatDoor.By
