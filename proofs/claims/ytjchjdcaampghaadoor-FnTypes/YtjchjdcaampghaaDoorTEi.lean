/-
  impl.TyEq, by its contract. No statement is proved here.
-/
import Derived.Test.YtjchjdcaampghaaDoorTSize
import Derived.Test.YtjchjdcaampghaaDoorTSame
import Derived.Deep.DeepCutAuto
import Derived.Deep.DeepCutAuto
namespace Go.Proofs.YtjchjdcaampghaaDoor.By
open Go.RowKit
set_option linter.unusedVariables false
set_option linter.unusedSimpArgs false

set_option maxHeartbeats 400000 in
theorem implTyEqT (d d' : F) (k n k' n' : Int) (a a' : Option Addr) (l c l' c' : Nat) (w : World) (h : SlF w a l d) (h' : SlF w a' l' d') :
    Calls Tryd.prog 15 #[.agg #[.int .i64 k, .int .i64 n, .slice a l c], .agg #[.int .i64 k', .int .i64 n', .slice a' l' c']] w fun e u => e = .returned (.bool (okT k n d && (okT k' n' d' && eqV k n d k' n' d'))) ∧ w.grownBy u none := by
  have g0 := grown_alloc (grown_alloc (World.grownBy.refl w none) (.cells #[.int .i64 k, .int .i64 n, .slice a l c] 25)) (.cells #[.int .i64 k', .int .i64 n', .slice a' l' c'] 25)
  obtain ⟨b1, b2, bs⟩ := (alloc2_blocks w (.cells #[.int .i64 k, .int .i64 n, .slice a l c] 25) (.cells #[.int .i64 k', .int .i64 n', .slice a' l' c'] 25))
  have FX : Hid (w.grownBy _ none ∧ SlF _ a l d ∧ SlF _ a' l' d' ∧ _ = some _ ∧ _ = some _ ∧ _ = w.heap.size + 1 + 1) := ⟨g0, h.none g0, h'.none g0, b1, b2, bs⟩
  have C1 : Hid _ := implTyOkT d k n a l c _ FX.out.2.1
  clear h h' g0 b1 b2 bs
  go_enter Tryd.func15, Tryd.ntmps15
  go_wp2_with fail
  refine Calls.mono C1.out ?_
  rintro e u ⟨rfl, hg⟩
  obtain ⟨g0, h, h', b1, b2, bs⟩ := FX.out
  have FY : Hid (w.grownBy u none ∧ SlF u a l d ∧ SlF u a' l' d' ∧ _ = some _ ∧ _ = some _) := ⟨grown_trans g0 hg, h.none hg, h'.none hg, (hg.block _ (by rw [bs]; omega) (by simp)).trans b1, (hg.block _ (by rw [bs]; omega) (by simp)).trans b2⟩
  clear FX hg C1 g0 h h' b1 b2 bs
  generalize ep : w.heap.size = p at *
  simp only []
  cases hb : okT k n d with
  | false =>
    go_wp2
    go_ret
    exact ⟨by simp [hb], FY.out.1⟩
  | true =>
    have y := (three FY.out.2.2.2.2).1
    obtain ⟨y0, y1, y2⟩ := y
    have C2 : Hid _ := implTyOkT d' k' n' a' l' c' u FY.out.2.2.1
    go_wp2_with fail
    refine Calls.mono C2.out ?_
    rintro e u2 ⟨rfl, hg⟩
    obtain ⟨g0, h, h', b1, b2⟩ := FY.out
    have FX : Hid (w.grownBy u2 none ∧ SlF u2 a l d ∧ SlF u2 a' l' d' ∧ _ = some _ ∧ _ = some _) := ⟨grown_trans g0 hg, h.none hg, h'.none hg, (hg.block _ (lt_of_block b1) (by simp)).trans b1, (hg.block _ (lt_of_block b2) (by simp)).trans b2⟩
    clear FY hg C2 g0 h h' b1 b2 y0 y1 y2
    simp only []
    cases hb2 : okT k' n' d' with
    | false =>
      go_wp2
      go_ret
      exact ⟨by simp [hb2], FX.out.1⟩
    | true =>
      obtain ⟨y0, y1, y2⟩ := (three FX.out.2.2.2.2).1
      obtain ⟨x0, x1, x2⟩ := (three FX.out.2.2.2.1).1
      have C3 : Hid _ := sames (d.size + 1) d d' k n k' n' a a' l c l' c' u2 (Nat.lt_succ_self _) FX.out.2.1 FX.out.2.2.1
      go_wp2_with fail
      refine Calls.mono C3.out ?_
      rintro e u3 ⟨rfl, hg⟩
      have G : Hid (w.grownBy u3 none) := grown_trans FX.out.1 hg
      clear FX hg C3 x0 x1 x2 y0 y1 y2
      simp only []
      go_wp2
      go_ret
      exact ⟨by simp [hb, hb2], G.out⟩
end Go.Proofs.YtjchjdcaampghaaDoor.By
