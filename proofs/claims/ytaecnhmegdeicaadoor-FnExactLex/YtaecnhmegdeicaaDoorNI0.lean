/-
  Literals, whole numbers: the specification's by their contracts. No statement is proved here.
-/
import Derived.Test.YtaecnhmegdeicaaDoorNB0
namespace Go.Proofs.YtaecnhmegdeicaaDoor.By
open Go.RowKit
set_option linter.unusedVariables false
set_option linter.unusedSimpArgs false

theorem l5intOkT (n : Int) (w : World) :
    Calls Tryd.prog 21 #[.int .i64 n] w fun e u => e = .returned (.bool (wholeV n)) ∧ u = w := by
  by_cases h1 : -1073741824 ≤ n
  · by_cases h2 : n ≤ 1073741823
    · go_enter Tryd.func21, Tryd.ntmps21
      go_wp2
      go_ret
      exact ⟨by simp [wholeV, h1, h2], rfl⟩
    · go_enter Tryd.func21, Tryd.ntmps21
      go_wp2
      go_ret
      exact ⟨by simp [wholeV, h1, h2], rfl⟩
  · go_enter Tryd.func21, Tryd.ntmps21
    go_wp2
    go_ret
    exact ⟨by have e : wholeV n = false := by (simp [wholeV]; omega)
              rw [e]; rfl, rfl⟩

set_option maxHeartbeats 2000000 in
theorem l5litT (a : Option Addr) (n c : Nat) (zs : List Int) (w : World) (h : RdB w a n zs) :
    Calls Tryd.prog 12 #[.slice a n c] w fun e u => e = .returned (.bool (litV zs)) ∧ w.grownBy u none := by
  have hl := h.2.2
  have hfl := h.1.1
  by_cases h20 : n ≤ 20
  · have hE : Hid (litV zs = !zs.any noLit) := by show _ = _; unfold litV; rw [hfl]; simp [h20]
    have h20' : ¬ (n : Int) > 20 := by omega
    have hcs : (n = 0 ∧ zs = []) ∨ ∃ b o, a = some ⟨b, o, none⟩ ∧ DrB w b o zs ∧ 0 < n := by
      by_cases h0 : n = 0
      · exact .inl ⟨h0, List.eq_nil_of_length_eq_zero (by omega)⟩
      · rcases h.1.2 with h2 | ⟨b, o, e, h2⟩
        · exact absurd h2 h0
        · exact .inr ⟨b, o, e, fun i hi => h2 i (by omega), by omega⟩
    rcases hcs with ⟨rfl, rfl⟩ | ⟨b, o, rfl, hin, hpos⟩
    · clear h
      go_enter Tryd.func12, Tryd.ntmps12
      go_wp2
      refine wp_loop_rounds 1 ?_
      rw [rounds_succ]
      go_wp2
      go_ret
      exact ⟨by rw [hE.out]; rfl, World.grownBy.refl _ _⟩
    have IN : Hid (DrB w b o zs) := hin
    clear hin h
    go_enter Tryd.func12, Tryd.ntmps12
    go_wp2
    go_loopw [3] (fun i wr => ∃ (j : Nat) (R : List Int), j ≤ n ∧ i = .int .i64 j ∧ R.length + j = n ∧ Hid (w.grownBy wr none ∧ DrB wr b (o + j) R ∧ zs.any noLit = R.any noLit)) (fun i _ => n - (intOf i).toNat)
    case atStart => exact ⟨0, zs, Nat.zero_le _, rfl, by omega, World.grownBy.refl _ _, by simpa using IN.out, rfl⟩
    case round =>
      obtain ⟨j, R, hj, rfl, hRl, HR⟩ := hrel
      by_cases hlt : j < n
      · obtain ⟨z, R', rfl⟩ : ∃ x R', R = x :: R' := by
          cases R with
          | nil => simp at hRl; omega
          | cons x R' => exact ⟨x, R', rfl⟩
        obtain ⟨hg, hR, hv⟩ := HR.out
        obtain ⟨k0, hT⟩ := hR.tl
        rw [show o + j + 1 = o + (j + 1) by omega] at hT
        simp only [List.any_cons] at hv
        simp only [List.length_cons] at hRl
        have FX : Hid (w.grownBy wr none ∧ DrB wr b (o + (j + 1)) R' ∧ zs.any noLit = (noLit z || R'.any noLit)) := ⟨hg, hT, hv⟩
        clear hg hR hv hT HR IN
        cases hb : noLit z with
        | true =>
          have FZ : Hid (litV zs = false ∧ w.grownBy wr none) := ⟨by rw [hE.out, FX.out.2.2, hb]; rfl, FX.out.1⟩
          clear FX hE
          simp only [noLit, Bool.or_eq_true, decide_eq_true_eq] at hb
          by_cases h1 : z < 32
          · go_wp2
            go_ret
            exact ⟨by rw [FZ.out.1]; rfl, FZ.out.2⟩
          by_cases h2 : z > 126
          · go_wp2
            go_ret
            exact ⟨by rw [FZ.out.1]; rfl, FZ.out.2⟩
          by_cases h3 : z = 34
          · subst h3
            go_wp2
            go_ret
            exact ⟨by rw [FZ.out.1]; rfl, FZ.out.2⟩
          · obtain rfl : z = 92 := by omega
            go_wp2
            go_ret
            exact ⟨by rw [FZ.out.1]; rfl, FZ.out.2⟩
        | false =>
          have FZ : Hid (w.grownBy wr none ∧ DrB wr b (o + (j + 1)) R' ∧ zs.any noLit = R'.any noLit) := ⟨FX.out.1, FX.out.2.1, by rw [FX.out.2.2, hb, Bool.false_or]⟩
          clear FX
          simp only [noLit, Bool.or_eq_false_iff, decide_eq_false_iff_not] at hb
          obtain ⟨⟨⟨h1, h2⟩, h3⟩, h4⟩ := hb
          have h2' : ¬ z > 126 := h2
          have h3b : (z == 34) = false := by simpa using h3
          have h4b : (z == 92) = false := by simpa using h4
          go_wp2
          go_roundw
          case rel => exact ⟨j + 1, R', by omega, by go_num, by omega, FZ⟩
          case measure => simp [intOf]; omega
      · obtain rfl : j = n := by omega
        obtain rfl : R = [] := List.eq_nil_of_length_eq_zero (by omega)
        have FZ : Hid (litV zs = true ∧ w.grownBy wr none) := ⟨by rw [hE.out, HR.out.2.2]; rfl, HR.out.1⟩
        clear HR
        go_wp2
        go_ret
        exact ⟨by rw [FZ.out.1]; rfl, FZ.out.2⟩
  · have hE : Hid (litV zs = false) := by show _ = _; unfold litV; rw [hfl]; simp [h20]
    have h20' : (n : Int) > 20 := by omega
    clear h
    go_enter Tryd.func12, Tryd.ntmps12
    go_wp2
    go_ret
    exact ⟨by rw [hE.out]; rfl, World.grownBy.refl _ _⟩

end Go.Proofs.YtaecnhmegdeicaaDoor.By
