/-
  TySay of both sides by their contracts. No statement is proved here.
-/
import Derived.Test.YtjchjdcaampghaaDoorTSi
namespace Go.Proofs.YtjchjdcaampghaaDoor.By
open Go.RowKit
set_option linter.unusedVariables false
set_option linter.unusedSimpArgs false

/-- What TySay answers. -/
def sayV (k n : Int) (d : F) : List Int := if okT k n d = true then sayT k n d else []
theorem sayV_len (k n : Int) (d : F) : (sayV k n d).length ≤ 720 := by
  unfold sayV
  by_cases h : okT k n d = true
  · rw [if_pos h]
    simp only [okT, Bool.and_eq_true, decide_eq_true_eq] at h
    have := sayT_len k n d h.1.1 h.1.2
    omega
  · rw [if_neg h]; simp

set_option maxRecDepth 8000 in
set_option maxHeartbeats 1000000 in
theorem implTySayT (d : F) (k n : Int) (a : Option Addr) (l c : Nat) (w : World) (h : SlF w a l d) (hT : ∀ u, w.grownBy u none → Lib.TabIs Tryd.prog u "internal/strconv.uint64pow10" .u64 Lib.pow10Tab) :
    Calls Tryd.prog 14 #[.agg #[.int .i64 k, .int .i64 n, .slice a l c]] w fun e u => ∃ a' c', e = .returned (.slice a' (sayV k n d).length c') ∧ w.grownBy u none ∧ OwS w.heap.size u a' (sayV k n d).length c' (sayV k n d) := by
  have g0 : w.grownBy (w.alloc (.cells #[.int .i64 k, .int .i64 n, .slice a l c] 25)) none := World.grownBy_alloc _ _ _
  have b0 := heap_alloc_new w (.cells #[.int .i64 k, .int .i64 n, .slice a l c] 25)
  have CC : Hid _ := implTyOkT d k n a l c _ (h.none g0)
  have FX : Hid (w.grownBy _ none ∧ SlF _ a l d ∧ _ = some (Obj.cells #[.int .i64 k, .int .i64 n, .slice a l c] 25)) := ⟨g0, h.none g0, b0⟩
  have hfl := h.1
  clear h g0 b0
  go_enter Tryd.func14, Tryd.ntmps14
  go_wp2_with fail
  refine Calls.mono CC.out ?_
  rintro e u ⟨rfl, hg⟩
  obtain ⟨g0, h, b0⟩ := FX.out
  have FY : Hid (w.grownBy u none ∧ SlF u a l d ∧ _ = some (Obj.cells #[.int .i64 k, .int .i64 n, .slice a l c] 25)) := ⟨grown_trans g0 hg, h.none hg, (hg.block _ (lt_of_block b0) (by simp)).trans b0⟩
  have HTT : TabB u.heap.size u := Lib.tabBelow_of_tabIs (hT u FY.out.1)
  clear FX hg CC g0 h b0
  simp only []
  cases hb : okT k n d with
  | false =>
    have E : Hid (sayV k n d = []) := by show _ = _; unfold sayV; rw [hb]; rfl
    go_wp2
    go_ret
    exact ⟨none, 0, by rw [E.out]; rfl, FY.out.1, by rw [E.out]; exact OwS.nil _ _⟩
  | true =>
    have E : Hid (sayV k n d = sayT k n d) := by show _ = _; unfold sayV; rw [if_pos hb]
    have hb' := hb
    simp only [okT, Bool.and_eq_true, decide_eq_true_eq] at hb'
    have C2 : Hid _ := addTextT u HTT (d.size + 1) d k n a l c (.slice none 0 0) [] u 9 (Nat.lt_succ_self _) FY.out.2.1 (Below.refl _ _) ⟨rfl, .inl ⟨rfl, rfl⟩⟩ (by rw [← hfl]; exact hb'.1.1) hb'.1.2 (by simp; omega)
    obtain ⟨⟨x0, x1, x2⟩, -⟩ := three FY.out.2.2
    clear hb' hb
    go_wp2_with fail
    refine Calls.mono C2.out ?_
    rintro e u2 ⟨v', rfl, hA, hF⟩
    simp only [List.nil_append] at hA
    obtain ⟨-, a', c', rfl, hO⟩ := ownsS hA
    have FIN : Hid (w.grownBy u2 none ∧ OwS w.heap.size u2 a' (sayT k n d).length c' (sayT k n d)) := ⟨grown_trans FY.out.1 (grown_of_belowS hF.below), hO.mono FY.out.1.size⟩
    clear C2 FY hA hF hO x0 x1 x2
    simp only []
    go_wp2
    go_ret
    exact ⟨a', c', by rw [E.out]; rfl, FIN.out.1, by rw [E.out]; exact FIN.out.2⟩
end Go.Proofs.YtjchjdcaampghaaDoor.By
