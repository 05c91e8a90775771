/-
  Whether an instruction is one: the specification's by its contract. No statement is proved here.
-/
import Derived.Test.YtpdkgmagjhibkaaGreatDoorIDAlso
namespace Go.Proofs.YtpdkgmagjhibkaaGreatDoor.By
open Go.RowKit
set_option linter.unusedVariables false
set_option linter.unusedSimpArgs false

set_option maxRecDepth 8000 in
set_option maxHeartbeats 8000000 in
theorem specInsT (x : RIns) (a1 : Option Addr) (l1 c1 : Nat) (a2 : Option Addr) (l2 c2 : Nat) (w : World) (h : RdIns w x a1 l1 a2 l2) :
    Calls Tryz.prog 44 #[.agg #[.int .i64 x.op, .int .i64 x.a, .int .i64 x.b, .slice a1 l1 c1, .slice a2 l2 c2]] w fun e u => e = .returned (.bool (specIns x)) ∧ w.grownBy u none := by
  have g0 := World.grownBy_alloc w (.cells #[.int .i64 x.op, .int .i64 x.a, .int .i64 x.b, .slice a1 l1 c1, .slice a2 l2 c2] 65) none
  have b0 := heap_alloc_new w (.cells #[.int .i64 x.op, .int .i64 x.a, .int .i64 x.b, .slice a1 l1 c1, .slice a2 l2 c2] 65)
  obtain ⟨⟨y0, y1, y2, y3, y4⟩, -⟩ := blk5 b0
  have G0 : Hid (w.grownBy (w.alloc (.cells #[.int .i64 x.op, .int .i64 x.a, .int .i64 x.b, .slice a1 l1 c1, .slice a2 l2 c2] 65)) none) := g0
  have HLT : Hid (RdB (w.alloc (.cells #[.int .i64 x.op, .int .i64 x.a, .int .i64 x.b, .slice a1 l1 c1, .slice a2 l2 c2] 65)) a1 l1 x.lit) := h.1.none g0
  have HL2 : Hid (x.tos.length = l2) := h.2.1.1
  have hl1 := h.1.1.1
  have hl2 := h.2.1.1
  have hm1 := h.1.2.2
  have hm2 := h.2.2
  have TT : Hid True := trivial
  have HCS : Hid ((l2 = 0 ∧ x.tos = []) ∨ ∃ b o, a2 = some ⟨b, o, none⟩ ∧ DrI (w.alloc (.cells #[.int .i64 x.op, .int .i64 x.a, .int .i64 x.b, .slice a1 l1 c1, .slice a2 l2 c2] 65)) b o x.tos ∧ 0 < l2) := by
    show _ ∨ _
    by_cases h0 : l2 = 0
    · exact .inl ⟨h0, List.eq_nil_of_length_eq_zero (by omega)⟩
    · rcases (h.2.none g0).1.2 with h2 | ⟨b, o, e, h2⟩
      · exact absurd h2 h0
      · exact .inr ⟨b, o, e, fun i hi => h2 i (by omega), by omega⟩
  have HP : Hid _ := l8partsT x.op (w.alloc (.cells #[.int .i64 x.op, .int .i64 x.a, .int .i64 x.b, .slice a1 l1 c1, .slice a2 l2 c2] 65))
  have HSI : Hid (specIns x = (opOk x.op && (if x.op = 1 then wholeV x.a else !cA x.a (partV x.op)) && !c9 x.b l1 l2 (partV x.op) && !x.tos.any noNum && litV x.lit)) := by show _ = _; unfold specIns; rw [hl1, hl2]
  have HWH : Hid _ := l5intOkT x.a (w.alloc (.cells #[.int .i64 x.op, .int .i64 x.a, .int .i64 x.b, .slice a1 l1 c1, .slice a2 l2 c2] 65))
  clear h g0 b0 hl1 hl2
  obtain ⟨op, a, b, lit, tos⟩ := x
  simp only [] at *
  go_enter Tryz.func44, Tryz.ntmps44
  go_upto_region 1 with fail
  generalize w.alloc (.cells #[.int .i64 op, .int .i64 a, .int .i64 b, .slice a1 l1 c1, .slice a2 l2 c2] 65) = w0 at *
  generalize w.heap.size = p0 at *
  by_cases h1 : op < 0
  · have E : Hid (specIns ⟨op, a, b, lit, tos⟩ = false) := by
      show _ = _
      have : opOk op = false := by simp [opOk]; omega
      rw [HSI.out, this]; rfl
    go_wp2
    go_ret
    exact ⟨by rw [E.out]; rfl, G0.out⟩
  by_cases h2 : op > 31
  · have E : Hid (specIns ⟨op, a, b, lit, tos⟩ = false) := by
      show _ = _
      have : opOk op = false := by simp [opOk]; omega
      rw [HSI.out, this]; rfl
    go_wp2
    go_ret
    exact ⟨by rw [E.out]; rfl, G0.out⟩
  have HO : Hid (opOk op = true) := by show _ = _; simp [opOk]; omega
  go_wp2_with fail
  refine Calls.mono HP.out ?_
  rintro e u ⟨rfl, hx⟩
  obtain rfl : w0 = u := hx.symm
  clear HP
  have HSJ : Hid (specIns ⟨op, a, b, lit, tos⟩ = ((if op = 1 then wholeV a else !cA a (partV op)) && !c9 b l1 l2 (partV op) && !tos.any noNum && litV lit)) := by show _ = _; rw [HSI.out, HO.out, Bool.true_and]
  clear HSI HO
  simp only []
  generalize hk : partV op = k at *
  clear hk
  by_cases ho : op = 1
  · subst ho
    go_wp2_with fail
    refine Calls.mono HWH.out ?_
    rintro e u' ⟨rfl, hx⟩
    obtain rfl : w0 = u' := hx.symm
    clear HWH
    simp only []
    cases hw : wholeV a with
    | false =>
      have E : Hid (specIns ⟨1, a, b, lit, tos⟩ = false) := by show _ = _; rw [HSJ.out]; simp [hw]
      go_wp2
      go_ret
      exact ⟨by rw [E.out]; rfl, G0.out⟩
    | true =>
      have EA1 : Hid ((c9 b l1 l2 k = true → specIns ⟨1, a, b, lit, tos⟩ = false) ∧ (c9 b l1 l2 k = false → specIns ⟨1, a, b, lit, tos⟩ = (!tos.any noNum && litV lit))) := by
        refine ⟨fun h => ?_, fun h => ?_⟩ <;> (rw [HSJ.out]; simp [hw, h])
      clear HSJ hw
      go_upto_region 9 with fail
      go_cut [91] (fun s wx => s = .bool (c9 b l1 l2 k) ∧ wx = w0)
      case first => as_aux_lemma =>
        by_cases hb0 : b < 0
        · skip
          go_wp2
          go_meet
          case rel => exact ⟨by rw [c9]; simp [hb0], rfl⟩
        by_cases hb1 : b > 2147483647
        · have hb1' : 2147483647 < b := hb1
          go_wp2
          go_meet
          case rel => exact ⟨by rw [c9]; simp [hb1'], rfl⟩
        have hb0' : 0 ≤ b := by omega
        have hb1' : b ≤ 2147483647 := by omega
        by_cases hbz : b = 0
        · subst hbz
          by_cases hz : 0 < l1
          · have hz' : (l1 : Int) > 0 := by omega
            by_cases h4 : k = 4
            · subst h4
              by_cases h20 : 20 < l1
              · have h20' : (l1 : Int) > 20 := by omega
                go_wp2
                go_meet
                case rel => exact ⟨by rw [c9]; simp [Bool.not_true, h20], rfl⟩
              · have h20' : ¬ (l1 : Int) > 20 := by omega
                have hl20 : l1 ≤ 20 := by omega
                by_cases h5 : 5 < l2
                · have h5' : (l2 : Int) > 5 := by omega
                  go_wp2
                  go_meet
                  case rel => exact ⟨by simp [c9, h5], rfl⟩
                · have h5' : ¬ (l2 : Int) > 5 := by omega
                  have hl5 : l2 ≤ 5 := by omega
                  by_cases h0 : 0 < l2
                  · have h0' : (l2 : Int) > 0 := by omega
                    go_wp2
                    go_meet
                    case rel => exact ⟨by rw [c9]; simp [Bool.not_true, h20, hl20, h5, h0, hl5], rfl⟩
                  · have h0' : ¬ (l2 : Int) > 0 := by omega
                    go_wp2
                    go_meet
                    case rel => exact ⟨by rw [c9]; simp [Bool.not_true, h20, hl20, h5, h0, hl5], rfl⟩
            · have k4 : (k != 4) = true := by simpa using h4
              go_wp2
              go_meet
              case rel => exact ⟨by rw [c9]; simp [Bool.not_true, hz, h4], rfl⟩
          · have hz' : ¬ (l1 : Int) > 0 := by omega
            have h20' : ¬ (l1 : Int) > 20 := by omega
            have h20 : ¬ 20 < l1 := by omega
            by_cases h5 : 5 < l2
            · have h5' : (l2 : Int) > 5 := by omega
              go_wp2
              go_meet
              case rel => exact ⟨by simp [c9, h5], rfl⟩
            · have h5' : ¬ (l2 : Int) > 5 := by omega
              have hl5 : l2 ≤ 5 := by omega
              by_cases h0 : 0 < l2
              · have h0' : (l2 : Int) > 0 := by omega
                by_cases h3 : k = 3
                · subst h3
                  go_wp2
                  go_meet
                  case rel => exact ⟨by rw [c9]; simp [Bool.not_true, hz, h20, h5, h0, hl5], rfl⟩
                · have k3 : (k == 3) = false := by simpa using h3
                  go_wp2
                  go_meet
                  case rel => exact ⟨by rw [c9]; simp [Bool.not_true, hz, h20, h3, h5, h0, hl5], rfl⟩
              · have h0' : ¬ (l2 : Int) > 0 := by omega
                by_cases h3 : k = 3
                · subst h3
                  go_wp2
                  go_meet
                  case rel => exact ⟨by rw [c9]; simp [Bool.not_true, hz, h20, h5, h0, hl5], rfl⟩
                · have k3 : (k == 3) = false := by simpa using h3
                  go_wp2
                  go_meet
                  case rel => exact ⟨by rw [c9]; simp [Bool.not_true, hz, h20, h3, h5, h0, hl5], rfl⟩
        · have hbn : (b != 0) = true := by simpa using hbz
          by_cases h2 : k = 2
          · subst h2
            by_cases hz : 0 < l1
            · have hz' : (l1 : Int) > 0 := by omega
              go_wp2
              go_meet
              case rel => exact ⟨by rw [c9]; simp [hb0', hb1', hz], rfl⟩
            · have hz' : ¬ (l1 : Int) > 0 := by omega
              have h20' : ¬ (l1 : Int) > 20 := by omega
              have h20 : ¬ 20 < l1 := by omega
              by_cases h5 : 5 < l2
              · have h5' : (l2 : Int) > 5 := by omega
                go_wp2
                go_meet
                case rel => exact ⟨by simp [c9, h5], rfl⟩
              · have h5' : ¬ (l2 : Int) > 5 := by omega
                have hl5 : l2 ≤ 5 := by omega
                by_cases h0 : 0 < l2
                · have h0' : (l2 : Int) > 0 := by omega
                  go_wp2
                  go_meet
                  case rel => exact ⟨by rw [c9]; simp [hb0', hb1', hz, h20, h5, h0, hl5], rfl⟩
                · have h0' : ¬ (l2 : Int) > 0 := by omega
                  go_wp2
                  go_meet
                  case rel => exact ⟨by rw [c9]; simp [hb0', hb1', hz, h20, h5, h0, hl5], rfl⟩
          · have k2 : (k != 2) = true := by simpa using h2
            go_wp2
            go_meet
            case rel => exact ⟨by rw [c9]; simp [hbz, h2], rfl⟩
      case rest =>
        obtain ⟨rfl, hx⟩ := hcut
        obtain rfl : w0 = wc := hx.symm
        cases hc9 : c9 b l1 l2 k with
        | true =>
          have E : Hid (specIns ⟨1, a, b, lit, tos⟩ = false) := EA1.out.1 hc9
          go_wp2
          go_ret
          exact ⟨by rw [E.out]; rfl, G0.out⟩
        | false =>
          have EB : Hid (specIns ⟨1, a, b, lit, tos⟩ = (!tos.any noNum && litV lit)) := EA1.out.2 hc9
          clear EA1 hc9
          have CL : Hid _ := TT.out
          rcases HCS.out with ⟨rfl, ht⟩ | ⟨bb, oo, rfl, hin, hpos⟩
          · have CC : Hid _ := l5litT a1 l1 c1 lit w0 HLT.out
            have ES : Hid (specIns ⟨1, a, b, lit, tos⟩ = litV lit) := by show _ = _; rw [EB.out, ht]; simp
            go_wp2_with fail
            refine wp_loop_rounds 1 ?_
            rw [rounds_succ]
            go_wp2_with fail
            refine Calls.mono CC.out ?_
            rintro e u ⟨rfl, hg⟩
            have G9 : Hid (w.grownBy u none) := grown_trans G0.out hg
            clear CC hg
            simp only []
            go_wp2
            go_ret
            exact ⟨by rw [ES.out]; rfl, G9.out⟩
          have IN : Hid (DrI w0 bb oo tos) := hin
          clear hin
          go_wp2_with fail
          go_loopw [4] (fun i wr => ∃ (j : Nat) (R : List Int), j ≤ l2 ∧ i = .int .i64 j ∧ R.length + j = l2 ∧ wr = w0 ∧ Hid (DrI w0 bb (oo + j) R ∧ tos.any noNum = R.any noNum)) (fun i _ => l2 - (intOf i).toNat)
          case atStart => exact ⟨0, tos, Nat.zero_le _, rfl, by have := HL2.out; omega, rfl, by simpa using IN.out, rfl⟩
          case round =>
            obtain ⟨j, R, hj, rfl, hRl, hx, HR⟩ := hrel
            obtain rfl : w0 = wr := hx.symm
            by_cases hlt : j < l2
            · obtain ⟨z, R', rfl⟩ : ∃ x R', R = x :: R' := by
                cases R with
                | nil => simp at hRl; omega
                | cons x R' => exact ⟨x, R', rfl⟩
              obtain ⟨hR, hv⟩ := HR.out
              obtain ⟨k0, hT⟩ := hR.tl
              rw [show oo + j + 1 = oo + (j + 1) by omega] at hT
              simp only [List.any_cons] at hv
              simp only [List.length_cons] at hRl
              have FX : Hid (DrI w0 bb (oo + (j + 1)) R' ∧ tos.any noNum = (noNum z || R'.any noNum)) := ⟨hT, hv⟩
              clear hR hT hv HR IN
              have hji : (j : Int) < (l2 : Int) := by omega
              by_cases z0 : z < 0
              · have ES : Hid (specIns ⟨1, a, b, lit, tos⟩ = false) := by
                  show _ = _
                  have : noNum z = true := by simp [noNum, numV]; omega
                  rw [EB.out, FX.out.2, this]; rfl
                go_wp2
                go_ret
                exact ⟨by rw [ES.out]; rfl, G0.out⟩
              by_cases z1 : z > 2147483647
              · have ES : Hid (specIns ⟨1, a, b, lit, tos⟩ = false) := by
                  show _ = _
                  have : noNum z = true := by simp [noNum, numV]; omega
                  rw [EB.out, FX.out.2, this]; rfl
                go_wp2
                go_ret
                exact ⟨by rw [ES.out]; rfl, G0.out⟩
              have FY : Hid (DrI w0 bb (oo + (j + 1)) R' ∧ tos.any noNum = R'.any noNum) := ⟨FX.out.1, by
                have : noNum z = false := by simp [noNum, numV]; omega
                rw [FX.out.2, this, Bool.false_or]⟩
              clear FX
              go_wp2
              go_roundw
              case rel => exact ⟨j + 1, R', by omega, by go_num, by omega, by first | rfl | trivial, FY⟩
              case measure => simp [intOf]; omega
            · obtain rfl : j = l2 := by omega
              obtain rfl : R = [] := List.eq_nil_of_length_eq_zero (by omega)
              have CC : Hid _ := l5litT a1 l1 c1 lit w0 HLT.out
              have ES : Hid (specIns ⟨1, a, b, lit, tos⟩ = litV lit) := by show _ = _; rw [EB.out, HR.out.2]; simp
              go_wp2_with fail
              refine Calls.mono CC.out ?_
              rintro e u ⟨rfl, hg⟩
              have G9 : Hid (w.grownBy u none) := grown_trans G0.out hg
              clear CC hg
              simp only []
              go_wp2
              go_ret
              exact ⟨by rw [ES.out]; rfl, G9.out⟩

  · have ho1 : (op == 1) = false := by simpa using ho
    go_upto_region 7 with fail
    go_cut [43] (fun s wx => s = .bool (cA a k) ∧ wx = w0)
    case first => as_aux_lemma =>
      by_cases a0 : a < 0
      · skip
        go_wp2
        go_meet
        case rel => exact ⟨by simp [cA, a0], rfl⟩

      by_cases a1 : a > 2147483647
      · have a1' : 2147483647 < a := a1
        go_wp2
        go_meet
        case rel => exact ⟨by simp [cA, a1'], rfl⟩

      have a1' : ¬ 2147483647 < a := a1
      by_cases az : a = 0
      · subst az
        go_wp2
        go_meet
        case rel => exact ⟨by simp [cA], rfl⟩

      have an : (a != 0) = true := by simpa using az
      by_cases k0 : k = 0
      · subst k0
        go_wp2
        go_meet
        case rel => exact ⟨by simp [cA, a0, a1', az], rfl⟩

      have k0' : (k == 0) = false := by simpa using k0
      by_cases k4 : k = 4
      · subst k4
        go_wp2
        go_meet
        case rel => exact ⟨by simp [cA, a0, a1', az], rfl⟩

      have k4' : (k == 4) = false := by simpa using k4
      go_wp2
      go_meet
      case rel => exact ⟨by simp [cA, a0, a1', az, k0, k4], rfl⟩

    case rest =>
      obtain ⟨rfl, hx⟩ := hcut
      obtain rfl : w0 = wc := hx.symm
      cases hw : cA a k with
      | true =>
        have E : Hid (specIns ⟨op, a, b, lit, tos⟩ = false) := by show _ = _; rw [HSJ.out, if_neg ho, hw]; rfl
        go_wp2
        go_ret
        exact ⟨by rw [E.out]; rfl, G0.out⟩
      | false =>
        have EA2 : Hid ((c9 b l1 l2 k = true → specIns ⟨op, a, b, lit, tos⟩ = false) ∧ (c9 b l1 l2 k = false → specIns ⟨op, a, b, lit, tos⟩ = (!tos.any noNum && litV lit))) := by
          refine ⟨fun h => ?_, fun h => ?_⟩ <;> (rw [HSJ.out, if_neg ho, hw, h]; rfl)
        clear HSJ hw
        go_upto_region 9 with fail
        go_cut [91] (fun s wx => s = .bool (c9 b l1 l2 k) ∧ wx = w0)
        case first => as_aux_lemma =>
          by_cases hb0 : b < 0
          · skip
            go_wp2
            go_meet
            case rel => exact ⟨by rw [c9]; simp [hb0], rfl⟩
          by_cases hb1 : b > 2147483647
          · have hb1' : 2147483647 < b := hb1
            go_wp2
            go_meet
            case rel => exact ⟨by rw [c9]; simp [hb1'], rfl⟩
          have hb0' : 0 ≤ b := by omega
          have hb1' : b ≤ 2147483647 := by omega
          by_cases hbz : b = 0
          · subst hbz
            by_cases hz : 0 < l1
            · have hz' : (l1 : Int) > 0 := by omega
              by_cases h4 : k = 4
              · subst h4
                by_cases h20 : 20 < l1
                · have h20' : (l1 : Int) > 20 := by omega
                  go_wp2
                  go_meet
                  case rel => exact ⟨by rw [c9]; simp [Bool.not_true, h20], rfl⟩
                · have h20' : ¬ (l1 : Int) > 20 := by omega
                  have hl20 : l1 ≤ 20 := by omega
                  by_cases h5 : 5 < l2
                  · have h5' : (l2 : Int) > 5 := by omega
                    go_wp2
                    go_meet
                    case rel => exact ⟨by simp [c9, h5], rfl⟩
                  · have h5' : ¬ (l2 : Int) > 5 := by omega
                    have hl5 : l2 ≤ 5 := by omega
                    by_cases h0 : 0 < l2
                    · have h0' : (l2 : Int) > 0 := by omega
                      go_wp2
                      go_meet
                      case rel => exact ⟨by rw [c9]; simp [Bool.not_true, h20, hl20, h5, h0, hl5], rfl⟩
                    · have h0' : ¬ (l2 : Int) > 0 := by omega
                      go_wp2
                      go_meet
                      case rel => exact ⟨by rw [c9]; simp [Bool.not_true, h20, hl20, h5, h0, hl5], rfl⟩
              · have k4 : (k != 4) = true := by simpa using h4
                go_wp2
                go_meet
                case rel => exact ⟨by rw [c9]; simp [Bool.not_true, hz, h4], rfl⟩
            · have hz' : ¬ (l1 : Int) > 0 := by omega
              have h20' : ¬ (l1 : Int) > 20 := by omega
              have h20 : ¬ 20 < l1 := by omega
              by_cases h5 : 5 < l2
              · have h5' : (l2 : Int) > 5 := by omega
                go_wp2
                go_meet
                case rel => exact ⟨by simp [c9, h5], rfl⟩
              · have h5' : ¬ (l2 : Int) > 5 := by omega
                have hl5 : l2 ≤ 5 := by omega
                by_cases h0 : 0 < l2
                · have h0' : (l2 : Int) > 0 := by omega
                  by_cases h3 : k = 3
                  · subst h3
                    go_wp2
                    go_meet
                    case rel => exact ⟨by rw [c9]; simp [Bool.not_true, hz, h20, h5, h0, hl5], rfl⟩
                  · have k3 : (k == 3) = false := by simpa using h3
                    go_wp2
                    go_meet
                    case rel => exact ⟨by rw [c9]; simp [Bool.not_true, hz, h20, h3, h5, h0, hl5], rfl⟩
                · have h0' : ¬ (l2 : Int) > 0 := by omega
                  by_cases h3 : k = 3
                  · subst h3
                    go_wp2
                    go_meet
                    case rel => exact ⟨by rw [c9]; simp [Bool.not_true, hz, h20, h5, h0, hl5], rfl⟩
                  · have k3 : (k == 3) = false := by simpa using h3
                    go_wp2
                    go_meet
                    case rel => exact ⟨by rw [c9]; simp [Bool.not_true, hz, h20, h3, h5, h0, hl5], rfl⟩
          · have hbn : (b != 0) = true := by simpa using hbz
            by_cases h2 : k = 2
            · subst h2
              by_cases hz : 0 < l1
              · have hz' : (l1 : Int) > 0 := by omega
                go_wp2
                go_meet
                case rel => exact ⟨by rw [c9]; simp [hb0', hb1', hz], rfl⟩
              · have hz' : ¬ (l1 : Int) > 0 := by omega
                have h20' : ¬ (l1 : Int) > 20 := by omega
                have h20 : ¬ 20 < l1 := by omega
                by_cases h5 : 5 < l2
                · have h5' : (l2 : Int) > 5 := by omega
                  go_wp2
                  go_meet
                  case rel => exact ⟨by simp [c9, h5], rfl⟩
                · have h5' : ¬ (l2 : Int) > 5 := by omega
                  have hl5 : l2 ≤ 5 := by omega
                  by_cases h0 : 0 < l2
                  · have h0' : (l2 : Int) > 0 := by omega
                    go_wp2
                    go_meet
                    case rel => exact ⟨by rw [c9]; simp [hb0', hb1', hz, h20, h5, h0, hl5], rfl⟩
                  · have h0' : ¬ (l2 : Int) > 0 := by omega
                    go_wp2
                    go_meet
                    case rel => exact ⟨by rw [c9]; simp [hb0', hb1', hz, h20, h5, h0, hl5], rfl⟩
            · have k2 : (k != 2) = true := by simpa using h2
              go_wp2
              go_meet
              case rel => exact ⟨by rw [c9]; simp [hbz, h2], rfl⟩
        case rest =>
          obtain ⟨rfl, hx⟩ := hcut
          obtain rfl : w0 = wc := hx.symm
          cases hc9 : c9 b l1 l2 k with
          | true =>
            have E : Hid (specIns ⟨op, a, b, lit, tos⟩ = false) := EA2.out.1 hc9
            go_wp2
            go_ret
            exact ⟨by rw [E.out]; rfl, G0.out⟩
          | false =>
            have EB : Hid (specIns ⟨op, a, b, lit, tos⟩ = (!tos.any noNum && litV lit)) := EA2.out.2 hc9
            clear EA2 hc9
            have CL : Hid _ := TT.out
            rcases HCS.out with ⟨rfl, ht⟩ | ⟨bb, oo, rfl, hin, hpos⟩
            · have CC : Hid _ := l5litT a1 l1 c1 lit w0 HLT.out
              have ES : Hid (specIns ⟨op, a, b, lit, tos⟩ = litV lit) := by show _ = _; rw [EB.out, ht]; simp
              go_wp2_with fail
              refine wp_loop_rounds 1 ?_
              rw [rounds_succ]
              go_wp2_with fail
              refine Calls.mono CC.out ?_
              rintro e u ⟨rfl, hg⟩
              have G9 : Hid (w.grownBy u none) := grown_trans G0.out hg
              clear CC hg
              simp only []
              go_wp2
              go_ret
              exact ⟨by rw [ES.out]; rfl, G9.out⟩
            have IN : Hid (DrI w0 bb oo tos) := hin
            clear hin
            go_wp2_with fail
            go_loopw [4] (fun i wr => ∃ (j : Nat) (R : List Int), j ≤ l2 ∧ i = .int .i64 j ∧ R.length + j = l2 ∧ wr = w0 ∧ Hid (DrI w0 bb (oo + j) R ∧ tos.any noNum = R.any noNum)) (fun i _ => l2 - (intOf i).toNat)
            case atStart => exact ⟨0, tos, Nat.zero_le _, rfl, by have := HL2.out; omega, rfl, by simpa using IN.out, rfl⟩
            case round =>
              obtain ⟨j, R, hj, rfl, hRl, hx, HR⟩ := hrel
              obtain rfl : w0 = wr := hx.symm
              by_cases hlt : j < l2
              · obtain ⟨z, R', rfl⟩ : ∃ x R', R = x :: R' := by
                  cases R with
                  | nil => simp at hRl; omega
                  | cons x R' => exact ⟨x, R', rfl⟩
                obtain ⟨hR, hv⟩ := HR.out
                obtain ⟨k0, hT⟩ := hR.tl
                rw [show oo + j + 1 = oo + (j + 1) by omega] at hT
                simp only [List.any_cons] at hv
                simp only [List.length_cons] at hRl
                have FX : Hid (DrI w0 bb (oo + (j + 1)) R' ∧ tos.any noNum = (noNum z || R'.any noNum)) := ⟨hT, hv⟩
                clear hR hT hv HR IN
                have hji : (j : Int) < (l2 : Int) := by omega
                by_cases z0 : z < 0
                · have ES : Hid (specIns ⟨op, a, b, lit, tos⟩ = false) := by
                    show _ = _
                    have : noNum z = true := by simp [noNum, numV]; omega
                    rw [EB.out, FX.out.2, this]; rfl
                  go_wp2
                  go_ret
                  exact ⟨by rw [ES.out]; rfl, G0.out⟩
                by_cases z1 : z > 2147483647
                · have ES : Hid (specIns ⟨op, a, b, lit, tos⟩ = false) := by
                    show _ = _
                    have : noNum z = true := by simp [noNum, numV]; omega
                    rw [EB.out, FX.out.2, this]; rfl
                  go_wp2
                  go_ret
                  exact ⟨by rw [ES.out]; rfl, G0.out⟩
                have FY : Hid (DrI w0 bb (oo + (j + 1)) R' ∧ tos.any noNum = R'.any noNum) := ⟨FX.out.1, by
                  have : noNum z = false := by simp [noNum, numV]; omega
                  rw [FX.out.2, this, Bool.false_or]⟩
                clear FX
                go_wp2
                go_roundw
                case rel => exact ⟨j + 1, R', by omega, by go_num, by omega, by first | rfl | trivial, FY⟩
                case measure => simp [intOf]; omega
              · obtain rfl : j = l2 := by omega
                obtain rfl : R = [] := List.eq_nil_of_length_eq_zero (by omega)
                have CC : Hid _ := l5litT a1 l1 c1 lit w0 HLT.out
                have ES : Hid (specIns ⟨op, a, b, lit, tos⟩ = litV lit) := by show _ = _; rw [EB.out, HR.out.2]; simp
                go_wp2_with fail
                refine Calls.mono CC.out ?_
                rintro e u ⟨rfl, hg⟩
                have G9 : Hid (w.grownBy u none) := grown_trans G0.out hg
                clear CC hg
                simp only []
                go_wp2
                go_ret
                exact ⟨by rw [ES.out]; rfl, G9.out⟩


end Go.Proofs.YtpdkgmagjhibkaaGreatDoor.By
