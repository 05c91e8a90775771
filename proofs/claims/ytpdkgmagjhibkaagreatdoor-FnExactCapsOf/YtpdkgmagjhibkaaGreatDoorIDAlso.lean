/-
  Several texts in one (RB, NI0, ID). No statement is proved here.
-/
import Derived.Test.YtpdkgmagjhibkaaGreatDoorRAAlso
import Derived.Test.YtpdkgmagjhibkaaGreatDoorIOpAlso
import Derived.Test.YtpdkgmagjhibkaaGreatDoorTxtAlso
import Derived.Deep.DeepCutAuto
namespace Go.Proofs.YtpdkgmagjhibkaaGreatDoor.By
open Go.RowKit
set_option linter.unusedVariables false
set_option linter.unusedSimpArgs false

set_option maxRecDepth 8000 in
set_option maxHeartbeats 8000000 in
theorem l7layoutsOkT (xs : List RLayout) (a : Option Addr) (l c : Nat) (w : World) (h : SlLayout w a l xs) :
    Calls Tryz.prog 41 #[.slice a l c] w fun e u => e = .returned (.bool (laysV xs)) ∧ w.grownBy u none := by
  have hl := h.2.1
  have hfl := h.1
  by_cases h20 : 20 < l
  · have h20' : (l : Int) > 20 := by omega
    have E : Hid (laysV xs = false) := by show _ = _; unfold laysV; rw [hfl]; simp; omega
    clear h
    go_enter Tryz.func41, Tryz.ntmps41
    go_wp2
    go_ret
    exact ⟨by rw [E.out]; rfl, World.grownBy.refl _ _⟩
  have h20' : ¬ (l : Int) > 20 := by omega
  have EV : Hid (laysV xs = xs.all (layV l)) := by show _ = _; unfold laysV; rw [hfl]; simp; omega
  rcases h.cases with ⟨rfl, rfl⟩ | ⟨b, o, rfl, hin, hpos⟩
  · clear h
    go_enter Tryz.func41, Tryz.ntmps41
    go_wp2
    refine wp_loop_rounds 1 ?_
    rw [rounds_succ]
    go_wp2
    go_ret
    exact ⟨by rw [EV.out]; rfl, World.grownBy.refl _ _⟩
  have IN : Hid (InLayout w w xs b o) := hin
  clear hin h
  go_enter Tryz.func41, Tryz.ntmps41
  go_wp2
  go_loopw [3] (fun i wr => ∃ (j : Nat) (R : List RLayout), j ≤ l ∧ i = .int .i64 j ∧ R.length + j = l ∧ Hid (w.grownBy wr none ∧ InLayout w w R b (o + j * 1) ∧ laysV xs = R.all (layV l))) (fun i _ => l - (intOf i).toNat)
  case atStart => exact ⟨0, xs, Nat.zero_le _, rfl, by omega, World.grownBy.refl _ _, by simpa using IN.out, EV.out⟩
  case round =>
    obtain ⟨j, R, hj, rfl, hRl, HR⟩ := hrel
    by_cases hlt : j < l
    · obtain ⟨x, R', rfl⟩ : ∃ x R', R = x :: R' := by
        cases R with
        | nil => simp at hRl; omega
        | cons x R' => exact ⟨x, R', rfl⟩
      obtain ⟨hg, ⟨⟨a1, l1, c1, k0, hd⟩, hR2⟩, hv⟩ := HR.out
      have hd' : SlTys w a1 l1 x.cons := hd
      rw [show o + j * 1 + 1 = o + (j + 1) * 1 by omega] at hR2
      simp only [Nat.mul_one] at k0
      have KL : Hid (∀ u, w.grownBy u none → u.cell? ⟨b, o + j, none⟩ = some (.slice a1 l1 c1)) := fun u hu => hu.cell k0 (by simp)
      clear k0
      have k0 := KL.out wr hg
      simp only [List.all_cons] at hv
      simp only [List.length_cons] at hRl
      have hcl := hd'.1
      have hcm := hd'.2.1
      have hji : (j : Int) < (l : Int) := by omega
      have FX : Hid (w.grownBy wr none ∧ InLayout w w R' b (o + (j + 1) * 1) ∧ laysV xs = (layV l x && R'.all (layV l)) ∧ SlTys w a1 l1 x.cons) := ⟨hg, hR2, hv, hd'⟩
      clear hg hd hd' hR2 hv HR IN EV
      by_cases q1 : l1 < 1
      · have E : Hid (laysV xs = false) := by show _ = _; rw [FX.out.2.2.1]; have : layV l x = false := by (unfold layV; rw [hcl]; simp; omega)
                                              rw [this]; rfl
        have q1' : (l1 : Int) < 1 := by omega
        go_wp2
        go_ret
        exact ⟨by rw [E.out]; rfl, FX.out.1⟩
      have q1' : ¬ (l1 : Int) < 1 := by omega
      by_cases q5 : 5 < l1
      · have E : Hid (laysV xs = false) := by show _ = _; rw [FX.out.2.2.1]; have : layV l x = false := by (unfold layV; rw [hcl]; simp; omega)
                                              rw [this]; rfl
        have q5' : (l1 : Int) > 5 := by omega
        go_wp2
        go_ret
        exact ⟨by rw [E.out]; rfl, FX.out.1⟩
      have q5' : ¬ (l1 : Int) > 5 := by omega
      have EL : Hid (layV l x = x.cons.all (conV l)) := by show _ = _; unfold layV; rw [hcl]; have e1 : decide (1 ≤ l1) = true := by simp; omega
                                                           have e2 : decide (l1 ≤ 5) = true := by simp; omega
                                                           rw [e1, e2]; rfl
      obtain ⟨b1, o1, rfl, hin1⟩ : ∃ b1 o1, a1 = some ⟨b1, o1, none⟩ ∧ InTys w w x.cons b1 o1 := by
        rcases FX.out.2.2.2.2.2 with h | h
        · omega
        · exact h
      have I1 : Hid (InTys w w x.cons b1 o1) := hin1
      clear hin1
      go_wp2
      go_loopw [4] (fun i ww => ∃ (m : Nat) (Q : List F), m ≤ l1 ∧ i = .int .i64 m ∧ Q.length + m = l1 ∧ Hid (w.grownBy ww none ∧ InTys w w Q b1 (o1 + m * 1) ∧ layV l x = Q.all (conV l))) (fun i _ => l1 - (intOf i).toNat)
      case atStart => exact ⟨0, x.cons, Nat.zero_le _, rfl, by omega, FX.out.1, by simpa using I1.out, EL.out⟩
      case round =>
        clear k0
        obtain ⟨m, Q, hm, rfl, hQl, HQ⟩ := hrel
        have k0 := KL.out wr HQ.out.1
        by_cases hlt2 : m < l1
        · obtain ⟨y, Q', rfl⟩ : ∃ x R', Q = x :: R' := by
            cases Q with
            | nil => simp at hQl; omega
            | cons x R' => exact ⟨x, R', rfl⟩
          obtain ⟨hg, ⟨⟨a2, l2, c2, z0, hy⟩, hQ2⟩, hv⟩ := HQ.out
          rw [show o1 + m * 1 + 1 = o1 + (m + 1) * 1 by omega] at hQ2
          simp only [Nat.mul_one] at z0
          have KC : Hid (∀ u, w.grownBy u none → u.cell? ⟨b1, o1 + m, none⟩ = some (.slice a2 l2 c2)) := fun u hu => hu.cell z0 (by simp)
          clear z0
          have z0 := KC.out wr hg
          simp only [List.all_cons] at hv
          simp only [List.length_cons] at hQl
          have hyl := hy.1
          have hym := hy.2.1
          have hmi : (m : Int) < (l1 : Int) := by omega
          by_cases q3 : 3 < l2
          · have E : Hid (laysV xs = false ∧ w.grownBy wr none) := ⟨by rw [FX.out.2.2.1, hv]; have : conV l y = false := by (unfold conV; rw [hyl]; simp; omega)
                                                                       rw [this]; rfl, hg⟩
            have q3' : (l2 : Int) > 3 := by omega
            clear hg hy hQ2 hv HQ
            go_wp2
            go_ret
            exact ⟨by rw [E.out.1]; rfl, E.out.2⟩
          have q3' : ¬ (l2 : Int) > 3 := by omega
          have EC : Hid (conV l y = lwF l y) := by show _ = _; unfold conV; rw [hyl]; have e1 : decide (l2 ≤ 3) = true := by simp; omega
                                                   rw [e1]; rfl
          have FQ : Hid (w.grownBy wr none ∧ InTys w w Q' b1 (o1 + (m + 1) * 1) ∧ layV l x = (conV l y && Q'.all (conV l)) ∧ SlF w a2 l2 y) := ⟨hg, hQ2, hv, hy⟩
          clear hg hy hQ2 hv HQ
          have IL : Hid (∀ b2 o2, a2 = some ⟨b2, o2, none⟩ → 0 < l2 → InF w y b2 o2) := fun b2 o2 e hp => by
            rcases FQ.out.2.2.2.cases with ⟨h, _⟩ | ⟨b', o', h, hi, _⟩
            · omega
            · rw [e] at h; injection h with h; injection h with h1 h2; subst h1 h2; exact hi
          have IA : Hid (0 < l2 → ∃ b2 o2, a2 = some ⟨b2, o2, none⟩) := fun hp => by
            rcases FQ.out.2.2.2.cases with ⟨h, _⟩ | ⟨b', o', h, hi, _⟩
            · omega
            · exact ⟨b', o', h⟩
          go_wp2
          go_loopw [5] (fun i ww => ∃ (t : Nat) (S : F), t ≤ l2 ∧ i = .int .i64 t ∧ S.len + t = l2 ∧ Hid (w.grownBy ww none ∧ (∀ b2 o2, a2 = some ⟨b2, o2, none⟩ → 0 < l2 → InF w S b2 (o2 + t * 3)) ∧ conV l y = lwF l S)) (fun i _ => l2 - (intOf i).toNat)
          case atStart => exact ⟨0, y, Nat.zero_le _, rfl, by omega, FQ.out.1, fun b2 o2 e hp => by simpa using IL.out b2 o2 e hp, EC.out⟩
          case round =>
            clear k0 z0
            obtain ⟨t, S, ht, rfl, hSl, HT⟩ := hrel
            have k0 := KL.out wr HT.out.1
            have z0 := KC.out wr HT.out.1
            by_cases hlt3 : t < l2
            · obtain ⟨b2, o2, rfl⟩ := IA.out (by omega)
              obtain ⟨q9, hq9⟩ : ∃ q9, S.len = q9 + 1 := ⟨S.len - 1, by omega⟩
              obtain ⟨kk, nn, d', S', rfl, hS'⟩ := F.cons_of_len hq9
              obtain ⟨hg, hS, hv⟩ := HT.out
              obtain ⟨a', l', c', c0, c1', c2', hd, hS2⟩ := (hS b2 o2 rfl (by omega)).out
              rw [show o2 + t * 3 + 3 = o2 + (t + 1) * 3 by omega] at hS2
              have KK : Hid (∀ u, w.grownBy u none → u.cell? ⟨b2, o2 + t * 3, none⟩ = some (.int .i64 kk) ∧ u.cell? ⟨b2, o2 + t * 3 + 1, none⟩ = some (.int .i64 nn) ∧ u.cell? ⟨b2, o2 + t * 3 + 2, none⟩ = some (.slice a' l' c')) := fun u hu => ⟨hu.cell c0 (by simp), hu.cell c1' (by simp), hu.cell c2' (by simp)⟩
              clear c0 c1' c2'
              obtain ⟨c0, c1', c2'⟩ := KK.out wr hg
              have hti : (t : Int) < (l2 : Int) := by omega
              have CC : Hid _ := specTyOkT d' kk nn a' l' c' wr (hd.none hg)
              have FT : Hid (w.grownBy wr none ∧ (∀ b2' o2', some (⟨b2, o2, none⟩ : Addr) = some ⟨b2', o2', none⟩ → 0 < l2 → InF w S' b2' (o2' + (t + 1) * 3)) ∧ conV l y = (lwT l kk nn d' && lwF l S') ∧ SlF w a' l' d') := ⟨hg, fun b' o' e _ => by injection e with e; injection e with h1 h2; subst h1 h2; exact hS2, hv, hd⟩
              clear hg hS hv hd hS2 HT
              go_wp2_with fail
              refine Calls.mono CC.out ?_
              rintro e v ⟨he, hgv⟩
              subst he
              have FY : Hid (w.grownBy v none) := grown_trans FT.out.1 hgv
              clear CC hgv c0 c1' c2' k0 z0
              simp only []
              have k0 := KL.out v FY.out
              have z0 := KC.out v FY.out
              obtain ⟨c0, c1', c2'⟩ := KK.out v FY.out
              cases hok : okT kk nn d' with
              | false =>
                have E2 : Hid (laysV xs = false) := by show _ = _; rw [FX.out.2.2.1, FQ.out.2.2.1, FT.out.2.2.1]; unfold lwT; rw [hok]; rfl
                clear hok
                go_wp2
                go_ret
                exact ⟨by rw [E2.out]; rfl, FY.out⟩
              | true =>
                have EK : Hid (lwT l kk nn d' = lowT l kk nn d') := by show _ = _; unfold lwT; rw [hok]; rfl
                have C2 : Hid _ := l7closedT l (d'.size + 1) d' kk nn a' l' c' v (Nat.lt_succ_self _) (FT.out.2.2.2.none FY.out)
                clear hok
                go_wp2_with fail
                refine Calls.mono C2.out ?_
                rintro e v2 ⟨he, hgv⟩
                subst he
                have FZ : Hid (w.grownBy v2 none) := grown_trans FY.out hgv
                clear C2 hgv c0 c1' c2' k0 z0
                simp only []
                cases hq : lowT l kk nn d' with
                | false =>
                  have E2 : Hid (laysV xs = false) := by show _ = _; rw [FX.out.2.2.1, FQ.out.2.2.1, FT.out.2.2.1, EK.out, hq]; rfl
                  clear hq
                  go_wp2
                  go_ret
                  exact ⟨by rw [E2.out]; rfl, FZ.out⟩
                | true =>
                  have E2 : Hid (conV l y = lwF l S') := by show _ = _; rw [FT.out.2.2.1, EK.out, hq]; rfl
                  clear hq
                  go_wp2
                  go_roundw
                  case rel => exact ⟨t + 1, S', by omega, by go_num, by simp only [F.len] at hSl; omega, FZ.out, FT.out.2.1, E2.out⟩
                  case measure => simp [intOf]; omega
            · obtain rfl : t = l2 := by omega
              obtain rfl : S = .nil := F.nil_of_len (by omega)
              have FW : Hid (w.grownBy wr none ∧ InTys w w Q' b1 (o1 + (m + 1) * 1) ∧ layV l x = Q'.all (conV l)) := ⟨HT.out.1, FQ.out.2.1, by rw [FQ.out.2.2.1, HT.out.2.2]; rfl⟩
              clear HT FQ
              go_wp2
              go_roundw
              case rel => exact ⟨m + 1, Q', by omega, by go_num, by omega, FW⟩
              case measure => simp [intOf]; omega
        · obtain rfl : m = l1 := by omega
          obtain rfl : Q = [] := List.eq_nil_of_length_eq_zero (by omega)
          have FZ : Hid (w.grownBy wr none ∧ InLayout w w R' b (o + (j + 1) * 1) ∧ laysV xs = R'.all (layV l)) := ⟨HQ.out.1, FX.out.2.1, by rw [FX.out.2.2.1, HQ.out.2.2]; rfl⟩
          clear HQ FX
          go_wp2
          go_roundw
          case rel => exact ⟨j + 1, R', by omega, by go_num, by omega, FZ⟩
          case measure => simp [intOf]; omega
    · obtain rfl : j = l := by omega
      obtain rfl : R = [] := List.eq_nil_of_length_eq_zero (by omega)
      have E2 : Hid (laysV xs = true ∧ w.grownBy wr none) := ⟨HR.out.2.2, HR.out.1⟩
      clear HR IN
      go_wp2
      go_ret
      exact ⟨by rw [E2.out.1]; rfl, E2.out.2⟩
end Go.Proofs.YtpdkgmagjhibkaaGreatDoor.By

namespace Go.Proofs.YtpdkgmagjhibkaaGreatDoor.By
open Go.RowKit
set_option linter.unusedVariables false
set_option linter.unusedSimpArgs false

theorem l5intOkT (n : Int) (w : World) :
    Calls Tryz.prog 73 #[.int .i64 n] w fun e u => e = .returned (.bool (wholeV n)) ∧ u = w := by
  by_cases h1 : -1073741824 ≤ n
  · by_cases h2 : n ≤ 1073741823
    · go_enter Tryz.func73, Tryz.ntmps73
      go_wp2
      go_ret
      exact ⟨by simp [wholeV, h1, h2], rfl⟩
    · go_enter Tryz.func73, Tryz.ntmps73
      go_wp2
      go_ret
      exact ⟨by simp [wholeV, h1, h2], rfl⟩
  · go_enter Tryz.func73, Tryz.ntmps73
    go_wp2
    go_ret
    exact ⟨by have e : wholeV n = false := by (simp [wholeV]; omega)
              rw [e]; rfl, rfl⟩

set_option maxHeartbeats 2000000 in
theorem l5litT (a : Option Addr) (n c : Nat) (zs : List Int) (w : World) (h : RdB w a n zs) :
    Calls Tryz.prog 74 #[.slice a n c] w fun e u => e = .returned (.bool (litV zs)) ∧ w.grownBy u none := by
  have hl := h.2.2
  have hfl := h.1.1
  by_cases h20 : n ≤ 20
  · have hE : Hid (litV zs = !zs.any noLit) := by show _ = _; unfold litV; rw [hfl]; simp [h20]
    have h20' : ¬ (n : Int) > 20 := by omega
    have hcs : (n = 0 ∧ zs = []) ∨ ∃ b o, a = some ⟨b, o, none⟩ ∧ DrB w b o zs ∧ 0 < n := by
      by_cases h0 : n = 0
      · exact .inl ⟨h0, List.eq_nil_of_length_eq_zero (by omega)⟩
      · rcases h.1.2 with h2 | ⟨b, o, e, h2⟩
        · exact absurd h2 h0
        · exact .inr ⟨b, o, e, fun i hi => h2 i (by omega), by omega⟩
    rcases hcs with ⟨rfl, rfl⟩ | ⟨b, o, rfl, hin, hpos⟩
    · clear h
      go_enter Tryz.func74, Tryz.ntmps74
      go_wp2
      refine wp_loop_rounds 1 ?_
      rw [rounds_succ]
      go_wp2
      go_ret
      exact ⟨by rw [hE.out]; rfl, World.grownBy.refl _ _⟩
    have IN : Hid (DrB w b o zs) := hin
    clear hin h
    go_enter Tryz.func74, Tryz.ntmps74
    go_wp2
    go_loopw [3] (fun i wr => ∃ (j : Nat) (R : List Int), j ≤ n ∧ i = .int .i64 j ∧ R.length + j = n ∧ Hid (w.grownBy wr none ∧ DrB wr b (o + j) R ∧ zs.any noLit = R.any noLit)) (fun i _ => n - (intOf i).toNat)
    case atStart => exact ⟨0, zs, Nat.zero_le _, rfl, by omega, World.grownBy.refl _ _, by simpa using IN.out, rfl⟩
    case round =>
      obtain ⟨j, R, hj, rfl, hRl, HR⟩ := hrel
      by_cases hlt : j < n
      · obtain ⟨z, R', rfl⟩ : ∃ x R', R = x :: R' := by
          cases R with
          | nil => simp at hRl; omega
          | cons x R' => exact ⟨x, R', rfl⟩
        obtain ⟨hg, hR, hv⟩ := HR.out
        obtain ⟨k0, hT⟩ := hR.tl
        rw [show o + j + 1 = o + (j + 1) by omega] at hT
        simp only [List.any_cons] at hv
        simp only [List.length_cons] at hRl
        have FX : Hid (w.grownBy wr none ∧ DrB wr b (o + (j + 1)) R' ∧ zs.any noLit = (noLit z || R'.any noLit)) := ⟨hg, hT, hv⟩
        clear hg hR hv hT HR IN
        cases hb : noLit z with
        | true =>
          have FZ : Hid (litV zs = false ∧ w.grownBy wr none) := ⟨by rw [hE.out, FX.out.2.2, hb]; rfl, FX.out.1⟩
          clear FX hE
          simp only [noLit, Bool.or_eq_true, decide_eq_true_eq] at hb
          by_cases h1 : z < 32
          · go_wp2
            go_ret
            exact ⟨by rw [FZ.out.1]; rfl, FZ.out.2⟩
          by_cases h2 : z > 126
          · go_wp2
            go_ret
            exact ⟨by rw [FZ.out.1]; rfl, FZ.out.2⟩
          by_cases h3 : z = 34
          · subst h3
            go_wp2
            go_ret
            exact ⟨by rw [FZ.out.1]; rfl, FZ.out.2⟩
          · obtain rfl : z = 92 := by omega
            go_wp2
            go_ret
            exact ⟨by rw [FZ.out.1]; rfl, FZ.out.2⟩
        | false =>
          have FZ : Hid (w.grownBy wr none ∧ DrB wr b (o + (j + 1)) R' ∧ zs.any noLit = R'.any noLit) := ⟨FX.out.1, FX.out.2.1, by rw [FX.out.2.2, hb, Bool.false_or]⟩
          clear FX
          simp only [noLit, Bool.or_eq_false_iff, decide_eq_false_iff_not] at hb
          obtain ⟨⟨⟨h1, h2⟩, h3⟩, h4⟩ := hb
          have h2' : ¬ z > 126 := h2
          have h3b : (z == 34) = false := by simpa using h3
          have h4b : (z == 92) = false := by simpa using h4
          go_wp2
          go_roundw
          case rel => exact ⟨j + 1, R', by omega, by go_num, by omega, FZ⟩
          case measure => simp [intOf]; omega
      · obtain rfl : j = n := by omega
        obtain rfl : R = [] := List.eq_nil_of_length_eq_zero (by omega)
        have FZ : Hid (litV zs = true ∧ w.grownBy wr none) := ⟨by rw [hE.out, HR.out.2.2]; rfl, HR.out.1⟩
        clear HR
        go_wp2
        go_ret
        exact ⟨by rw [FZ.out.1]; rfl, FZ.out.2⟩
  · have hE : Hid (litV zs = false) := by show _ = _; unfold litV; rw [hfl]; simp [h20]
    have h20' : (n : Int) > 20 := by omega
    clear h
    go_enter Tryz.func74, Tryz.ntmps74
    go_wp2
    go_ret
    exact ⟨by rw [hE.out]; rfl, World.grownBy.refl _ _⟩

end Go.Proofs.YtpdkgmagjhibkaaGreatDoor.By

namespace Go.Proofs.YtpdkgmagjhibkaaGreatDoor.By
open Go.RowKit
set_option linter.unusedVariables false
set_option linter.unusedSimpArgs false

def partV (op : Int) : Int := if op = 22 then 3 else if op = 21 then 2 else if op = 2 then 4 else if hasA op then 1 else 0
set_option maxHeartbeats 1000000 in
theorem l8partsT (op : Int) (w : World) :
    Calls Tryz.prog 72 #[.int .i64 op] w fun e u => e = .returned (.int .i64 (partV op)) ∧ u = w := by
  by_cases h1 : op = 1
  · subst h1
    go_enter Tryz.func72, Tryz.ntmps72
    go_wp2
    go_ret
    exact ⟨rfl, rfl⟩
  have k1 : (op == 1) = false := by simpa using h1
  by_cases h4 : op = 4
  · subst h4
    go_enter Tryz.func72, Tryz.ntmps72
    go_wp2
    go_ret
    exact ⟨rfl, rfl⟩
  have k4 : (op == 4) = false := by simpa using h4
  by_cases h6 : op = 6
  · subst h6
    go_enter Tryz.func72, Tryz.ntmps72
    go_wp2
    go_ret
    exact ⟨rfl, rfl⟩
  have k6 : (op == 6) = false := by simpa using h6
  by_cases h7 : op = 7
  · subst h7
    go_enter Tryz.func72, Tryz.ntmps72
    go_wp2
    go_ret
    exact ⟨rfl, rfl⟩
  have k7 : (op == 7) = false := by simpa using h7
  by_cases h23 : op = 23
  · subst h23
    go_enter Tryz.func72, Tryz.ntmps72
    go_wp2
    go_ret
    exact ⟨rfl, rfl⟩
  have k23 : (op == 23) = false := by simpa using h23
  by_cases h26 : op = 26
  · subst h26
    go_enter Tryz.func72, Tryz.ntmps72
    go_wp2
    go_ret
    exact ⟨rfl, rfl⟩
  have k26 : (op == 26) = false := by simpa using h26
  by_cases h27 : op = 27
  · subst h27
    go_enter Tryz.func72, Tryz.ntmps72
    go_wp2
    go_ret
    exact ⟨rfl, rfl⟩
  have k27 : (op == 27) = false := by simpa using h27
  by_cases h29 : op = 29
  · subst h29
    go_enter Tryz.func72, Tryz.ntmps72
    go_wp2
    go_ret
    exact ⟨rfl, rfl⟩
  have k29 : (op == 29) = false := by simpa using h29
  by_cases h31 : op = 31
  · subst h31
    go_enter Tryz.func72, Tryz.ntmps72
    go_wp2
    go_ret
    exact ⟨rfl, rfl⟩
  have k31 : (op == 31) = false := by simpa using h31
  by_cases h21 : op = 21
  · subst h21
    go_enter Tryz.func72, Tryz.ntmps72
    go_wp2
    go_ret
    exact ⟨rfl, rfl⟩
  have k21 : (op == 21) = false := by simpa using h21
  by_cases h22 : op = 22
  · subst h22
    go_enter Tryz.func72, Tryz.ntmps72
    go_wp2
    go_ret
    exact ⟨rfl, rfl⟩
  have k22 : (op == 22) = false := by simpa using h22
  by_cases h2 : op = 2
  · subst h2
    go_enter Tryz.func72, Tryz.ntmps72
    go_wp2
    go_ret
    exact ⟨rfl, rfl⟩
  have k2 : (op == 2) = false := by simpa using h2
  have HE : Hid (partV op = 0) := by show _ = _; simp [partV, hasA, h1, h4, h6, h7, h23, h26, h27, h29, h31, h21, h22, h2]
  go_enter Tryz.func72, Tryz.ntmps72
  go_wp2
  go_ret
  exact ⟨by rw [HE.out]; rfl, rfl⟩

def cA (a k : Int) : Bool := decide (a < 0) || decide (2147483647 < a) || (!decide (a = 0) && (decide (k = 0) || decide (k = 4)))
def c9 (b : Int) (l1 l2 : Nat) (k : Int) : Bool := decide (b < 0) || decide (2147483647 < b) || (!decide (b = 0) && !decide (k = 2)) || (decide (0 < l1) && !decide (k = 4)) || decide (20 < l1) || decide (5 < l2) || (decide (0 < l2) != decide (k = 3))
def specIns (x : RIns) : Bool := opOk x.op && (if x.op = 1 then wholeV x.a else !cA x.a (partV x.op)) && !c9 x.b x.lit.length x.tos.length (partV x.op) && !x.tos.any noNum && litV x.lit
theorem lit_nil {zs : List Int} (h : zs.length = 0) : litV zs = true := by
  obtain rfl := List.eq_nil_of_length_eq_zero h; rfl
theorem lit_len {zs : List Int} (h : litV zs = true) : zs.length ≤ 20 := by
  simp only [litV, Bool.and_eq_true, decide_eq_true_eq] at h; exact h.1
theorem any_nil {zs : List Int} (h : zs.length = 0) : zs.any noNum = false := by
  obtain rfl := List.eq_nil_of_length_eq_zero h; rfl
theorem cA_has {a : Int} : (!cA a 1) = numV a := by
  rw [Bool.eq_iff_iff]; simp [cA, numV]
theorem cA_two {a : Int} : (!cA a 2) = numV a := by
  rw [Bool.eq_iff_iff]; simp [cA, numV]
theorem cA_three {a : Int} : (!cA a 3) = numV a := by
  rw [Bool.eq_iff_iff]; simp [cA, numV]
theorem cA_none {a : Int} : (!cA a 0) = decide (a = 0) := by
  rw [Bool.eq_iff_iff]; simp [cA]; omega
theorem cA_four {a : Int} : (!cA a 4) = decide (a = 0) := by
  rw [Bool.eq_iff_iff]; simp [cA]; omega
theorem c9_iff (b : Int) (l1 l2 : Nat) (k : Int) : c9 b l1 l2 k = false ↔ (0 ≤ b ∧ b ≤ 2147483647 ∧ (b = 0 ∨ k = 2) ∧ (l1 = 0 ∨ k = 4) ∧ l1 ≤ 20 ∧ l2 ≤ 5 ∧ (0 < l2 ↔ k = 3)) := by
  by_cases h3 : k = 3
  · simp [c9, h3]; omega
  · by_cases h2 : k = 2
    · simp [c9, h2]; omega
    · by_cases h4 : k = 4
      · simp [c9, h4]; omega
      · simp [c9, h3, h2, h4]; omega
theorem rest_of (b : Int) (lit tos : List Int) (k : Int) : (!c9 b lit.length tos.length k && !tos.any noNum && litV lit) = true ↔ ((0 ≤ b ∧ b ≤ 2147483647 ∧ (b = 0 ∨ k = 2) ∧ (lit.length = 0 ∨ k = 4) ∧ lit.length ≤ 20 ∧ tos.length ≤ 5 ∧ (0 < tos.length ↔ k = 3)) ∧ tos.any noNum = false) ∧ litV lit = true := by
  rw [Bool.and_eq_true, Bool.and_eq_true, Bool.not_eq_true', Bool.not_eq_true', c9_iff]
theorem rest_none (k : Int) (h2 : k ≠ 2) (h3 : k ≠ 3) (h4 : k ≠ 4) (b : Int) (lit tos : List Int) : (!c9 b lit.length tos.length k && !tos.any noNum && litV lit) = (decide (b = 0) && decide (lit.length = 0) && decide (tos.length = 0)) := by
  rw [Bool.eq_iff_iff, rest_of]
  simp only [Bool.and_eq_true, decide_eq_true_eq]
  constructor
  · rintro ⟨⟨h, -⟩, -⟩
    exact ⟨⟨by omega, by omega⟩, by omega⟩
  · rintro ⟨⟨hb, hl⟩, ht⟩
    exact ⟨⟨by omega, any_nil ht⟩, lit_nil hl⟩
theorem rest_two (k : Int) (hk : k = 2) (b : Int) (lit tos : List Int) : (!c9 b lit.length tos.length k && !tos.any noNum && litV lit) = (numV b && decide (lit.length = 0) && decide (tos.length = 0)) := by
  rw [Bool.eq_iff_iff, rest_of]
  simp only [numV, Bool.and_eq_true, decide_eq_true_eq]
  constructor
  · rintro ⟨⟨h, -⟩, -⟩
    exact ⟨⟨⟨by omega, by omega⟩, by omega⟩, by omega⟩
  · rintro ⟨⟨hb, hl⟩, ht⟩
    exact ⟨⟨by omega, any_nil ht⟩, lit_nil hl⟩
theorem rest_four (k : Int) (hk : k = 4) (b : Int) (lit tos : List Int) : (!c9 b lit.length tos.length k && !tos.any noNum && litV lit) = (decide (b = 0) && litV lit && decide (tos.length = 0)) := by
  rw [Bool.eq_iff_iff, rest_of]
  simp only [Bool.and_eq_true, decide_eq_true_eq]
  constructor
  · rintro ⟨⟨h, -⟩, hl⟩
    exact ⟨⟨by omega, hl⟩, by omega⟩
  · rintro ⟨⟨hb, hl⟩, ht⟩
    have := lit_len hl
    exact ⟨⟨by omega, any_nil ht⟩, hl⟩
theorem rest_three (k : Int) (hk : k = 3) (b : Int) (lit tos : List Int) : (!c9 b lit.length tos.length k && !tos.any noNum && litV lit) = (decide (b = 0) && decide (lit.length = 0) && toV tos) := by
  rw [Bool.eq_iff_iff, rest_of]
  simp only [toV, Bool.and_eq_true, decide_eq_true_eq, Bool.not_eq_true']
  constructor
  · rintro ⟨⟨h, ha⟩, hl⟩
    exact ⟨⟨by omega, by omega⟩, ⟨by omega, by omega⟩, ha⟩
  · rintro ⟨⟨hb, hl⟩, ⟨h1, h5⟩, ha⟩
    exact ⟨⟨by omega, ha⟩, lit_nil hl⟩
theorem specIns_eq (x : RIns) : specIns x = insV x := by
  obtain ⟨op, a, b, lit, tos⟩ := x
  have e : ∀ p q r s t : Bool, (p && q && r && s && t) = (p && q && (r && s && t)) := by decide
  have e2 : ∀ p q r s t : Bool, (p && q && (r && s && t)) = (p && q && r && s && t) := by decide
  unfold specIns insV
  rw [e]
  simp only []
  by_cases h22 : op = 22
  · subst h22
    have hp : partV 22 = 3 := rfl
    rw [hp, rest_three 3 rfl]
    simp [aV, bV, lV, tV, cA_three, hasA, Bool.and_assoc]
  by_cases h21 : op = 21
  · subst h21
    have hp : partV 21 = 2 := rfl
    rw [hp, rest_two 2 rfl]
    simp [aV, bV, lV, tV, cA_two, hasA, Bool.and_assoc]
  by_cases h2 : op = 2
  · subst h2
    have hp : partV 2 = 4 := rfl
    rw [hp, rest_four 4 rfl]
    simp [aV, bV, lV, tV, cA_four, hasA, Bool.and_assoc]
  cases hh : hasA op with
  | true =>
    have hp : partV op = 1 := by simp [partV, h22, h21, h2, hh]
    rw [hp, rest_none 1 (by omega) (by omega) (by omega)]
    by_cases h1 : op = 1
    · simp [aV, bV, lV, tV, h1, Bool.and_assoc]
    · simp [aV, bV, lV, tV, h1, h22, h21, h2, cA_has, Bool.and_assoc]
  | false =>
    have hp : partV op = 0 := by simp [partV, h22, h21, h2, hh]
    have h1 : op ≠ 1 := by rintro rfl; cases hh
    rw [hp, rest_none 0 (by omega) (by omega) (by omega)]
    simp [aV, bV, lV, tV, h1, h22, h21, h2, cA_none, Bool.and_assoc]

end Go.Proofs.YtpdkgmagjhibkaaGreatDoor.By
