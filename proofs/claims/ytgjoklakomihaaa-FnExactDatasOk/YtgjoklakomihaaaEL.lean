/-
  The last of some data: the program's side by its contract. No statement is proved here.
-/
import Derived.Test.YtgjoklakomihaaaET
import Derived.Test.YtgjoklakomihaaaEK
import Derived.Test.YtgjoklakomihaaaTSize
namespace Go.Proofs.Ytgjoklakomihaaa.By
open Go.RowKit
set_option linter.unusedVariables false
set_option linter.unusedSimpArgs false

/-- All fields are types over the data. -/
def fldsV (V : Int) (ds : List Da) : F → Bool
  | .nil => true
  | .cons k n d r => (okT k n d && tyD V ds k n d) && fldsV V ds r
def conV (V : Int) (ds : List Da) (c : Co) : Bool := wordV 65 90 c.name && (decide (c.flds.len ≤ 3) && fldsV V ds c.flds)
def headV (x : Da) : Bool := nameV x.name && (decide (0 ≤ x.vars) && (decide (x.vars ≤ 2) && (decide (1 ≤ x.cons.length) && decide (x.cons.length ≤ 5))))
def lastV (ds : List Da) (x : Da) : Bool := headV x && x.cons.all (conV x.vars ds)


set_option maxRecDepth 8000 in
set_option maxHeartbeats 8000000 in
theorem lastT (P : List Da) (x : Da) (a : Option Addr) (l c : Nat) (w : World) (h : SlDa w a l (P ++ [x])) :
    Calls Try.prog 17 #[.slice a l c] w fun e u => e = .returned (.bool (lastV (P ++ [x]) x)) ∧ w.grownBy u none := by
  have hl := h.1
  have hlm := h.2.1
  simp only [List.length_append, List.length_cons, List.length_nil] at hl
  rcases h.cases with ⟨h0, -⟩ | ⟨b, o, rfl, hin, hpos⟩
  · omega
  obtain ⟨x', a1, n1, c1, a2, l2, c2, hx, k0, k1, k2, hd1, hd2⟩ := hin.nth (i := P.length) (by simp)
  have hxx : x = x' := by simpa using hx
  rw [← hxx] at k1 hd1 hd2
  clear hxx hx
  obtain rfl : l = P.length + 1 := by omega
  have ewr : IntKind.i64.wrap (((P.length + 1 : Nat) : Int) - 1) = (P.length : Int) := by rw [IntWalk.i64_in _ (by omega)]; omega
  have ga := World.grownBy_alloc w (.cells #[.slice a1 n1 c1, .int .i64 x.vars, .slice a2 l2 c2] 36) none
  have ba := heap_alloc_new w (.cells #[.slice a1 n1 c1, .int .i64 x.vars, .slice a2 l2 c2] 36)
  have C0 : Hid _ := isNameT a1 n1 c1 x.name _ (hd1.none ga)
  have hl2 := hd2.1
  have hl2m := hd2.2.1
  have FT : Hid (∀ u, (w.alloc (.cells #[.slice a1 n1 c1, .int .i64 x.vars, .slice a2 l2 c2] 36)).grownBy u none → u.heap[w.heap.size]? = some (Obj.cells #[.slice a1 n1 c1, .int .i64 x.vars, .slice a2 l2 c2] 36) ∧ SlCo u a2 l2 x.cons ∧ SlDa u (some ⟨b, o, none⟩) (P.length + 1) (P ++ [x]) ∧ w.grownBy u none) := fun u hu => ⟨(hu.block _ (lt_of_block ba) (by simp)).trans ba, hd2.none (grown_trans ga hu), h.none (grown_trans ga hu), grown_trans ga hu⟩
  obtain ⟨⟨y0, y1, y2⟩, -⟩ := three ba
  clear h hin hd1 hd2 ga ba hl hpos
  go_enter Try.func17, Try.ntmps17
  go_wp2_with fail
  clear k0 k1 k2 y0 y1 y2
  generalize w.alloc (.cells #[.slice a1 n1 c1, .int .i64 x.vars, .slice a2 l2 c2] 36) = w1 at *
  generalize w.heap.size = p3 at *
  refine Calls.mono C0.out ?_
  rintro e w2 ⟨he, hg⟩
  subst he
  have H2 : Hid (w1.grownBy w2 none) := hg
  have GF : Hid (w.grownBy w2 none) := (FT.out w2 hg).2.2.2
  clear C0 hg ewr
  simp only []
  obtain ⟨⟨y0, y1, y2⟩, -⟩ := three (FT.out w2 H2.out).1
  cases hnm : nameV x.name with
  | false =>
    have EV : Hid (lastV (P ++ [x]) x = false) := by show _ = _; unfold lastV headV; rw [hnm]; rfl
    clear hnm
    go_wp2
    go_ret
    exact ⟨by rw [EV.out]; rfl, GF.out⟩
  | true =>
    by_cases q1 : 0 ≤ x.vars ∧ x.vars ≤ 2 ∧ 1 ≤ l2 ∧ l2 ≤ 5
    rotate_left
    · have EV : Hid (lastV (P ++ [x]) x = false) := by
        show _ = _
        unfold lastV headV
        rw [hnm, hl2]
        have : (decide (0 ≤ x.vars) && (decide (x.vars ≤ 2) && (decide (1 ≤ l2) && decide (l2 ≤ 5)))) = false := by
          rw [Bool.eq_false_iff]
          intro hh
          simp only [Bool.and_eq_true, decide_eq_true_eq] at hh
          exact q1 hh
        rw [this]; rfl
      clear hnm
      by_cases e1 : x.vars < 0
      · go_wp2
        go_ret
        exact ⟨by rw [EV.out]; rfl, GF.out⟩
      · by_cases e2 : x.vars > 2
        · go_wp2
          go_ret
          exact ⟨by rw [EV.out]; rfl, GF.out⟩
        · by_cases e3 : (l2 : Int) < 1
          · go_wp2
            go_ret
            exact ⟨by rw [EV.out]; rfl, GF.out⟩
          · have e4 : (l2 : Int) > 5 := by omega
            go_wp2
            go_ret
            exact ⟨by rw [EV.out]; rfl, GF.out⟩
    · obtain ⟨q1, q2, q3, q4⟩ := q1
      have e1 : ¬ x.vars < 0 := by omega
      have e2 : ¬ x.vars > 2 := by omega
      have e3 : ¬ (l2 : Int) < 1 := by omega
      have e4 : ¬ (l2 : Int) > 5 := by omega
      have f1 : decide (x.vars < 0) = false := by simpa using e1
      have f2 : decide (x.vars > 2) = false := by simpa using e2
      have f3 : decide ((l2 : Int) < 1) = false := by simpa using e3
      have f4 : decide ((l2 : Int) > 5) = false := by simpa using e4
      have EV : Hid (lastV (P ++ [x]) x = x.cons.all (conV x.vars (P ++ [x]))) := by show _ = _; unfold lastV headV; rw [hnm, hl2]; simp [q1, q2, q3, q4]
      clear hnm
      obtain ⟨b2, o2, rfl, hin2, -⟩ : ∃ b2 o2, a2 = some ⟨b2, o2, none⟩ ∧ InCo w2 w2 x.cons b2 o2 ∧ 0 < l2 := by
        rcases (FT.out w2 H2.out).2.1.cases with ⟨z1, z2⟩ | hh
        · omega
        · exact hh
      have IN : Hid (InCo w2 w2 x.cons b2 o2) := hin2
      clear hin2 GF
      go_wp2
      clear y0 y1 y2
      go_loopw [45] (fun i wr => ∃ (j : Nat) (R : List Co), j ≤ l2 ∧ i = .int .i64 j ∧ R.length + j = l2 ∧ Hid (w2.grownBy wr none ∧ InCo w2 w2 R b2 (o2 + j * 2) ∧ x.cons.all (conV x.vars (P ++ [x])) = R.all (conV x.vars (P ++ [x])))) (fun i _ => l2 - (intOf i).toNat)
      case atStart => exact ⟨0, x.cons, Nat.zero_le _, rfl, by omega, World.grownBy.refl _ _, by simpa using IN.out, rfl⟩
      case round =>
        obtain ⟨j, R, hj, rfl, hRl, HR⟩ := hrel
        by_cases hlt : j < l2
        · obtain ⟨y, R', rfl⟩ : ∃ y R', R = y :: R' := by
            cases R with
            | nil => simp at hRl; omega
            | cons y R' => exact ⟨y, R', rfl⟩
          obtain ⟨hg, ⟨⟨a4, n4, c4, a5, l5, c5, m0, m1, hd4, hd5⟩, hR2⟩, hv⟩ := HR.out
          rw [show o2 + j * 2 + 2 = o2 + (j + 1) * 2 by omega] at hR2
          have m0 := hg.cell m0 (by simp)
          have m1 := hg.cell m1 (by simp)
          have ga := World.grownBy_alloc wr (.cells #[.slice a4 n4 c4, .slice a5 l5 c5] 41) none
          have ba := heap_alloc_new wr (.cells #[.slice a4 n4 c4, .slice a5 l5 c5] 41)
          have gb := grown_trans hg ga
          have CG : Hid _ := isGreatT a4 n4 c4 y.name _ (hd4.none gb)
          have FX : Hid (w2.grownBy (wr.alloc (.cells #[.slice a4 n4 c4, .slice a5 l5 c5] 41)) none ∧ (wr.alloc (.cells #[.slice a4 n4 c4, .slice a5 l5 c5] 41)).heap[wr.heap.size]? = some (Obj.cells #[.slice a4 n4 c4, .slice a5 l5 c5] 41) ∧ SlF w2 a5 l5 y.flds ∧ InCo w2 w2 R' b2 (o2 + (j + 1) * 2) ∧ x.cons.all (conV x.vars (P ++ [x])) = (conV x.vars (P ++ [x]) y && R'.all (conV x.vars (P ++ [x])))) := ⟨gb, ba, hd5, hR2, by rw [hv]; rfl⟩
          obtain ⟨⟨z0, z1⟩, -⟩ := two2 ba
          have hl5 := hd5.1
          have hl5m := hd5.2.1
          clear hg hd4 hd5 hR2 hv ga ba gb HR IN
          simp only [List.length_cons] at hRl
          go_wp2_with fail
          clear m0 m1 z0 z1
          generalize wr.alloc (.cells #[.slice a4 n4 c4, .slice a5 l5 c5] 41) = wb at *
          generalize wr.heap.size = p6 at *
          refine Calls.mono CG.out ?_
          rintro e v ⟨he, hg⟩
          subst he
          have G2 : Hid (w2.grownBy v none) := grown_trans FX.out.1 hg
          have B6 : Hid (v.heap[p6]? = some (Obj.cells #[.slice a4 n4 c4, .slice a5 l5 c5] 41)) := (hg.block _ (lt_of_block FX.out.2.1) (by simp)).trans FX.out.2.1
          have GF : Hid (w.grownBy v none) := (FT.out v (grown_trans H2.out G2.out)).2.2.2
          clear CG hg
          simp only []
          obtain ⟨⟨z0, z1⟩, -⟩ := two2 B6.out
          cases hw : wordV 65 90 y.name with
          | false =>
            have E2 : Hid (lastV (P ++ [x]) x = false) := by show _ = _; rw [EV.out, FX.out.2.2.2.2]; unfold conV; rw [hw]; rfl
            clear hw
            go_wp2
            go_ret
            exact ⟨by rw [E2.out]; rfl, GF.out⟩
          | true =>
            by_cases h3 : l5 ≤ 3
            rotate_left
            · have E2 : Hid (lastV (P ++ [x]) x = false) := by
                show _ = _
                rw [EV.out, FX.out.2.2.2.2]
                unfold conV
                rw [hw, hl5]
                simp [h3]
              have h3' : (l5 : Int) > 3 := by omega
              clear hw
              go_wp2
              go_ret
              exact ⟨by rw [E2.out]; rfl, GF.out⟩
            · have h3' : ¬ (l5 : Int) > 3 := by omega
              have h3b : decide ((l5 : Int) > 3) = false := by simpa using h3'
              have EC : Hid (x.cons.all (conV x.vars (P ++ [x])) = (fldsV x.vars (P ++ [x]) y.flds && R'.all (conV x.vars (P ++ [x])))) := by
                show _ = _
                rw [FX.out.2.2.2.2]
                unfold conV
                rw [hw, hl5]
                simp [h3]
              clear hw GF
              rcases FX.out.2.2.1.cases with ⟨r1, r2⟩ | ⟨b5, o5, r1, hin5, -, r3⟩
              · have E2 : Hid (x.cons.all (conV x.vars (P ++ [x])) = R'.all (conV x.vars (P ++ [x]))) := by show _ = _; rw [EC.out, r2]; rfl
                subst r1
                clear r2 hl5
                go_wp2
                refine wp_loop_rounds 1 ?_
                rw [rounds_succ]
                go_wp2
                go_roundw
                case rel => exact ⟨j + 1, R', by omega, by go_num, by omega, G2.out, FX.out.2.2.2.1, E2.out⟩
                case measure => simp [intOf]; omega
              · subst r1
                have IN5 : Hid (InF v y.flds b5 o5) := hin5.none G2.out
                clear hin5
                go_wp2
                clear z0 z1
                go_loopw [62] (fun i wr => ∃ (q : Nat) (S : F), q ≤ l5 ∧ i = .int .i64 q ∧ S.len + q = l5 ∧ Hid (v.grownBy wr none ∧ InF v S b5 (o5 + q * 3) ∧ fldsV x.vars (P ++ [x]) y.flds = fldsV x.vars (P ++ [x]) S)) (fun i _ => l5 - (intOf i).toNat)
                case atStart => exact ⟨0, y.flds, Nat.zero_le _, rfl, by omega, World.grownBy.refl _ _, by simpa using IN5.out, rfl⟩
                case round =>
                  obtain ⟨q, S, hq, rfl, hSl, HQ⟩ := hrel
                  by_cases hltq : q < l5
                  · obtain ⟨q5, hq5⟩ : ∃ q5, S.len = q5 + 1 := ⟨S.len - 1, by omega⟩
                    obtain ⟨kk, nn, d, S', rfl, hS'⟩ := F.cons_of_len hq5
                    obtain ⟨hg, hS, hv⟩ := HQ.out
                    obtain ⟨a', l', c', d0, d1, d2, hd, hS2⟩ := hS.out
                    rw [show o5 + q * 3 + 3 = o5 + (q + 1) * 3 by omega] at hS2
                    have d0 := hg.cell d0 (by simp)
                    have d1 := hg.cell d1 (by simp)
                    have d2 := hg.cell d2 (by simp)
                    have ga := World.grownBy_alloc wr (.cells #[.int .i64 kk, .int .i64 nn, .slice a' l' c'] 47) none
                    have ba := heap_alloc_new wr (.cells #[.int .i64 kk, .int .i64 nn, .slice a' l' c'] 47)
                    have gb := grown_trans hg ga
                    have CT : Hid _ := implTyOkT d kk nn a' l' c' _ (hd.none gb)
                    have FY : Hid (v.grownBy (wr.alloc (.cells #[.int .i64 kk, .int .i64 nn, .slice a' l' c'] 47)) none ∧ (wr.alloc (.cells #[.int .i64 kk, .int .i64 nn, .slice a' l' c'] 47)).heap[wr.heap.size]? = some (Obj.cells #[.int .i64 kk, .int .i64 nn, .slice a' l' c'] 47) ∧ SlF v a' l' d ∧ InF v S' b5 (o5 + (q + 1) * 3) ∧ fldsV x.vars (P ++ [x]) y.flds = ((okT kk nn d && tyD x.vars (P ++ [x]) kk nn d) && fldsV x.vars (P ++ [x]) S')) := ⟨gb, ba, hd, hS2, by rw [hv]; rfl⟩
                    obtain ⟨⟨z0, z1, z2⟩, -⟩ := three ba
                    clear hg hS hv hd hS2 ga ba gb HQ IN5
                    go_wp2_with fail
                    clear d0 d1 d2 z0 z1 z2
                    generalize wr.alloc (.cells #[.int .i64 kk, .int .i64 nn, .slice a' l' c'] 47) = wf at *
                    generalize wr.heap.size = p8 at *
                    refine Calls.mono CT.out ?_
                    rintro e u ⟨he, hg⟩
                    subst he
                    have G3 : Hid (v.grownBy u none) := grown_trans FY.out.1 hg
                    have B8 : Hid (u.heap[p8]? = some (Obj.cells #[.int .i64 kk, .int .i64 nn, .slice a' l' c'] 47)) := (hg.block _ (lt_of_block FY.out.2.1) (by simp)).trans FY.out.2.1
                    have GF : Hid (w.grownBy u none) := (FT.out u (grown_trans H2.out (grown_trans G2.out G3.out))).2.2.2
                    clear CT hg
                    simp only []
                    obtain ⟨⟨z0, z1, z2⟩, -⟩ := three B8.out
                    cases hok : okT kk nn d with
                    | false =>
                      have E2 : Hid (lastV (P ++ [x]) x = false) := by show _ = _; rw [EV.out, EC.out, FY.out.2.2.2.2, hok]; rfl
                      clear hok
                      go_wp2
                      go_ret
                      exact ⟨by rw [E2.out]; rfl, GF.out⟩
                    | true =>
                      have ho := hok
                      simp only [okT, Bool.and_eq_true, decide_eq_true_eq] at ho
                      have fu := FT.out u (grown_trans H2.out (grown_trans G2.out G3.out))
                      have hvl := FY.out.2.2.1.1
                      have CS : Hid _ := standsT x.vars (P ++ [x]) p3 (d.size + 1) d kk nn a' l' c' 9 (some ⟨b, o, none⟩) (P.length + 1) c u (Nat.lt_succ_self _) (by omega) (FY.out.2.2.1.none G3.out) (by rw [← hvl]; exact ho.1.1) ho.1.2 fu.2.2.1 (three fu.1).1.2.1
                      have E3 : Hid (fldsV x.vars (P ++ [x]) y.flds = (tyD x.vars (P ++ [x]) kk nn d && fldsV x.vars (P ++ [x]) S')) := by show _ = _; rw [FY.out.2.2.2.2, hok]; rfl
                      clear ho fu hok GF hvl
                      go_wp2_with fail
                      refine Calls.mono CS.out ?_
                      rintro e u2 ⟨he, hg⟩
                      subst he
                      have G4 : Hid (v.grownBy u2 none) := grown_trans G3.out hg
                      have GF : Hid (w.grownBy u2 none) := grown_trans (FT.out u (grown_trans H2.out (grown_trans G2.out G3.out))).2.2.2 hg
                      clear CS hg z0 z1 z2
                      simp only []
                      cases hty : tyD x.vars (P ++ [x]) kk nn d with
                      | false =>
                        have E2 : Hid (lastV (P ++ [x]) x = false) := by show _ = _; rw [EV.out, EC.out, E3.out, hty]; rfl
                        clear hty
                        go_wp2
                        go_ret
                        exact ⟨by rw [E2.out]; rfl, GF.out⟩
                      | true =>
                        have E2 : Hid (fldsV x.vars (P ++ [x]) y.flds = fldsV x.vars (P ++ [x]) S') := by show _ = _; rw [E3.out, hty]; rfl
                        clear hty GF
                        go_wp2
                        go_roundw
                        case rel => exact ⟨q + 1, S', by omega, by go_num, by omega, G4.out, FY.out.2.2.2.1, E2.out⟩
                        case measure => simp [intOf]; omega
                  · obtain rfl : q = l5 := by omega
                    obtain rfl : S = .nil := F.nil_of_len (by omega)
                    have E2 : Hid (x.cons.all (conV x.vars (P ++ [x])) = R'.all (conV x.vars (P ++ [x])) ∧ w2.grownBy wr none) := ⟨by rw [EC.out, HQ.out.2.2]; rfl, grown_trans G2.out HQ.out.1⟩
                    clear HQ IN5
                    go_wp2
                    go_roundw
                    case rel => exact ⟨j + 1, R', by omega, by go_num, by omega, E2.out.2, FX.out.2.2.2.1, E2.out.1⟩
                    case measure => simp [intOf]; omega
        · obtain rfl : j = l2 := by omega
          obtain rfl : R = [] := List.eq_nil_of_length_eq_zero (by omega)
          have E2 : Hid (lastV (P ++ [x]) x = true) := by show _ = _; rw [EV.out, HR.out.2.2]; rfl
          have GF : Hid (w.grownBy wr none) := (FT.out wr (grown_trans H2.out HR.out.1)).2.2.2
          clear HR IN
          go_wp2
          go_ret
          exact ⟨by rw [E2.out]; rfl, GF.out⟩
end Go.Proofs.Ytgjoklakomihaaa.By
