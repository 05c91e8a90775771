/-
  Arms' own names: the program's own by its contract. No statement is proved here.
-/
import Derived.Test.YtjjaocoahepdaaaDoorNB
import Derived.Test.YtjjaocoahepdaaaDoorGHE
namespace Go.Proofs.YtjjaocoahepdaaaDoor.By
open Go.RowKit
set_option linter.unusedVariables false
set_option linter.unusedSimpArgs false

def armV (hc : List Int) (hv : List (List Int)) : Bool :=
  if hc.length = 0 then decide (hv.length = 0) else wordV 65 90 hc && decide (hv.length ≤ 3) && !(hv.any fun x => !nameV x) && unV [] hv

set_option maxRecDepth 4000 in
set_option maxHeartbeats 2000000 in
theorem isNoArmT (hc : List Int) (hv : List (List Int)) (p : PE) (e0 : Option Addr) (q0 d0 : Nat) (e1 : Option Addr) (q1 d1 : Nat) (v2 v3 v4 v5 v6 v7 v8 : Value) (w : World) (h0 : RdB w e0 q0 hc) (h1 : SlSC w e1 q1 d1 hv) :
    Calls Tryd.prog 56 #[.agg #[.slice e0 q0 d0, .slice e1 q1 d1, v2, v3, v4, v5, v6, v7, v8]] w fun e u => e = .returned (.bool (!armV hc hv)) ∧ w.grownBy u none := by
  have g0 := World.grownBy_alloc w (.cells #[.slice e0 q0 d0, .slice e1 q1 d1, v2, v3, v4, v5, v6, v7, v8] 58) none
  have b0 := heap_alloc_new w (.cells #[.slice e0 q0 d0, .slice e1 q1 d1, v2, v3, v4, v5, v6, v7, v8] 58)
  have hl0 := h0.1.1
  have hl1 := h1.1.1
  have HS : Hid (∀ u, w.grownBy u none → RdB u e0 q0 hc ∧ SlSC u e1 q1 d1 hv) := fun u hu => ⟨h0.none hu, h1.none hu⟩
  have L0 : Hid (w.grownBy _ none ∧ _ = some (Obj.cells #[.slice e0 q0 d0, .slice e1 q1 d1, v2, v3, v4, v5, v6, v7, v8] 58)) := ⟨g0, b0⟩
  have C0 : Hid _ := isGreatT e0 q0 d0 hc _ (h0.none g0)
  obtain ⟨⟨y0, y1, y2, y3, y4, y5, y6, y7, y8⟩, -⟩ := blkEA b0
  clear g0 b0 h0 h1
  by_cases hz : q0 = 0
  · have e : armV hc hv = decide (q1 = 0) := by unfold armV; rw [hl0, hl1, if_pos hz]
    rw [e]
    subst hz
    clear C0
    by_cases hz1 : q1 = 0
    · subst hz1
      go_enter Tryd.func56, Tryd.ntmps56
      go_wp2
      go_ret
      exact ⟨rfl, L0.out.1⟩
    · have hz2 : (q1 : Int) > 0 := by omega
      go_enter Tryd.func56, Tryd.ntmps56
      go_wp2
      go_ret
      exact ⟨by simp [hz1]; omega, L0.out.1⟩
  have hz' : ¬ (q0 : Int) = 0 := by omega
  have e : armV hc hv = (wordV 65 90 hc && decide (q1 ≤ 3) && !(hv.any fun x => !nameV x) && unV [] hv) := by unfold armV; rw [hl0, hl1, if_neg hz]
  rw [e]
  clear e
  go_enter Tryd.func56, Tryd.ntmps56
  go_wp2_with fail
  refine Calls.mono C0.out ?_
  rintro e u ⟨rfl, hg⟩
  have L1 : Hid (w.grownBy u none ∧ u.heap[w.heap.size]? = some (Obj.cells #[.slice e0 q0 d0, .slice e1 q1 d1, v2, v3, v4, v5, v6, v7, v8] 58)) := ⟨grown_trans L0.out.1 hg, (hg.block _ (lt_of_block L0.out.2) (by simp)).trans L0.out.2⟩
  clear C0 hg L0 y0 y1 y2 y3 y4 y5 y6 y7 y8
  obtain ⟨⟨y0, y1, y2, y3, y4, y5, y6, y7, y8⟩, -⟩ := blkEA L1.out.2
  simp only []
  cases hb : wordV 65 90 hc with
  | false =>
    go_wp2
    go_ret
    exact ⟨by rw [hb]; rfl, L1.out.1⟩
  | true =>
    by_cases hq : q1 ≤ 3
    · have hq' : ¬ (q1 : Int) > 3 := by omega
      have C1 : Hid _ := containsWT hv e1 q1 d1 u (HS.out _ L1.out.1).2.1
      go_wp2_with fail
      refine Calls.mono C1.out ?_
      rintro e u2 ⟨rfl, hg⟩
      have L2 : Hid (w.grownBy u2 none ∧ u2.heap[w.heap.size]? = some (Obj.cells #[.slice e0 q0 d0, .slice e1 q1 d1, v2, v3, v4, v5, v6, v7, v8] 58)) := ⟨grown_trans L1.out.1 hg, (hg.block _ (lt_of_block L1.out.2) (by simp)).trans L1.out.2⟩
      clear C1 hg L1 y0 y1 y2 y3 y4 y5 y6 y7 y8
      obtain ⟨⟨y0, y1, y2, y3, y4, y5, y6, y7, y8⟩, -⟩ := blkEA L2.out.2
      simp only []
      cases hn : (hv.any fun x => !nameV x) with
      | true =>
        go_wp2
        go_ret
        exact ⟨by rw [hb, hn]; simp, L2.out.1⟩
      | false =>
        have C2 : Hid _ := allUnT hv e1 q1 d1 u2 (HS.out _ L2.out.1).2.1 (HS.out _ L2.out.1).2.2
        go_wp2_with fail
        refine Calls.mono C2.out ?_
        rintro e u3 ⟨rfl, hg⟩
        have L3 : Hid (w.grownBy u3 none) := grown_trans L2.out.1 hg
        clear C2 hg L2 y0 y1 y2 y3 y4 y5 y6 y7 y8
        simp only []
        go_wp2
        go_ret
        exact ⟨by rw [hb, hn]; simp [hq], L3.out⟩
    · have hq' : (q1 : Int) > 3 := by omega
      go_wp2
      go_ret
      exact ⟨by rw [hb]; simp [hq], L1.out.1⟩

/-- Whether an arm's own names are not as they should be. -/
def badA : GE → Bool
  | .nil => false
  | .cons hc hv _ _ _ r => !armV hc hv || badA r

set_option maxRecDepth 4000 in
set_option maxHeartbeats 2000000 in
theorem indexAT (g : GE) (a : Option Addr) (l c : Nat) (w : World) (h : SlGE w true a l c g) :
    Calls Tryd.prog 65 #[.slice a l c, .func (.func 56) #[] #[]] w fun e u => (∃ r : Int, e = .returned (.int .i64 r) ∧ AtP (badA g) r) ∧ w.grownBy u none := by
  have hl := h.2.1
  have hfl := h.1
  rcases h.cases with ⟨rfl, rfl⟩ | ⟨b, o, rfl, hin, hpos⟩
  · go_enter Tryd.func65, Tryd.ntmps65
    go_wp2
    refine wp_loop_rounds 1 ?_
    rw [rounds_succ]
    go_wp2
    go_ret
    exact ⟨⟨-1, rfl, by unfold AtP; exact rfl⟩, World.grownBy.refl _ _⟩
  have IN : Hid (InGE w w true g b o) := hin
  clear hin h
  go_enter Tryd.func65, Tryd.ntmps65
  go_wp2
  go_loopw [8] (fun i wr => ∃ (j : Nat) (R : GE), j ≤ l ∧ i = .int .i64 j ∧ R.len + j = l ∧ Hid (w.grownBy wr none ∧ InGE wr wr true R b (o + j * 9) ∧ (badA g) = badA R)) (fun i _ => l - (intOf i).toNat)
  case atStart => exact ⟨0, g, Nat.zero_le _, rfl, by omega, World.grownBy.refl _ _, by simpa using IN.out, rfl⟩
  case round =>
    obtain ⟨j, R, hj, rfl, hRl, HR⟩ := hrel
    by_cases hlt : j < l
    · obtain ⟨q, hq⟩ : ∃ q, R.len = q + 1 := ⟨R.len - 1, by omega⟩
      obtain ⟨hc, hv2, p, kids, alts, R', rfl, hR'⟩ := GE.cons_of_len hq
      obtain ⟨hg, hR, hv⟩ := HR.out
      obtain ⟨e0, q0, d0, e1, q1, d1, a1, l1, c1, a2, l2, c2, a3, l3, c3, a4, l4, c4, a5, l5, c5, ⟨m0, m1⟩, hgd, ⟨k0, k1, k2, k3, k4, k5, k6⟩, hd, hT⟩ := hR.alt
      rw [show o + j * 9 + 9 = o + (j + 1) * 9 by omega] at hT
      simp only [badA] at hv
      have CC : Hid _ := isNoArmT hc hv2 p e0 q0 d0 e1 q1 d1 (.int .i64 p.k) (.int .i64 p.n) (.slice a1 l1 c1) (.slice a2 l2 c2) (.slice a3 l3 c3) (.slice a4 l4 c4) (.slice a5 l5 c5) wr hgd.1 hgd.2
      have FX : Hid (w.grownBy wr none ∧ InGE wr wr true R' b (o + (j + 1) * 9) ∧ (badA g) = ((!armV hc hv2) || badA R')) := ⟨hg, hT, hv⟩
      clear hg hR hv hd hT HR IN hgd
      simp only [GE.len] at hRl
      go_wp2_with fail
      refine Calls.mono CC.out ?_
      rintro e u2 ⟨rfl, hgu⟩
      have FY : Hid (w.grownBy u2 none ∧ InGE u2 u2 true R' b (o + (j + 1) * 9) ∧ (badA g) = ((!armV hc hv2) || badA R')) := ⟨grown_trans FX.out.1 hgu, FX.out.2.1.le (CLe.grown hgu) (CLe.grown hgu), FX.out.2.2⟩
      clear FX hgu CC k0 k1 k2 k3 k4 k5 k6 m0 m1
      simp only []
      cases hb : (!armV hc hv2) with
      | false =>
        have FZ : Hid (w.grownBy u2 none ∧ InGE u2 u2 true R' b (o + (j + 1) * 9) ∧ (badA g) = badA R') := ⟨FY.out.1, FY.out.2.1, by rw [FY.out.2.2, hb, Bool.false_or]⟩
        clear FY hb
        go_wp2
        go_roundw
        case rel => exact ⟨j + 1, R', by omega, by go_num, by omega, FZ⟩
        case measure => simp [intOf]; omega
      | true =>
        have FZ : Hid (w.grownBy u2 none ∧ (badA g) = true) := ⟨FY.out.1, by rw [FY.out.2.2, hb, Bool.true_or]⟩
        clear FY hb
        go_wp2
        go_ret
        exact ⟨⟨(j : Int), rfl, by unfold AtP; rw [if_pos FZ.out.2]; omega⟩, FZ.out.1⟩
    · obtain rfl : j = l := by omega
      obtain rfl : R = .nil := GE.nil_of_len (by omega)
      have FZ : Hid (w.grownBy wr none ∧ (badA g) = false) := ⟨HR.out.1, HR.out.2.2⟩
      clear HR
      go_wp2
      go_ret
      exact ⟨⟨-1, rfl, by unfold AtP; rw [if_neg (by rw [FZ.out.2]; simp)]⟩, FZ.out.1⟩

set_option maxHeartbeats 400000 in
theorem containsAT (g : GE) (a : Option Addr) (l c : Nat) (w : World) (h : SlGE w true a l c g) :
    Calls Tryd.prog 55 #[.slice a l c, .func (.func 56) #[] #[]] w fun e u => e = .returned (.bool (badA g)) ∧ w.grownBy u none := by
  have CC : Hid _ := indexAT g a l c w h
  clear h
  go_enter Tryd.func55, Tryd.ntmps55
  go_wp2_with fail
  refine Calls.mono CC.out ?_
  rintro e u ⟨⟨r, rfl, hr⟩, hg⟩
  have G : Hid (w.grownBy u none) := hg
  clear hg CC
  unfold AtP at hr
  simp only []
  cases hb : (badA g) with
  | true =>
    rw [hb, if_pos rfl] at hr
    go_wp2
    go_ret
    refine ⟨?_, G.out⟩
    rw [hb]
    first | rfl | (simp; done) | (simp; omega)
  | false =>
    rw [hb, if_neg (by simp)] at hr
    subst hr
    go_wp2
    go_ret
    refine ⟨?_, G.out⟩
    rw [hb]
    first | rfl | (simp; done)
end Go.Proofs.YtjjaocoahepdaaaDoor.By
