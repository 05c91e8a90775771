/-
  Several texts in one (QF, RA). No statement is proved here.
-/
import Derived.Test.YtpdkgmagjhibkaaGreatDoorQE
import Derived.Test.YtpdkgmagjhibkaaGreatDoorPAAlso
import Derived.Test.YtpdkgmagjhibkaaGreatDoorTByAlso
namespace Go.Proofs.YtpdkgmagjhibkaaGreatDoor.By
open Go.RowKit
set_option linter.unusedVariables false
set_option linter.unusedSimpArgs false

theorem convQ (q : Nat) (z0 z1 : Int) (w : World) (h : w.heap[q]? = some (.cells #[.int .u8 z0, .int .u8 z1] 5 (0, 0))) : ∃ w', (convert 36 36 (.slice (some ⟨q, 0, none⟩) 2 2)).run Tryz.prog w = .ok (.slice (some ⟨q, 0, none⟩) 2 2) w' ∧ w.grownBy w' (some q) ∧ ∃ fr, w'.heap[q]? = some (.cells #[.int .u8 z0, .int .u8 z1] 5 fr) := by
  have hs : w.shape? q = some (5, 2) := by simp [World.shape?, h]
  refine ⟨w.freeze ⟨q, 2, none⟩ 1, ?_, ⟨rfl, rfl, rfl, ?_, ?_⟩, ?_⟩
  · simp [convert, run_underlying Tryz.underlying36, run_underlying Tryz.underlying5, markStringish, hs]
  · simp [World.freeze]
  · intro k hk hne
    have : q ≠ k := fun e => hne (by rw [e])
    simp [World.freeze, Array.getElem?_modify, this]
  · simp [World.freeze, Array.getElem?_modify, h]
def okP (x : RProg) : Bool := standsV x && decide (([76, 75] ++ progB x).length ≤ 30000)
def codeV (x : RProg) : List Int := if okP x then [76, 75] ++ progB x else []
theorem progB_len {x : RProg} (hv : standsV x = true) : (progB x).length ≤ 31000000 ∧ 1 ≤ (progB x).length := by
  unfold standsV laysV at hv
  simp only [Bool.and_eq_true, decide_eq_true_eq, Bool.not_eq_true'] at hv
  obtain ⟨⟨n1, n2⟩, ⟨⟨n3, hlay⟩, hcap⟩, hblk⟩ := hv
  have n5 := capsV_len hcap
  have hnA := numB_len (x.lays.length : Int)
  have hnB := numB_len (x.blks.length : Int)
  have hnC := numB_len (x.caps.length : Int)
  have hs1 := laysB_len x.lays hlay
  have hs2 := blksB_len x.blks hblk
  have hs3 := numsB_len x.caps
  have h1 : (numB (x.lays.length : Int)).length = 1 := by
    rw [numB_in (by omega) (by omega), putB_small (by omega)]; rfl
  simp only [progB, List.length_append]
  exact ⟨by omega, by omega⟩

set_option maxRecDepth 8000 in
set_option maxHeartbeats 4000000 in
theorem implCodeT (x : RProg) (a1 : Option Addr) (l1 c1 : Nat) (a2 : Option Addr) (l2 c2 : Nat) (a3 : Option Addr) (l3 c3 : Nat) (w : World) (h : RdProg w x a1 l1 a2 l2 a3 l3) (hF : OpsIn w) (hM : l1 ≤ 4194304) :
    Calls Tryz.prog 12 #[.agg #[.slice a1 l1 c1, .slice a2 l2 c2, .slice a3 l3 c3]] w fun e u => ∃ a' c', e = .returned (.tuple #[.slice a' (codeV x).length c', .bool (okP x)]) ∧ w.grownBy u none ∧ OwB w.heap.size u a' (codeV x).length c' (codeV x) := by
  have g0 := World.grownBy_alloc w (.cells #[.slice a1 l1 c1, .slice a2 l2 c2, .slice a3 l3 c3] 32) none
  have b0 := heap_alloc_new w (.cells #[.slice a1 l1 c1, .slice a2 l2 c2, .slice a3 l3 c3] 32)
  have C0 : Hid _ := programStandsT x a1 l1 c1 a2 l2 c2 a3 l3 c3 (w.alloc (.cells #[.slice a1 l1 c1, .slice a2 l2 c2, .slice a3 l3 c3] 32)) (h.none g0) (hF.none g0) hM
  have HS : Hid (∀ u, w.grownBy u none → RdProg u x a1 l1 a2 l2 a3 l3 ∧ OpsIn u) := fun u hu => ⟨h.none hu, hF.none hu⟩
  have L0 : Hid (w.grownBy _ none ∧ _ = some (Obj.cells #[.slice a1 l1 c1, .slice a2 l2 c2, .slice a3 l3 c3] 32)) := ⟨g0, b0⟩
  obtain ⟨⟨y0, y1, y2⟩, -⟩ := blkProg b0
  clear h hF g0 b0
  go_enter Tryz.func12, Tryz.ntmps12
  go_wp2_with fail
  refine Calls.mono C0.out ?_
  rintro e u0 ⟨he, hg⟩
  subst he
  have L1 : Hid (w.grownBy u0 none ∧ u0.heap[w.heap.size]? = some (Obj.cells #[.slice a1 l1 c1, .slice a2 l2 c2, .slice a3 l3 c3] 32)) := ⟨grown_trans L0.out.1 hg, (hg.block _ (lt_of_block L0.out.2) (by simp)).trans L0.out.2⟩
  clear C0 L0 hg y0 y1 y2
  have HP0 : Hid (w.heap.size = w.heap.size) := rfl
  generalize hp0 : w.heap.size = p0 at *
  simp only []
  cases hst : standsV x with
  | false =>
    have E : Hid (okP x = false ∧ codeV x = []) := by
      have : okP x = false := by unfold okP; rw [hst]; rfl
      exact ⟨this, by unfold codeV; rw [this]; rfl⟩
    go_wp2
    go_ret2
    refine ⟨none, 0, ?_, L1.out.1, ?_⟩
    · rw [E.out.1, E.out.2]; rfl
    · rw [E.out.2]; exact OwB.nil _ _
  | true =>
    obtain ⟨hbl, hb1⟩ := progB_len hst
    have ga := World.grownBy_alloc u0 (.cells #[.int .u8 76, .int .u8 75] 5) none
    have ba := heap_alloc_new u0 (.cells #[.int .u8 76, .int .u8 75] 5)
    obtain ⟨wb, hcv, kcv, fr, bcv⟩ := convQ u0.heap.size 76 75 (u0.alloc (.cells #[.int .u8 76, .int .u8 75] 5)) ba
    have gb : u0.grownBy wb none := grown_into ga kcv (Nat.le_refl _)
    have gc := World.grownBy_alloc wb (.cells #[.slice (some ⟨u0.heap.size, 0, none⟩) 2 2] 54) none
    have bc := heap_alloc_new wb (.cells #[.slice (some ⟨u0.heap.size, 0, none⟩) 2 2] 54)
    have hsz : u0.heap.size ≤ wb.heap.size := gb.size
    have W1 : Hid (WrS u0.heap.size wb.heap.size (wb.alloc (.cells #[.slice (some ⟨u0.heap.size, 0, none⟩) 2 2] 54)) (.slice (some ⟨u0.heap.size, 0, none⟩) 2 2) [76, 75]) := ⟨bc, .inr ⟨⟨_, fr, 76, 75, rfl, Nat.le_refl _, (gc.block _ (lt_of_block bcv) (by simp)).trans bcv, rfl⟩, rfl⟩, by (intro e; cases e), hsz, by have := gc.size; omega⟩
    have gu := grown_trans gb gc
    have bl : Below u0.heap.size u0 (wb.alloc (.cells #[.slice (some ⟨u0.heap.size, 0, none⟩) 2 2] 54)) := (Below.refl _ _).grown gu (Nat.le_refl _) (fun k hk => by simp at hk)
    have C1 : Hid _ := programWT u0.heap.size wb.heap.size _ [76, 75] x a1 l1 c1 a2 l2 c2 a3 l3 c3 u0 (wb.alloc (.cells #[.slice (some ⟨u0.heap.size, 0, none⟩) 2 2] 54)) rfl W1.out bl (HS.out _ L1.out.1).1 (HS.out _ L1.out.1).2 hst (by simp)
    have PB : Hid ((wb.alloc (.cells #[.slice (some ⟨u0.heap.size, 0, none⟩) 2 2] 54)).heap[p0]? = some (Obj.cells #[.slice a1 l1 c1, .slice a2 l2 c2, .slice a3 l3 c3] 32)) := (gu.block _ (lt_of_block L1.out.2) (by simp)).trans L1.out.2
    have LT : Hid (w.grownBy u0 none ∧ Below u0.heap.size u0 (wb.alloc (.cells #[.slice (some ⟨u0.heap.size, 0, none⟩) 2 2] 54))) := ⟨L1.out.1, bl⟩
    obtain ⟨⟨y0, y1, y2⟩, -⟩ := blkProg L1.out.2
    obtain ⟨⟨z0, z1, z2⟩, -⟩ := blkProg PB.out
    clear ga ba kcv bcv gb gc bc hsz gu bl W1 L1
    go_wp2_with fail
    refine Calls.mono C1.out ?_
    rintro e u9 ⟨he, v9, hw, hf⟩
    subst he
    have hlen : ([76, 75] ++ progB x : List Int).length = (progB x).length + 2 := by simp
    obtain ⟨g9, cp9, rfl⟩ := hw.own.form hw.nn
    have hown : u9.ownsRow u0.heap.size 5 1 (.slice (some ⟨g9, 0, none⟩) ([76, 75] ++ progB x).length cp9) ([76, 75] ++ progB x).length (vals ([76, 75] ++ progB x)) := by
      rcases hw.own with ⟨h, _⟩ | ⟨_, h⟩
      · exact h
      · rw [hlen] at h; omega
    have cb := (hw.cell).1
    have G9 : Hid (w.grownBy u9 none ∧ OwB p0 u9 (some ⟨g9, 0, none⟩) ([76, 75] ++ progB x).length cp9 ([76, 75] ++ progB x)) := ⟨grown_trans LT.out.1 (grown_of_below (LT.out.2.trans hf.below)), OwB.mono ⟨hown, rfl⟩ (by rw [← hp0]; exact LT.out.1.size)⟩
    clear C1 hw hf hown y0 y1 y2 z0 z1 z2 PB LT hcv
    generalize wb.heap.size = q at *
    have HL : Hid (okP x = decide (([76, 75] ++ progB x).length ≤ 30000)) := by show _ = _; unfold okP; rw [hst, Bool.true_and]
    have HC : Hid (okP x = true → codeV x = [76, 75] ++ progB x) := fun e => by unfold codeV; rw [if_pos e]
    have HD : Hid (okP x = false → codeV x = []) := fun e => by unfold codeV; rw [e]; rfl
    generalize ([76, 75] ++ progB x : List Int) = BB at *
    clear hlen
    simp only []
    by_cases hk : BB.length ≤ 30000
    · have hk' : ¬ ((BB.length : Nat) : Int) > 30000 := by omega
      have E1 : Hid (okP x = true) := by show _ = _; rw [HL.out]; simpa using hk
      go_wp2
      go_ret2
      refine ⟨some ⟨g9, 0, none⟩, cp9, ?_, G9.out.1, ?_⟩
      · rw [HC.out E1.out, E1.out]; rfl
      · rw [HC.out E1.out]; exact G9.out.2
    · have hk' : ((BB.length : Nat) : Int) > 30000 := by omega
      have E1 : Hid (okP x = false) := by show _ = _; rw [HL.out]; simp; omega
      go_wp2
      go_ret2
      refine ⟨none, 0, ?_, G9.out.1, ?_⟩
      · rw [HD.out E1.out, E1.out]; rfl
      · rw [HD.out E1.out]; exact OwB.nil _ _

set_option maxHeartbeats 1000000 in
theorem implProgT (x : RProg) (a1 : Option Addr) (l1 c1 : Nat) (a2 : Option Addr) (l2 c2 : Nat) (a3 : Option Addr) (l3 c3 : Nat) (w : World) (h : RdProg w x a1 l1 a2 l2 a3 l3) (hF : OpsIn w) (hM : l1 ≤ 4194304) :
    Calls Tryz.prog 9 #[.agg #[.slice a1 l1 c1, .slice a2 l2 c2, .slice a3 l3 c3]] w fun e u => e = .returned (.bool (okP x)) ∧ w.grownBy u none := by
  have g0 := World.grownBy_alloc w (.cells #[.slice a1 l1 c1, .slice a2 l2 c2, .slice a3 l3 c3] 32) none
  have b0 := heap_alloc_new w (.cells #[.slice a1 l1 c1, .slice a2 l2 c2, .slice a3 l3 c3] 32)
  have C0 : Hid _ := implCodeT x a1 l1 c1 a2 l2 c2 a3 l3 c3 (w.alloc (.cells #[.slice a1 l1 c1, .slice a2 l2 c2, .slice a3 l3 c3] 32)) (h.none g0) (hF.none g0) hM
  have G0 : Hid _ := g0
  obtain ⟨⟨y0, y1, y2⟩, -⟩ := blkProg b0
  clear h hF g0 b0
  go_enter Tryz.func9, Tryz.ntmps9
  go_wp2_with fail
  refine Calls.mono C0.out ?_
  rintro e u ⟨a', c', he, hg, -⟩
  subst he
  have G1 : Hid (w.grownBy u none) := grown_trans G0.out hg
  clear C0 hg G0 y0 y1 y2
  simp only []
  go_wp2
  go_ret
  exact ⟨rfl, G1.out⟩

end Go.Proofs.YtpdkgmagjhibkaaGreatDoor.By

namespace Go.Proofs.YtpdkgmagjhibkaaGreatDoor.By
open Go.RowKit
set_option linter.unusedVariables false
set_option linter.unusedSimpArgs false

def Clo (M m : Nat) : Prop := ∀ (d : F) (k n : Int) (a : Option Addr) (l c : Nat) (w : World), d.size < m → SlF w a l d →
    Calls Tryz.prog 71 #[.agg #[.int .i64 k, .int .i64 n, .slice a l c], .int .i64 (M : Int)] w fun e u => e = .returned (.bool (lowT M k n d)) ∧ w.grownBy u none


set_option maxRecDepth 8000 in
set_option maxHeartbeats 4000000 in
theorem l7closedT (M m : Nat) : Clo M m := by
  induction m with
  | zero => intro d k n a l c w hm; exact absurd hm (Nat.not_lt_zero _)
  | succ m ih =>
    intro d k n a l c w hm h
    have hfl := h.1
    have hl := h.2.1
    have IH : Hid (Clo M m) := ih
    have HS : Hid (SlF w a l d) := h
    have HG : Hid (w.grownBy (w.alloc (.cells #[.int .i64 k, .int .i64 n, .slice a l c] 60)) none) := World.grownBy_alloc w (.cells #[.int .i64 k, .int .i64 n, .slice a l c] 60) none
    have HB : Hid ((w.alloc (.cells #[.int .i64 k, .int .i64 n, .slice a l c] 60)).heap[w.heap.size]? = some (Obj.cells #[.int .i64 k, .int .i64 n, .slice a l c] 60)) := heap_alloc_new w (.cells #[.int .i64 k, .int .i64 n, .slice a l c] 60)
    clear ih h
    go_enter Tryz.func71, Tryz.ntmps71
    go_upto_region 1 with fail
    generalize w.alloc (.cells #[.int .i64 k, .int .i64 n, .slice a l c] 60) = W0 at *
    generalize w.heap.size = p0 at *
    by_cases h7 : k = 7
    · have EV : Hid (lowT M k n d = false) := by show _ = _; unfold lowT; rw [if_pos h7]
      obtain ⟨⟨x0, x1, x2⟩, -⟩ := three HB.out
      have hk7 : (k == 7) = true := by simpa using h7
      clear h7
      go_wp2
      go_ret
      exact ⟨by rw [EV.out]; rfl, HG.out⟩
    have hk7 : (k == 7) = false := by simpa using h7
    by_cases h6 : k = 6
    · have hk6 : (k == 6) = true := by simpa using h6
      have ED : lowT M k n d = (decide (n < M) && decide (d.len = 0) && lowF M d) := by unfold lowT; rw [if_neg h7, if_pos h6]
      clear h7 h6
      by_cases hn : n ≥ (M : Int)
      · have EV : Hid (lowT M k n d = false) := by show _ = _; rw [ED, decide_eq_false (show ¬ n < (M : Int) by omega)]; rfl
        obtain ⟨⟨x0, x1, x2⟩, -⟩ := three HB.out
        clear ED
        go_wp2
        go_ret
        exact ⟨by rw [EV.out]; rfl, HG.out⟩
      by_cases hz : 0 < l
      · have hz' : (l : Int) > 0 := by omega
        have EV : Hid (lowT M k n d = false) := by show _ = _; rw [ED, hfl, decide_eq_false (show ¬ l = 0 by omega)]; simp
        obtain ⟨⟨x0, x1, x2⟩, -⟩ := three HB.out
        clear ED
        go_wp2
        go_ret
        exact ⟨by rw [EV.out]; rfl, HG.out⟩
      have hz' : ¬ (l : Int) > 0 := by omega
      obtain rfl : d = .nil := F.nil_of_len (by omega)
      have EV : Hid (lowT M k n .nil = true) := by show _ = _; rw [ED, decide_eq_true (show n < (M : Int) by omega)]; rfl
      obtain ⟨⟨x0, x1, x2⟩, -⟩ := three HB.out
      have hl0 : ¬ (0 : Int) < (l : Int) := by omega
      clear ED
      go_wp2
      refine wp_loop_rounds 1 ?_
      rw [rounds_succ]
      go_wp2
      go_ret
      exact ⟨by rw [EV.out]; rfl, HG.out⟩
    have hk6 : (k == 6) = false := by simpa using h6
    have EV : Hid (lowT M k n d = lowF M d) := by show _ = _; unfold lowT; rw [if_neg h7, if_neg h6]
    clear h7 h6
    rcases HS.out.cases with ⟨h1, h2⟩ | ⟨b, o, h1, hin, -, hpos⟩
    · subst h1 h2
      obtain ⟨⟨x0, x1, x2⟩, -⟩ := three HB.out
      go_wp2
      refine wp_loop_rounds 1 ?_
      rw [rounds_succ]
      go_wp2
      go_ret
      exact ⟨by rw [EV.out]; rfl, HG.out⟩
    · subst h1
      have IN : Hid (InF w d b o) := hin
      obtain ⟨⟨x0, x1, x2⟩, -⟩ := three HB.out
      clear hin
      go_wp2
      clear x0 x1 x2
      go_loopw [5] (fun i wr => ∃ (j : Nat) (R : F), j ≤ l ∧ i = .int .i64 j ∧ R.len + j = l ∧ R.size ≤ d.size ∧ Hid (w.grownBy wr none ∧ wr.heap[p0]? = some (Obj.cells #[.int .i64 k, .int .i64 n, .slice (some ⟨b, o, none⟩) l c] 60) ∧ InF w R b (o + j * 3) ∧ lowF M d = lowF M R)) (fun i _ => l - (intOf i).toNat)
      case atStart => exact ⟨0, d, Nat.zero_le _, rfl, by omega, Nat.le_refl _, HG.out, HB.out, by simpa using IN.out, rfl⟩
      case round =>
        obtain ⟨j, R, hj, rfl, hRl, hRs, HR⟩ := hrel
        obtain ⟨⟨x0, x1, x2⟩, -⟩ := three HR.out.2.1
        by_cases hlt : j < l
        · obtain ⟨q1, hq1⟩ : ∃ q1, R.len = q1 + 1 := ⟨R.len - 1, by omega⟩
          obtain ⟨kk, nn, d', R', rfl, hR'⟩ := F.cons_of_len hq1
          obtain ⟨hg, hb, hR, hv⟩ := HR.out
          obtain ⟨a', l', c', c0, c1, c2', hd, hR2⟩ := hR.out
          rw [show o + j * 3 + 3 = o + (j + 1) * 3 by omega] at hR2
          have c0 := hg.cell c0 (by simp)
          have c1 := hg.cell c1 (by simp)
          have c2' := hg.cell c2' (by simp)
          simp only [F.size] at hRs
          have hji : (j : Int) < (l : Int) := by omega
          have CC : Hid _ := IH.out d' kk nn a' l' c' wr (by omega) (hd.none hg)
          have FX : Hid (w.grownBy wr none ∧ wr.heap[p0]? = some (Obj.cells #[.int .i64 k, .int .i64 n, .slice (some ⟨b, o, none⟩) l c] 60) ∧ InF w R' b (o + (j + 1) * 3) ∧ lowF M d = (lowT M kk nn d' && lowF M R')) := ⟨hg, hb, hR2, by rw [hv, lowF_cons]⟩
          clear hg hb hR hv hd hR2 HR IN
          go_wp2_with fail
          refine Calls.mono CC.out ?_
          rintro e v ⟨he, hgv⟩
          subst he
          have FY : Hid (w.grownBy v none ∧ v.heap[p0]? = some (Obj.cells #[.int .i64 k, .int .i64 n, .slice (some ⟨b, o, none⟩) l c] 60)) := ⟨grown_trans FX.out.1 hgv, (hgv.block _ (lt_of_block FX.out.2.1) (by simp)).trans FX.out.2.1⟩
          clear CC hgv c0 c1 c2' x0 x1 x2
          simp only []
          cases hq : lowT M kk nn d' with
          | false =>
            have E2 : Hid (lowT M k n d = false) := by show _ = _; rw [EV.out, FX.out.2.2.2, hq]; rfl
            clear hq
            go_wp2
            go_ret
            exact ⟨by rw [E2.out]; rfl, FY.out.1⟩
          | true =>
            have E2 : Hid (lowF M d = lowF M R') := by show _ = _; rw [FX.out.2.2.2, hq]; rfl
            clear hq
            go_wp2
            go_roundw
            case rel => exact ⟨j + 1, R', by omega, by go_num, by simp only [F.len] at hRl; omega, by omega, FY.out.1, FY.out.2, FX.out.2.2.1, E2.out⟩
            case measure => simp [intOf]; omega
        · obtain rfl : j = l := by omega
          obtain rfl : R = .nil := F.nil_of_len (by omega)
          have E2 : Hid (lowT M k n d = true ∧ w.grownBy wr none) := ⟨by rw [EV.out, HR.out.2.2.2]; rfl, HR.out.1⟩
          clear HR IN
          go_wp2
          go_ret
          exact ⟨by rw [E2.out.1]; rfl, E2.out.2⟩

set_option maxRecDepth 8000 in
set_option maxHeartbeats 4000000 in
theorem l8tysOkT (d : F) (a : Option Addr) (l c : Nat) (most M : Nat) (w : World) (h : SlF w a l d) :
    Calls Tryz.prog 42 #[.slice a l c, .int .i64 (most : Int), .int .i64 (M : Int)] w fun e u => e = .returned (.bool (decide (d.len ≤ most) && lwF M d)) ∧ w.grownBy u none := by
  have hfl := h.1
  have hl := h.2.1
  by_cases hm : most < l
  · have hm' : (l : Int) > (most : Int) := by omega
    have E : Hid ((decide (d.len ≤ most) && lwF M d) = false) := by show _ = _; rw [hfl, decide_eq_false (by omega)]; rfl
    clear h
    go_enter Tryz.func42, Tryz.ntmps42
    go_wp2
    go_ret
    exact ⟨by rw [E.out]; rfl, World.grownBy.refl _ _⟩
  have hm' : ¬ (l : Int) > (most : Int) := by omega
  have EV : Hid ((decide (d.len ≤ most) && lwF M d) = lwF M d) := by show _ = _; rw [hfl, decide_eq_true (by omega)]; rfl
  rcases h.cases with ⟨rfl, rfl⟩ | ⟨b, o, rfl, hin, -, hpos⟩
  · clear h
    go_enter Tryz.func42, Tryz.ntmps42
    go_wp2
    refine wp_loop_rounds 1 ?_
    rw [rounds_succ]
    go_wp2
    go_ret
    exact ⟨by rw [EV.out]; rfl, World.grownBy.refl _ _⟩
  have IN : Hid (InF w d b o) := hin
  clear hin h
  go_enter Tryz.func42, Tryz.ntmps42
  go_wp2
  go_loopw [7] (fun i wr => ∃ (j : Nat) (R : F), j ≤ l ∧ i = .int .i64 j ∧ R.len + j = l ∧ Hid (w.grownBy wr none ∧ InF w R b (o + j * 3) ∧ lwF M d = lwF M R)) (fun i _ => l - (intOf i).toNat)
  case atStart => exact ⟨0, d, Nat.zero_le _, rfl, by omega, World.grownBy.refl _ _, by simpa using IN.out, rfl⟩
  case round =>
    obtain ⟨j, R, hj, rfl, hRl, HR⟩ := hrel
    by_cases hlt : j < l
    · obtain ⟨q1, hq1⟩ : ∃ q1, R.len = q1 + 1 := ⟨R.len - 1, by omega⟩
      obtain ⟨kk, nn, d', R', rfl, hR'⟩ := F.cons_of_len hq1
      obtain ⟨hg, hR, hv⟩ := HR.out
      obtain ⟨a', l', c', c0, c1, c2', hd, hR2⟩ := hR.out
      rw [show o + j * 3 + 3 = o + (j + 1) * 3 by omega] at hR2
      have KK : Hid (∀ u, w.grownBy u none → u.cell? ⟨b, o + j * 3, none⟩ = some (.int .i64 kk) ∧ u.cell? ⟨b, o + j * 3 + 1, none⟩ = some (.int .i64 nn) ∧ u.cell? ⟨b, o + j * 3 + 2, none⟩ = some (.slice a' l' c')) := fun u hu => ⟨hu.cell c0 (by simp), hu.cell c1 (by simp), hu.cell c2' (by simp)⟩
      clear c0 c1 c2'
      obtain ⟨c0, c1, c2'⟩ := KK.out wr hg
      have hji : (j : Int) < (l : Int) := by omega
      have CC : Hid _ := specTyOkT d' kk nn a' l' c' wr (hd.none hg)
      have FX : Hid (w.grownBy wr none ∧ InF w R' b (o + (j + 1) * 3) ∧ lwF M d = (lwT M kk nn d' && lwF M R') ∧ SlF w a' l' d') := ⟨hg, hR2, hv, hd⟩
      clear hg hR hv hd hR2 HR IN
      go_wp2_with fail
      refine Calls.mono CC.out ?_
      rintro e v ⟨he, hgv⟩
      subst he
      have FY : Hid (w.grownBy v none) := grown_trans FX.out.1 hgv
      clear CC hgv c0 c1 c2'
      simp only []
      obtain ⟨c0, c1, c2'⟩ := KK.out v FY.out
      cases hok : okT kk nn d' with
      | false =>
        have E2 : Hid ((decide (d.len ≤ most) && lwF M d) = false) := by show _ = _; rw [EV.out, FX.out.2.2.1]; unfold lwT; rw [hok]; rfl
        clear hok
        go_wp2
        go_ret
        exact ⟨by rw [E2.out]; rfl, FY.out⟩
      | true =>
        have EL : Hid (lwT M kk nn d' = lowT M kk nn d') := by show _ = _; unfold lwT; rw [hok]; rfl
        have C2 : Hid _ := l7closedT M (d'.size + 1) d' kk nn a' l' c' v (Nat.lt_succ_self _) (FX.out.2.2.2.none FY.out)
        clear hok
        go_wp2_with fail
        refine Calls.mono C2.out ?_
        rintro e v2 ⟨he, hgv⟩
        subst he
        have FZ : Hid (w.grownBy v2 none) := grown_trans FY.out hgv
        clear C2 hgv c0 c1 c2'
        simp only []
        cases hq : lowT M kk nn d' with
        | false =>
          have E2 : Hid ((decide (d.len ≤ most) && lwF M d) = false) := by show _ = _; rw [EV.out, FX.out.2.2.1, EL.out, hq]; rfl
          clear hq
          go_wp2
          go_ret
          exact ⟨by rw [E2.out]; rfl, FZ.out⟩
        | true =>
          have E2 : Hid (lwF M d = lwF M R') := by show _ = _; rw [FX.out.2.2.1, EL.out, hq]; rfl
          clear hq
          go_wp2
          go_roundw
          case rel => exact ⟨j + 1, R', by omega, by go_num, by simp only [F.len] at hRl; omega, FZ.out, FX.out.2.1, E2.out⟩
          case measure => simp [intOf]; omega
    · obtain rfl : j = l := by omega
      obtain rfl : R = .nil := F.nil_of_len (by omega)
      have E2 : Hid ((decide (d.len ≤ most) && lwF M d) = true ∧ w.grownBy wr none) := ⟨by rw [EV.out, HR.out.2.2]; rfl, HR.out.1⟩
      clear HR IN
      go_wp2
      go_ret
      exact ⟨by rw [E2.out.1]; rfl, E2.out.2⟩
end Go.Proofs.YtpdkgmagjhibkaaGreatDoor.By
