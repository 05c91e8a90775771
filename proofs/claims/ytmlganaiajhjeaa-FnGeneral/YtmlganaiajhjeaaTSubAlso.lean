/-
  Several texts in one (TVl, TSub). No statement is proved here.
-/
import Derived.Test.YtmlganaiajhjeaaTViAlso
import Derived.Test.YtmlganaiajhjeaaShelfAlso
import Derived.Sort.OwnSortedInts
import Derived.Lib.OwnBridge
import Derived.Test.YtmlganaiajhjeaaUJAlso
import Derived.Test.YtmlganaiajhjeaaTPut
import Derived.Test.YtmlganaiajhjeaaTSize
namespace Go.Proofs.Ytmlganaiajhjeaa.By
open Go.RowKit Go.Sort
set_option linter.unusedVariables false
set_option linter.unusedSimpArgs false

theorem OwI.blk {B n c g : Nat} {w : World} {zs : List Int} (h : OwI B w (some ⟨g, 0, none⟩) n c zs) : B ≤ g ∧ g < w.heap.size ∧ n ≤ c ∧ c ≤ maxLen ∧ ∃ cur, w.heap[g]? = some (.cells cur 3 (0, 0)) ∧ cur.size = c * 1 ∧ cur.toList.take zs.length = zs.map (Value.int .i64) := by
  obtain ⟨⟨h1, h2⟩, hl⟩ := h
  rcases h2 with ⟨e, _⟩ | ⟨g', cap, cur, e, hB, hb, hn, hm, hs, ht⟩
  · cases e
  · injection e with e1 e2 e3
    injection e1 with e1
    injection e1 with e1
    subst e1 e3
    exact ⟨hB, lt_of_block hb, hn, hm, cur, hb, hs, by rw [hl]; simpa [valsI] using ht⟩
theorem OwI.holds {B n c g : Nat} {w : World} {zs : List Int} (h : OwI B w (some ⟨g, 0, none⟩) n c zs) : Holds (Value.int .i64) w g 0 zs.toArray := by
  obtain ⟨_, _, _, _, cur, hb, _, ht⟩ := h.blk
  exact holds_of_blockI hb ht
theorem OwI.sorted {B n c g m : Nat} {w : World} {os : Array Obj} {zs ts : List Int} (h : OwI B w (some ⟨g, 0, none⟩) n c zs) (hl : ts.length = zs.length) :
    OwI B (grow (putRow (Value.int .i64) (Sort.ahead w m) g 0 ts.toArray) os) (some ⟨g, 0, none⟩) n c ts ∧ Below B w (grow (putRow (Value.int .i64) (Sort.ahead w m) g 0 ts.toArray) os) := by
  obtain ⟨hB, hlt, hn, hm, cur, hb, hs, ht⟩ := h.blk
  have h2 := h.2
  subst h2
  exact ⟨⟨ownsRow_sortedI hl hB hb hn hm hs, hl⟩, (Below.refl B w).grown (grownBy_sortedI _) (by omega) (fun k hk => by cases hk; exact hB)⟩
theorem OwI.compacted {B n c g q k : Nat} {w : World} {zs ys : List Int} (h : OwI B w (some ⟨g, 0, none⟩) n c zs) (hy : ys.length = n) (hk : k ≤ n) :
    OwI B (putRow (Value.int .i64) (Sort.ahead w q) g 0 ys.toArray) (some ⟨g, 0, none⟩) k c (ys.take k) ∧ Below B w (putRow (Value.int .i64) (Sort.ahead w q) g 0 ys.toArray) :=
  ⟨⟨Lib.ownsRow_putRow h.1 hy hk, by rw [List.length_take]; omega⟩, Lib.below_putRow (Below.refl B w) h.blk.1⟩


set_option maxRecDepth 8000 in
set_option maxHeartbeats 1000000 in
theorem specTyVarsT (d : F) (k n : Int) (a : Option Addr) (l c : Nat) (w : World) (h : SlF w a l d) :
    Calls Try.prog 13 #[.agg #[.int .i64 k, .int .i64 n, .slice a l c]] w fun e u => ∃ a' c', e = .returned (.slice a' (varsV k n d).length c') ∧ w.grownBy u none ∧ OwI w.heap.size u a' (varsV k n d).length c' (varsV k n d) := by
  have g0 : w.grownBy (w.alloc (.cells #[.int .i64 k, .int .i64 n, .slice a l c] 25)) none := World.grownBy_alloc _ _ _
  have b0 := heap_alloc_new w (.cells #[.int .i64 k, .int .i64 n, .slice a l c] 25)
  have CC : Hid _ := specTyOkT d k n a l c _ (h.none g0)
  have FX : Hid (w.grownBy _ none ∧ SlF _ a l d ∧ _ = some (Obj.cells #[.int .i64 k, .int .i64 n, .slice a l c] 25)) := ⟨g0, h.none g0, b0⟩
  have hfl := h.1
  clear h g0 b0
  go_enter Try.func13, Try.ntmps13
  go_wp2_with fail
  refine Calls.mono CC.out ?_
  rintro e u ⟨rfl, hg⟩
  obtain ⟨g0, h, b0⟩ := FX.out
  have FY : Hid (w.grownBy u none ∧ SlF u a l d ∧ _ = some (Obj.cells #[.int .i64 k, .int .i64 n, .slice a l c] 25)) := ⟨grown_trans g0 hg, h.none hg, (hg.block _ (lt_of_block b0) (by simp)).trans b0⟩
  clear FX hg CC g0 h b0
  simp only []
  cases hb : okT k n d with
  | false =>
    have E : Hid (varsV k n d = []) := by show _ = _; unfold varsV; rw [hb]; rfl
    go_wp2
    go_ret
    exact ⟨none, 0, by rw [E.out]; rfl, FY.out.1, by rw [E.out]; exact OwI.nil _ _⟩
  | true =>
    have E : Hid (varsV k n d = insL [] (vT k n d)) := by show _ = _; unfold varsV; rw [if_pos hb]
    have hb' := hb
    simp only [okT, Bool.and_eq_true, decide_eq_true_eq] at hb'
    obtain ⟨⟨x0, x1, x2⟩, -⟩ := three FY.out.2.2
    have C2 : Hid _ := l3varsT u.heap.size (d.size + 1) d k n a l c none 0 0 [] u (Nat.lt_succ_self _) FY.out.2.1 (OwI.nil _ _) (Nat.le_refl _) (by simp; omega)
    clear hb' hb
    go_wp2_with fail
    refine Calls.mono C2.out ?_
    rintro e u2 ⟨a', c', rfl, hg, hO⟩
    have FF : Hid (w.grownBy u2 none ∧ OwI w.heap.size u2 a' (insL [] (vT k n d)).length c' (insL [] (vT k n d))) := ⟨grown_trans FY.out.1 hg, hO.mono FY.out.1.size⟩
    clear C2 FY hg hO x0 x1 x2
    simp only []
    go_wp2
    go_ret
    exact ⟨a', c', by rw [E.out]; rfl, FF.out.1, by rw [E.out]; exact FF.out.2⟩

set_option maxRecDepth 8000 in
set_option maxHeartbeats 1000000 in
theorem implTyVarsT (d : F) (k n : Int) (a : Option Addr) (l c : Nat) (w : World) (h : SlF w a l d) :
    Calls Try.prog 15 #[.agg #[.int .i64 k, .int .i64 n, .slice a l c]] w fun e u => ∃ a' c', e = .returned (.slice a' (varsV k n d).length c') ∧ w.grownBy u none ∧ OwI w.heap.size u a' (varsV k n d).length c' (varsV k n d) := by
  have g0 : w.grownBy (w.alloc (.cells #[.int .i64 k, .int .i64 n, .slice a l c] 25)) none := World.grownBy_alloc _ _ _
  have b0 := heap_alloc_new w (.cells #[.int .i64 k, .int .i64 n, .slice a l c] 25)
  have CC : Hid _ := implTyOkT d k n a l c _ (h.none g0)
  have FX : Hid (w.grownBy _ none ∧ SlF _ a l d ∧ _ = some (Obj.cells #[.int .i64 k, .int .i64 n, .slice a l c] 25)) := ⟨g0, h.none g0, b0⟩
  have hfl := h.1
  clear h g0 b0
  go_enter Try.func15, Try.ntmps15
  go_wp2_with fail
  refine Calls.mono CC.out ?_
  rintro e u ⟨rfl, hg⟩
  obtain ⟨g0, h, b0⟩ := FX.out
  have FY : Hid (w.grownBy u none ∧ SlF u a l d ∧ _ = some (Obj.cells #[.int .i64 k, .int .i64 n, .slice a l c] 25)) := ⟨grown_trans g0 hg, h.none hg, (hg.block _ (lt_of_block b0) (by simp)).trans b0⟩
  clear FX hg CC g0 h b0
  simp only []
  cases hb : okT k n d with
  | false =>
    have E : Hid (varsV k n d = []) := by show _ = _; unfold varsV; rw [hb]; rfl
    go_wp2
    go_ret
    exact ⟨none, 0, by rw [E.out]; rfl, FY.out.1, by rw [E.out]; exact OwI.nil _ _⟩
  | true =>
    have E : Hid (varsV k n d = insL [] (vT k n d)) := by show _ = _; unfold varsV; rw [if_pos hb]
    have hb' := hb
    simp only [okT, Bool.and_eq_true, decide_eq_true_eq] at hb'
    obtain ⟨⟨x0, x1, x2⟩, -⟩ := three FY.out.2.2
    have C2 : Hid _ := addVarsT u.heap.size (d.size + 1) d k n a l c (.slice none 0 0) [] u u (Nat.lt_succ_self _) FY.out.2.1 rfl (Below.refl _ _) ⟨rfl, .inl ⟨rfl, rfl⟩⟩ (by simp; omega)
    have hvl := vT_len k n d
    rw [← sorted_compact] at E
    clear hb
    generalize vT k n d = vs at *
    go_wp2_with fail
    refine Calls.mono C2.out ?_
    rintro e u2 ⟨v', rfl, hA, hF⟩
    simp only [List.nil_append] at hA
    obtain ⟨-, a', c', rfl, hO⟩ := ownsV hA
    have FA : Hid (w.grownBy u2 none ∧ OwI u.heap.size u2 a' vs.length c' vs ∧ w.heap.size ≤ u.heap.size ∧ Below u.heap.size u u2 ∧ w.grownBy u none) := ⟨grown_trans FY.out.1 (grown_of_belowV hF.below), hO, FY.out.1.size, hF.below, FY.out.1⟩
    clear C2 FY hA hF hO x0 x1 x2
    simp only []
    by_cases hv : vs.length = 0
    · obtain rfl : vs = [] := List.eq_nil_of_length_eq_zero hv
      have E2 : Hid (varsV k n d = []) := by show _ = _; rw [E.out]; simp [Lib.compact, Lib.compactUpTo]
      have FB : Hid (w.grownBy u2 none ∧ OwI w.heap.size u2 a' 0 c' []) := ⟨FA.out.1, FA.out.2.1.mono FA.out.2.2.1⟩
      clear E FA hvl
      go_wp2_with fail
      refine Calls.mono (Try.slices_Sort_int_none a' c' u2) ?_
      rintro e u3 ⟨rfl, rfl⟩
      simp only []
      go_wp2_with fail
      refine Calls.mono (Try.slices_Compact_int_empty a' c' u3) ?_
      rintro e u4 ⟨rfl, rfl⟩
      simp only []
      go_wp2
      go_ret
      exact ⟨a', c', by rw [E2.out]; rfl, FB.out.1, by rw [E2.out]; exact FB.out.2⟩
    obtain ⟨g, rfl⟩ : ∃ g, a' = some (⟨g, 0, none⟩ : Addr) := by
      rcases FA.out.2.1.1.2 with ⟨e, h0⟩ | ⟨g, cap, cur, e, _⟩
      · exact absurd h0 hv
      · injection e with e1; exact ⟨g, e1⟩
    have CS : Hid _ := Try.slices_Sort_int g 0 c' vs u2 FA.out.2.1.holds FA.out.2.1.blk.2.1 (by omega)
    clear hv
    go_wp2_with fail
    refine Calls.mono CS.out ?_
    rintro e u3 ⟨rfl, m, os, hu3⟩
    have hsl : (vs.mergeSort fun x y => decide (x ≤ y)).length = vs.length := List.length_mergeSort vs
    obtain ⟨hO3, hB3⟩ := FA.out.2.1.sorted (m := m) (os := os) hsl
    rw [← hu3] at hO3 hB3
    have FB : Hid (OwI u.heap.size u3 (some ⟨g, 0, none⟩) vs.length c' (vs.mergeSort fun x y => decide (x ≤ y)) ∧ Below u.heap.size u u3 ∧ w.heap.size ≤ u.heap.size ∧ w.grownBy u none) := ⟨hO3, FA.out.2.2.2.1.trans hB3, FA.out.2.2.1, FA.out.2.2.2.2⟩
    clear hO3 hB3 hu3 FA CS
    generalize (vs.mergeSort fun x y => decide (x ≤ y)) = ts at *
    have CK : Hid _ := Try.slices_Compact_int g 0 c' ts u3 FB.out.1.holds (by omega) (by have := FB.out.1.blk.2.2.1; omega)
    have hsl' : vs.length = ts.length := hsl.symm
    generalize vs.length = nv at *
    subst hsl'
    simp only []
    go_wp2_with fail
    refine Calls.mono CK.out ?_
    rintro e u4 ⟨rfl, q, hu4⟩
    have hcl := Lib.compact_length_le ts
    obtain ⟨hO4, hB4⟩ := FB.out.1.compacted (q := q) (k := (Lib.compact ts).length) (ys := Lib.compact ts ++ List.replicate (ts.length - (Lib.compact ts).length) 0) (by simp; omega) hcl
    rw [← hu4, List.take_left] at hO4
    rw [← hu4] at hB4
    have FC : Hid (w.grownBy u4 none ∧ OwI w.heap.size u4 (some ⟨g, 0, none⟩) (Lib.compact ts).length c' (Lib.compact ts)) := ⟨grown_trans FB.out.2.2.2 (grown_of_belowV (FB.out.2.1.trans hB4)), hO4.mono FB.out.2.2.1⟩
    clear hO4 hB4 hu4 FB CK
    simp only []
    go_wp2
    go_ret
    exact ⟨some ⟨g, 0, none⟩, c', by rw [E.out]; rfl, FC.out.1, by rw [E.out]; exact FC.out.2⟩

end Go.Proofs.Ytmlganaiajhjeaa.By

namespace Go.Proofs.Ytmlganaiajhjeaa.By
open Go.RowKit
set_option linter.unusedVariables false
set_option linter.unusedSimpArgs false

/-- Whether there is an answer, and which. -/
def subOk (E : F) (k n : Int) (d : F) : Bool := okT k n d && (decide (E.len ≤ 60) && (okL E && okT (subT E k n d).1 (subT E k n d).2.1 (subT E k n d).2.2))
def subR (E : F) (k n : Int) (d : F) : Int × Int × F := if subOk E k n d = true then subT E k n d else (0, 0, .nil)
theorem subR_no {E : F} {k n : Int} {d : F} (h : subOk E k n d = false) : subR E k n d = (0, 0, .nil) := by unfold subR; rw [h]; rfl
theorem subR_yes {E : F} {k n : Int} {d : F} (h : subOk E k n d = true) : subR E k n d = subT E k n d := by unfold subR; rw [if_pos h]

set_option maxHeartbeats 400000 in
theorem isNoT (d : F) (k n : Int) (a : Option Addr) (l c : Nat) (w : World) (h : SlF w a l d) :
    Calls Try.prog 41 #[.agg #[.int .i64 k, .int .i64 n, .slice a l c]] w fun e u => e = .returned (.bool (!okT k n d)) ∧ w.grownBy u none := by
  have g0 : w.grownBy (w.alloc (.cells #[.int .i64 k, .int .i64 n, .slice a l c] 25)) none := World.grownBy_alloc _ _ _
  have CC : Hid _ := implTyOkT d k n a l c _ (h.none g0)
  have G0 : Hid _ := g0
  clear h g0
  go_enter Try.func41, Try.ntmps41
  go_wp2_with fail
  refine Calls.mono CC.out ?_
  rintro e u ⟨rfl, hg⟩
  have G : Hid (w.grownBy u none) := grown_trans G0.out hg
  clear hg G0 CC
  simp only []
  go_wp2
  go_ret
  exact ⟨rfl, G.out⟩

/-- Where the first of the list is that is no type; -1: there is none. -/
def NoAt (E : F) (r : Int) : Prop := if okL E = true then r = -1 else 0 ≤ r

set_option maxHeartbeats 1000000 in
theorem indexT (E : F) (a : Option Addr) (l c : Nat) (w : World) (h : SlF w a l E) :
    Calls Try.prog 69 #[.slice a l c, .func (.func 41) #[] #[]] w fun e u => (∃ r : Int, e = .returned (.int .i64 r) ∧ NoAt E r) ∧ w.grownBy u none := by
  have hfl := h.1
  have hl := h.2.1
  rcases h.cases with ⟨rfl, rfl⟩ | ⟨b, o, rfl, hin, -, hpos⟩
  · go_enter Try.func69, Try.ntmps69
    go_wp2
    refine wp_loop_rounds 1 ?_
    rw [rounds_succ]
    go_wp2
    go_ret
    exact ⟨⟨-1, rfl, by unfold NoAt; exact rfl⟩, World.grownBy.refl _ _⟩
  have IN : Hid (InF w E b o) := hin
  clear hin h
  go_enter Try.func69, Try.ntmps69
  go_wp2
  go_loopw [8] (fun i wr => ∃ (j : Nat) (R : F), j ≤ l ∧ i = .int .i64 j ∧ R.len + j = l ∧ Hid (w.grownBy wr none ∧ InF wr R b (o + j * 3) ∧ okL E = okL R)) (fun i _ => l - (intOf i).toNat)
  case atStart => exact ⟨0, E, Nat.zero_le _, rfl, by omega, World.grownBy.refl _ _, by simpa using IN.out, rfl⟩
  case round =>
    obtain ⟨j, R, hj, rfl, hRl, HR⟩ := hrel
    by_cases hlt : j < l
    · obtain ⟨q, hq⟩ : ∃ q, R.len = q + 1 := ⟨R.len - 1, by omega⟩
      obtain ⟨k1, n1, d1, R1, rfl, hR1⟩ := F.cons_of_len hq
      obtain ⟨hg, hR, hv⟩ := HR.out
      obtain ⟨a1, l1, x1, c0, c1, c2, hd, hT⟩ := hR.out
      have e3 : o + j * 3 + 3 = o + (j + 1) * 3 := by omega
      rw [e3] at hT
      have CC : Hid _ := isNoT d1 k1 n1 a1 l1 x1 wr hd
      have FX : Hid (w.grownBy wr none ∧ InF wr R1 b (o + (j + 1) * 3) ∧ okL E = (okT k1 n1 d1 && okL R1)) := ⟨hg, hT, hv⟩
      clear hg hR hv hd hT HR IN
      go_wp2_with fail
      refine Calls.mono CC.out ?_
      rintro e u2 ⟨rfl, hgu⟩
      have FY : Hid (w.grownBy u2 none ∧ InF u2 R1 b (o + (j + 1) * 3) ∧ okL E = (okT k1 n1 d1 && okL R1)) := ⟨grown_trans FX.out.1 hgu, FX.out.2.1.none hgu, FX.out.2.2⟩
      clear FX hgu CC c0 c1 c2
      simp only []
      cases hb : okT k1 n1 d1 with
      | true =>
        have FZ : Hid (w.grownBy u2 none ∧ InF u2 R1 b (o + (j + 1) * 3) ∧ okL E = okL R1) := ⟨FY.out.1, FY.out.2.1, by rw [FY.out.2.2, hb, Bool.true_and]⟩
        clear FY hb
        go_wp2
        go_roundw
        case rel => exact ⟨j + 1, R1, by omega, by go_num, by omega, FZ⟩
        case measure => simp [intOf]; omega
      | false =>
        have FZ : Hid (w.grownBy u2 none ∧ okL E = false) := ⟨FY.out.1, by rw [FY.out.2.2, hb, Bool.false_and]⟩
        clear FY hb
        go_wp2
        go_ret
        exact ⟨⟨(j : Int), rfl, by unfold NoAt; rw [if_neg (by rw [FZ.out.2]; simp)]; omega⟩, FZ.out.1⟩
    · obtain rfl : j = l := by omega
      obtain rfl : R = .nil := F.nil_of_len (by omega)
      have FZ : Hid (w.grownBy wr none ∧ okL E = true) := ⟨HR.out.1, HR.out.2.2⟩
      clear HR
      go_wp2
      go_ret
      exact ⟨⟨-1, rfl, by unfold NoAt; rw [if_pos FZ.out.2]⟩, FZ.out.1⟩

set_option maxHeartbeats 400000 in
theorem containsT (E : F) (a : Option Addr) (l c : Nat) (w : World) (h : SlF w a l E) :
    Calls Try.prog 40 #[.slice a l c, .func (.func 41) #[] #[]] w fun e u => e = .returned (.bool (!okL E)) ∧ w.grownBy u none := by
  have CC : Hid _ := indexT E a l c w h
  clear h
  go_enter Try.func40, Try.ntmps40
  go_wp2_with fail
  refine Calls.mono CC.out ?_
  rintro e u ⟨⟨r, rfl, hr⟩, hg⟩
  have G : Hid (w.grownBy u none) := hg
  clear hg CC
  unfold NoAt at hr
  simp only []
  cases hb : okL E with
  | true =>
    rw [if_pos hb] at hr
    subst hr
    go_wp2
    go_ret
    exact ⟨by rw [hb]; rfl, G.out⟩
  | false =>
    rw [if_neg (by rw [hb]; simp)] at hr
    go_wp2
    go_ret
    exact ⟨by rw [hb]; simp [hr], G.out⟩

set_option maxRecDepth 8000 in
set_option maxHeartbeats 4000000 in
theorem implTySubstT (d : F) (k n : Int) (a : Option Addr) (l c : Nat) (E : F) (ae : Option Addr) (le ce : Nat) (w : World) (h : SlF w a l d) (hE : SlF w ae le E) :
    Calls Try.prog 9 #[.agg #[.int .i64 k, .int .i64 n, .slice a l c], .slice ae le ce] w fun e u => ∃ a' l2 c' bs, e = .returned (.tuple #[.agg #[.int .i64 (subR E k n d).1, .int .i64 (subR E k n d).2.1, .slice a' l2 c'], .bool (subOk E k n d)]) ∧ w.grownBy u none ∧ New w u 25 a' l2 c' (subR E k n d).2.2 bs := by
  obtain ⟨b0, b1, bsz⟩ := alloc2_blocks w (.cells #[.int .i64 k, .int .i64 n, .slice a l c] 25) (.cells #[.int .i64 0, .int .i64 0, .slice none 0 0] 25)
  have g0 := grown_alloc (grown_alloc (World.grownBy.refl w none) (.cells #[.int .i64 k, .int .i64 n, .slice a l c] 25)) (.cells #[.int .i64 0, .int .i64 0, .slice none 0 0] 25)
  have HD : Hid (SlF w a l d ∧ SlF w ae le E) := ⟨h, hE⟩
  have hfl := h.1
  have hlE := hE.1
  have hEm := hE.2.1
  have L0 : Hid (w.grownBy _ none ∧ _ = some (Obj.cells #[.int .i64 k, .int .i64 n, .slice a l c] 25) ∧ _ = some (Obj.cells #[.int .i64 0, .int .i64 0, .slice none 0 0] 25)) := ⟨g0, b0, b1⟩
  clear h hE g0 b0 b1 bsz
  by_cases h60 : (60 : Int) < le
  · have hno : subOk E k n d = false := by unfold subOk; rw [hlE]; simp; omega
    have EN : Hid (subOk E k n d = false ∧ subR E k n d = (0, 0, .nil)) := ⟨hno, subR_no hno⟩
    clear hno HD
    go_enter Try.func9, Try.ntmps9
    go_wp2
    go_returns
    rw [EN.out.1, EN.out.2]
    exact ⟨none, 0, 0, [], by simp, grown_alloc (grown_alloc (World.grownBy.refl _ none) _) _, New.nil _ _ _⟩
  have h60' : decide ((60 : Int) < le) = false := by simp; omega
  have C1 : Hid _ := implTyOkT d k n a l c _ (HD.out.1.none L0.out.1)
  go_enter Try.func9, Try.ntmps9
  go_wp2_with fail
  refine Calls.mono C1.out ?_
  rintro e w1 ⟨rfl, hg⟩
  obtain ⟨g0, b0, b1⟩ := L0.out
  have L1 : Hid (w.grownBy w1 none ∧ _ = some (Obj.cells #[.int .i64 k, .int .i64 n, .slice a l c] 25) ∧ _ = some (Obj.cells #[.int .i64 0, .int .i64 0, .slice none 0 0] 25)) := ⟨grown_trans g0 hg, (hg.block _ (lt_of_block b0) (by simp)).trans b0, (hg.block _ (lt_of_block b1) (by simp)).trans b1⟩
  clear hg g0 b0 b1 L0 C1
  generalize e0 : w.heap.size = p0 at *
  generalize e1 : p0 + 1 = p1 at *
  have PQ : Hid (w.heap.size = p0 ∧ p0 + 1 = p1) := ⟨e0, e1⟩
  clear e0 e1
  simp only []
  have zero : ∀ u, w.grownBy u none → u.heap[p1]? = some (Obj.cells #[.int .i64 0, .int .i64 0, .slice none 0 0] 25) → _ ∧ w.grownBy (((u.setCell ⟨p1, 0, none⟩ (.int .i64 0)).setCell ⟨p1, 1, none⟩ (.int .i64 0)).setCell ⟨p1, 2, none⟩ (.slice none 0 0)) none := fun u hu hp => ⟨(fill3 (.int .i64 0) (.int .i64 0) (.slice none 0 0) hp).1, grown_into hu (fill3 (.int .i64 0) (.int .i64 0) (.slice none 0 0) hp).2 (by have := PQ.out; omega)⟩
  have ZR : Hid _ := zero
  clear zero
  cases hb : okT k n d with
  | false =>
    have hno : subOk E k n d = false := by unfold subOk; rw [hb]; rfl
    have EN : Hid (subOk E k n d = false ∧ subR E k n d = (0, 0, .nil)) := ⟨hno, subR_no hno⟩
    obtain ⟨⟨v0, v1, v2⟩, f0, f1, f2⟩ := three L1.out.2.2
    have FQ : Hid _ := ZR.out w1 L1.out.1 L1.out.2.2
    clear hno HD ZR hb
    go_wp2
    (try simp only [Exit.inBlock, Exit.then])
    refine bodyPost_ret (results_cell2 (P := Try.prog) Try.results9 _ _ p1 _ _ _ _ rfl FQ.out.1 Try.underlying25 rfl (by kernel_rfl)) rfl ?_
    rw [EN.out.1, EN.out.2]
    exact ⟨none, 0, 0, [], rfl, FQ.out.2, New.nil _ _ _⟩
  | true =>
    have C2 : Hid _ := containsT E ae le ce w1 (HD.out.2.none L1.out.1)
    go_wp2_with fail
    refine Calls.mono C2.out ?_
    rintro e w2 ⟨rfl, hg⟩
    have L2 : Hid (w.grownBy w2 none ∧ w2.heap[p0]? = some (Obj.cells #[.int .i64 k, .int .i64 n, .slice a l c] 25) ∧ w2.heap[p1]? = some (Obj.cells #[.int .i64 0, .int .i64 0, .slice none 0 0] 25)) := ⟨grown_trans L1.out.1 hg, (hg.block _ (lt_of_block L1.out.2.1) (by simp)).trans L1.out.2.1, (hg.block _ (lt_of_block L1.out.2.2) (by simp)).trans L1.out.2.2⟩
    clear hg L1 C2
    simp only []
    cases hb2 : okL E with
    | false =>
      have hno : subOk E k n d = false := by unfold subOk; rw [hb2]; simp
      have EN : Hid (subOk E k n d = false ∧ subR E k n d = (0, 0, .nil)) := ⟨hno, subR_no hno⟩
      obtain ⟨⟨v0, v1, v2⟩, f0, f1, f2⟩ := three L2.out.2.2
      have FQ : Hid _ := ZR.out w2 L2.out.1 L2.out.2.2
      clear hno HD ZR hb hb2
      go_wp2
      (try simp only [Exit.inBlock, Exit.then])
      refine bodyPost_ret (results_cell2 (P := Try.prog) Try.results9 _ _ p1 _ _ _ _ rfl FQ.out.1 Try.underlying25 rfl (by kernel_rfl)) rfl ?_
      rw [EN.out.1, EN.out.2]
      exact ⟨none, 0, 0, [], rfl, FQ.out.2, New.nil _ _ _⟩
    | true =>
      have hb' := hb
      simp only [okT, Bool.and_eq_true, decide_eq_true_eq] at hb'
      have C3 : Hid _ := replT E ae le ce (.inr ⟨hb2, fun m => replT .nil none 0 0 (.inl rfl) m⟩) (d.size + 1) d k n a l c 9 w2 (Nat.lt_succ_self _) (by omega) (HD.out.1.none L2.out.1) (HD.out.2.none L2.out.1) (by rw [← hfl]; exact hb'.1.1) hb'.1.2
      have HO : Hid (subOk E k n d = okT (subT E k n d).1 (subT E k n d).2.1 (subT E k n d).2.2) := by show _ = _; unfold subOk; rw [hb, hb2, hlE]; simp; omega
      have HR : Hid (∀ b, okT (subT E k n d).1 (subT E k n d).2.1 (subT E k n d).2.2 = b → subOk E k n d = b ∧ subR E k n d = if b = true then subT E k n d else (0, 0, .nil)) := by
        intro b hbb
        have h1 := HO.out.trans hbb
        exact ⟨h1, by unfold subR; rw [h1]⟩
      obtain ⟨⟨x0, x1, x2⟩, -⟩ := three L2.out.2.1
      generalize subT E k n d = T at *
      obtain ⟨rk, rn, rd⟩ := T
      clear hb' hb hb2 HO
      simp only [] at C3 HR
      go_wp2_with fail
      refine Calls.mono C3.out ?_
      rintro e w3 ⟨a3, l3, c3, bs, rfl, hg, hnew, -⟩
      have ga := World.grownBy_alloc w3 (.cells #[.int .i64 rk, .int .i64 rn, .slice a3 l3 c3] 25) none
      have ba := heap_alloc_new w3 (.cells #[.int .i64 rk, .int .i64 rn, .slice a3 l3 c3] 25)
      have hgg := grown_trans hg ga
      have L3 : Hid (w.grownBy _ none ∧ _ = some (Obj.cells #[.int .i64 0, .int .i64 0, .slice none 0 0] 25) ∧ _ = some (Obj.cells #[.int .i64 rk, .int .i64 rn, .slice a3 l3 c3] 25) ∧ SlO _ 25 a3 l3 c3 rd bs ∧ bs.Nodup ∧ (∀ x ∈ bs, p1 < x)) := ⟨grown_trans L2.out.1 hgg, (hgg.block _ (lt_of_block L2.out.2.2) (by simp)).trans L2.out.2.2, ba, hnew.1.old ga, hnew.2.1, fun x hx => Nat.lt_of_lt_of_le (lt_of_block L2.out.2.2) (hnew.2.2 x hx)⟩
      have C4 : Hid _ := implTyOkT rd rk rn a3 l3 c3 _ L3.out.2.2.2.1.reads
      have hp1 : p1 < w3.heap.size := Nat.lt_of_lt_of_le (lt_of_block L2.out.2.2) hg.size
      clear hg ga ba hgg hnew C3 L2 x0 x1 x2
      simp only []
      go_wp2_with fail
      refine Calls.mono C4.out ?_
      rintro e w4 ⟨rfl, hg⟩
      obtain ⟨g3, b3, br, hs, hnd, hgt⟩ := L3.out
      have L4 : Hid (w.grownBy w4 none ∧ w4.heap[p1]? = some (Obj.cells #[.int .i64 0, .int .i64 0, .slice none 0 0] 25) ∧ _ = some (Obj.cells #[.int .i64 rk, .int .i64 rn, .slice a3 l3 c3] 25) ∧ SlO w4 25 a3 l3 c3 rd bs ∧ bs.Nodup ∧ (∀ x ∈ bs, p1 < x)) := ⟨grown_trans g3 hg, (hg.block _ (lt_of_block b3) (by simp)).trans b3, (hg.block _ (lt_of_block br) (by simp)).trans br, hs.old hg, hnd, hgt⟩
      generalize w3.heap.size = r at *
      have hpr : p1 ≠ r := by omega
      obtain ⟨⟨v0, v1, v2⟩, f0, f1, f2⟩ := three L4.out.2.1
      obtain ⟨⟨y0, y1, y2⟩, -⟩ := three L4.out.2.2.1
      clear hg g3 b3 br hs hnd hgt L3 C4
      simp only []
      cases hb : okT rk rn rd with
      | false =>
        have EN : Hid (subOk E k n d = false ∧ subR E k n d = (0, 0, .nil)) := by have := HR.out false hb; show _ ∧ _; simpa using this
        have FQ : Hid _ := ZR.out w4 L4.out.1 L4.out.2.1
        clear HR HD ZR hb
        go_wp2
        (try simp only [Exit.inBlock, Exit.then])
        refine bodyPost_ret (results_cell2 (P := Try.prog) Try.results9 _ _ p1 _ _ _ _ rfl FQ.out.1 Try.underlying25 rfl (by kernel_rfl)) rfl ?_
        rw [EN.out.1, EN.out.2]
        exact ⟨none, 0, 0, [], rfl, FQ.out.2, New.nil _ _ _⟩
      | true =>
        have EN : Hid (subOk E k n d = true ∧ subR E k n d = (rk, rn, rd)) := by have := HR.out true hb; show _ ∧ _; simpa using this
        obtain ⟨d1, k1⟩ := fill3 (.int .i64 rk) (.int .i64 rn) (.slice a3 l3 c3) L4.out.2.1
        have FQ : Hid _ := And.intro d1 (And.intro (grown_into L4.out.1 k1 (by have := PQ.out; omega)) (show New w _ 25 a3 l3 c3 rd bs from ⟨L4.out.2.2.2.1.kept k1 (fun x hx => by have := L4.out.2.2.2.2.2 x hx; simp; omega), L4.out.2.2.2.2.1, fun x hx => by have := L4.out.2.2.2.2.2 x hx; have := PQ.out; omega⟩))
        clear HR HD ZR hb d1 k1
        go_wp2
        (try simp only [Exit.inBlock, Exit.then])
        refine bodyPost_ret (results_cell2 (P := Try.prog) Try.results9 _ _ p1 _ _ _ _ rfl FQ.out.1 Try.underlying25 rfl (by kernel_rfl)) rfl ?_
        rw [EN.out.1, EN.out.2]
        exact ⟨a3, l3, c3, bs, rfl, FQ.out.2.1, FQ.out.2.2⟩
end Go.Proofs.Ytmlganaiajhjeaa.By
