/-
  TyVars of both sides by their contracts; rows of ints that are our own, compared, marked and held. No statement is proved here.
-/
import Derived.Test.YtmlganaiajhjeaaTVi
import Derived.Test.YtmlganaiajhjeaaShelf
import Derived.Sort.OwnSortedInts
import Derived.Lib.OwnBridge
namespace Go.Proofs.Ytmlganaiajhjeaa.By
open Go.RowKit Go.Sort
set_option linter.unusedVariables false
set_option linter.unusedSimpArgs false

theorem OwI.blk {B n c g : Nat} {w : World} {zs : List Int} (h : OwI B w (some ⟨g, 0, none⟩) n c zs) : B ≤ g ∧ g < w.heap.size ∧ n ≤ c ∧ c ≤ maxLen ∧ ∃ cur, w.heap[g]? = some (.cells cur 3 (0, 0)) ∧ cur.size = c * 1 ∧ cur.toList.take zs.length = zs.map (Value.int .i64) := by
  obtain ⟨⟨h1, h2⟩, hl⟩ := h
  rcases h2 with ⟨e, _⟩ | ⟨g', cap, cur, e, hB, hb, hn, hm, hs, ht⟩
  · cases e
  · injection e with e1 e2 e3
    injection e1 with e1
    injection e1 with e1
    subst e1 e3
    exact ⟨hB, lt_of_block hb, hn, hm, cur, hb, hs, by rw [hl]; simpa [valsI] using ht⟩
theorem OwI.holds {B n c g : Nat} {w : World} {zs : List Int} (h : OwI B w (some ⟨g, 0, none⟩) n c zs) : Holds (Value.int .i64) w g 0 zs.toArray := by
  obtain ⟨_, _, _, _, cur, hb, _, ht⟩ := h.blk
  exact holds_of_blockI hb ht
theorem OwI.sorted {B n c g m : Nat} {w : World} {os : Array Obj} {zs ts : List Int} (h : OwI B w (some ⟨g, 0, none⟩) n c zs) (hl : ts.length = zs.length) :
    OwI B (grow (putRow (Value.int .i64) (Sort.ahead w m) g 0 ts.toArray) os) (some ⟨g, 0, none⟩) n c ts ∧ Below B w (grow (putRow (Value.int .i64) (Sort.ahead w m) g 0 ts.toArray) os) := by
  obtain ⟨hB, hlt, hn, hm, cur, hb, hs, ht⟩ := h.blk
  have h2 := h.2
  subst h2
  exact ⟨⟨ownsRow_sortedI hl hB hb hn hm hs, hl⟩, (Below.refl B w).grown (grownBy_sortedI _) (by omega) (fun k hk => by cases hk; exact hB)⟩
theorem OwI.compacted {B n c g q k : Nat} {w : World} {zs ys : List Int} (h : OwI B w (some ⟨g, 0, none⟩) n c zs) (hy : ys.length = n) (hk : k ≤ n) :
    OwI B (putRow (Value.int .i64) (Sort.ahead w q) g 0 ys.toArray) (some ⟨g, 0, none⟩) k c (ys.take k) ∧ Below B w (putRow (Value.int .i64) (Sort.ahead w q) g 0 ys.toArray) :=
  ⟨⟨Lib.ownsRow_putRow h.1 hy hk, by rw [List.length_take]; omega⟩, Lib.below_putRow (Below.refl B w) h.blk.1⟩


set_option maxRecDepth 8000 in
set_option maxHeartbeats 1000000 in
theorem specTyVarsT (d : F) (k n : Int) (a : Option Addr) (l c : Nat) (w : World) (h : SlF w a l d) :
    Calls Try.prog 13 #[.agg #[.int .i64 k, .int .i64 n, .slice a l c]] w fun e u => ∃ a' c', e = .returned (.slice a' (varsV k n d).length c') ∧ w.grownBy u none ∧ OwI w.heap.size u a' (varsV k n d).length c' (varsV k n d) := by
  have g0 : w.grownBy (w.alloc (.cells #[.int .i64 k, .int .i64 n, .slice a l c] 25)) none := World.grownBy_alloc _ _ _
  have b0 := heap_alloc_new w (.cells #[.int .i64 k, .int .i64 n, .slice a l c] 25)
  have CC : Hid _ := specTyOkT d k n a l c _ (h.none g0)
  have FX : Hid (w.grownBy _ none ∧ SlF _ a l d ∧ _ = some (Obj.cells #[.int .i64 k, .int .i64 n, .slice a l c] 25)) := ⟨g0, h.none g0, b0⟩
  have hfl := h.1
  clear h g0 b0
  go_enter Try.func13, Try.ntmps13
  go_wp2_with fail
  refine Calls.mono CC.out ?_
  rintro e u ⟨rfl, hg⟩
  obtain ⟨g0, h, b0⟩ := FX.out
  have FY : Hid (w.grownBy u none ∧ SlF u a l d ∧ _ = some (Obj.cells #[.int .i64 k, .int .i64 n, .slice a l c] 25)) := ⟨grown_trans g0 hg, h.none hg, (hg.block _ (lt_of_block b0) (by simp)).trans b0⟩
  clear FX hg CC g0 h b0
  simp only []
  cases hb : okT k n d with
  | false =>
    have E : Hid (varsV k n d = []) := by show _ = _; unfold varsV; rw [hb]; rfl
    go_wp2
    go_ret
    exact ⟨none, 0, by rw [E.out]; rfl, FY.out.1, by rw [E.out]; exact OwI.nil _ _⟩
  | true =>
    have E : Hid (varsV k n d = insL [] (vT k n d)) := by show _ = _; unfold varsV; rw [if_pos hb]
    have hb' := hb
    simp only [okT, Bool.and_eq_true, decide_eq_true_eq] at hb'
    obtain ⟨⟨x0, x1, x2⟩, -⟩ := three FY.out.2.2
    have C2 : Hid _ := l3varsT u.heap.size (d.size + 1) d k n a l c none 0 0 [] u (Nat.lt_succ_self _) FY.out.2.1 (OwI.nil _ _) (Nat.le_refl _) (by simp; omega)
    clear hb' hb
    go_wp2_with fail
    refine Calls.mono C2.out ?_
    rintro e u2 ⟨a', c', rfl, hg, hO⟩
    have FF : Hid (w.grownBy u2 none ∧ OwI w.heap.size u2 a' (insL [] (vT k n d)).length c' (insL [] (vT k n d))) := ⟨grown_trans FY.out.1 hg, hO.mono FY.out.1.size⟩
    clear C2 FY hg hO x0 x1 x2
    simp only []
    go_wp2
    go_ret
    exact ⟨a', c', by rw [E.out]; rfl, FF.out.1, by rw [E.out]; exact FF.out.2⟩

set_option maxRecDepth 8000 in
set_option maxHeartbeats 1000000 in
theorem implTyVarsT (d : F) (k n : Int) (a : Option Addr) (l c : Nat) (w : World) (h : SlF w a l d) :
    Calls Try.prog 15 #[.agg #[.int .i64 k, .int .i64 n, .slice a l c]] w fun e u => ∃ a' c', e = .returned (.slice a' (varsV k n d).length c') ∧ w.grownBy u none ∧ OwI w.heap.size u a' (varsV k n d).length c' (varsV k n d) := by
  have g0 : w.grownBy (w.alloc (.cells #[.int .i64 k, .int .i64 n, .slice a l c] 25)) none := World.grownBy_alloc _ _ _
  have b0 := heap_alloc_new w (.cells #[.int .i64 k, .int .i64 n, .slice a l c] 25)
  have CC : Hid _ := implTyOkT d k n a l c _ (h.none g0)
  have FX : Hid (w.grownBy _ none ∧ SlF _ a l d ∧ _ = some (Obj.cells #[.int .i64 k, .int .i64 n, .slice a l c] 25)) := ⟨g0, h.none g0, b0⟩
  have hfl := h.1
  clear h g0 b0
  go_enter Try.func15, Try.ntmps15
  go_wp2_with fail
  refine Calls.mono CC.out ?_
  rintro e u ⟨rfl, hg⟩
  obtain ⟨g0, h, b0⟩ := FX.out
  have FY : Hid (w.grownBy u none ∧ SlF u a l d ∧ _ = some (Obj.cells #[.int .i64 k, .int .i64 n, .slice a l c] 25)) := ⟨grown_trans g0 hg, h.none hg, (hg.block _ (lt_of_block b0) (by simp)).trans b0⟩
  clear FX hg CC g0 h b0
  simp only []
  cases hb : okT k n d with
  | false =>
    have E : Hid (varsV k n d = []) := by show _ = _; unfold varsV; rw [hb]; rfl
    go_wp2
    go_ret
    exact ⟨none, 0, by rw [E.out]; rfl, FY.out.1, by rw [E.out]; exact OwI.nil _ _⟩
  | true =>
    have E : Hid (varsV k n d = insL [] (vT k n d)) := by show _ = _; unfold varsV; rw [if_pos hb]
    have hb' := hb
    simp only [okT, Bool.and_eq_true, decide_eq_true_eq] at hb'
    obtain ⟨⟨x0, x1, x2⟩, -⟩ := three FY.out.2.2
    have C2 : Hid _ := addVarsT u.heap.size (d.size + 1) d k n a l c (.slice none 0 0) [] u u (Nat.lt_succ_self _) FY.out.2.1 rfl (Below.refl _ _) ⟨rfl, .inl ⟨rfl, rfl⟩⟩ (by simp; omega)
    have hvl := vT_len k n d
    rw [← sorted_compact] at E
    clear hb
    generalize vT k n d = vs at *
    go_wp2_with fail
    refine Calls.mono C2.out ?_
    rintro e u2 ⟨v', rfl, hA, hF⟩
    simp only [List.nil_append] at hA
    obtain ⟨-, a', c', rfl, hO⟩ := ownsV hA
    have FA : Hid (w.grownBy u2 none ∧ OwI u.heap.size u2 a' vs.length c' vs ∧ w.heap.size ≤ u.heap.size ∧ Below u.heap.size u u2 ∧ w.grownBy u none) := ⟨grown_trans FY.out.1 (grown_of_belowV hF.below), hO, FY.out.1.size, hF.below, FY.out.1⟩
    clear C2 FY hA hF hO x0 x1 x2
    simp only []
    by_cases hv : vs.length = 0
    · obtain rfl : vs = [] := List.eq_nil_of_length_eq_zero hv
      have E2 : Hid (varsV k n d = []) := by show _ = _; rw [E.out]; simp [Lib.compact, Lib.compactUpTo]
      have FB : Hid (w.grownBy u2 none ∧ OwI w.heap.size u2 a' 0 c' []) := ⟨FA.out.1, FA.out.2.1.mono FA.out.2.2.1⟩
      clear E FA hvl
      go_wp2_with fail
      refine Calls.mono (Try.slices_Sort_int_none a' c' u2) ?_
      rintro e u3 ⟨rfl, rfl⟩
      simp only []
      go_wp2_with fail
      refine Calls.mono (Try.slices_Compact_int_empty a' c' u3) ?_
      rintro e u4 ⟨rfl, rfl⟩
      simp only []
      go_wp2
      go_ret
      exact ⟨a', c', by rw [E2.out]; rfl, FB.out.1, by rw [E2.out]; exact FB.out.2⟩
    obtain ⟨g, rfl⟩ : ∃ g, a' = some (⟨g, 0, none⟩ : Addr) := by
      rcases FA.out.2.1.1.2 with ⟨e, h0⟩ | ⟨g, cap, cur, e, _⟩
      · exact absurd h0 hv
      · injection e with e1; exact ⟨g, e1⟩
    have CS : Hid _ := Try.slices_Sort_int g 0 c' vs u2 FA.out.2.1.holds FA.out.2.1.blk.2.1 (by omega)
    clear hv
    go_wp2_with fail
    refine Calls.mono CS.out ?_
    rintro e u3 ⟨rfl, m, os, hu3⟩
    have hsl : (vs.mergeSort fun x y => decide (x ≤ y)).length = vs.length := List.length_mergeSort vs
    obtain ⟨hO3, hB3⟩ := FA.out.2.1.sorted (m := m) (os := os) hsl
    rw [← hu3] at hO3 hB3
    have FB : Hid (OwI u.heap.size u3 (some ⟨g, 0, none⟩) vs.length c' (vs.mergeSort fun x y => decide (x ≤ y)) ∧ Below u.heap.size u u3 ∧ w.heap.size ≤ u.heap.size ∧ w.grownBy u none) := ⟨hO3, FA.out.2.2.2.1.trans hB3, FA.out.2.2.1, FA.out.2.2.2.2⟩
    clear hO3 hB3 hu3 FA CS
    generalize (vs.mergeSort fun x y => decide (x ≤ y)) = ts at *
    have CK : Hid _ := Try.slices_Compact_int g 0 c' ts u3 FB.out.1.holds (by omega) (by have := FB.out.1.blk.2.2.1; omega)
    have hsl' : vs.length = ts.length := hsl.symm
    generalize vs.length = nv at *
    subst hsl'
    simp only []
    go_wp2_with fail
    refine Calls.mono CK.out ?_
    rintro e u4 ⟨rfl, q, hu4⟩
    have hcl := Lib.compact_length_le ts
    obtain ⟨hO4, hB4⟩ := FB.out.1.compacted (q := q) (k := (Lib.compact ts).length) (ys := Lib.compact ts ++ List.replicate (ts.length - (Lib.compact ts).length) 0) (by simp; omega) hcl
    rw [← hu4, List.take_left] at hO4
    rw [← hu4] at hB4
    have FC : Hid (w.grownBy u4 none ∧ OwI w.heap.size u4 (some ⟨g, 0, none⟩) (Lib.compact ts).length c' (Lib.compact ts)) := ⟨grown_trans FB.out.2.2.2 (grown_of_belowV (FB.out.2.1.trans hB4)), hO4.mono FB.out.2.2.1⟩
    clear hO4 hB4 hu4 FB CK
    simp only []
    go_wp2
    go_ret
    exact ⟨some ⟨g, 0, none⟩, c', by rw [E.out]; rfl, FC.out.1, by rw [E.out]; exact FC.out.2⟩

end Go.Proofs.Ytmlganaiajhjeaa.By
