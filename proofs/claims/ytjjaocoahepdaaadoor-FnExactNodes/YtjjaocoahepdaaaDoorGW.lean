/-
  Lists of rows of bytes: how great, copied, compared: the law's own helpers by their contracts. No statement is proved here.
-/
import Derived.Test.YtjjaocoahepdaaaDoorGW0Also
import Derived.Test.YtjjaocoahepdaaaDoorGSAlso
import Derived.Test.YtjjaocoahepdaaaDoorEC0
import Derived.Test.YtjjaocoahepdaaaDoorEEq
import Derived.Deep.RegionHeld
namespace Go.Proofs.YtjjaocoahepdaaaDoor.By
open Go.RowKit
set_option linter.unusedVariables false
set_option linter.unusedSimpArgs false

set_option maxHeartbeats 2000000 in
theorem szWW (a : Option Addr) (l c : Nat) (cs : List (List Int)) (L : Int) (w : World) (h : SlSS w a l cs) (h0 : 0 ≤ L) (h1 : L ≤ 1048576) :
    Calls Tryd.prog 32 #[.slice a l c, .int .i64 L] w fun e u => SzW L (szW cs) e ∧ w.grownBy u none := by
  have hlen := szW_len cs
  have hl := h.2.1
  have hfl := h.1
  by_cases hneg : L - (l : Int) < 0
  · go_enter Tryd.func32, Tryd.ntmps32
    go_wp2
    go_ret
    exact ⟨⟨-1, rfl, .inl rfl⟩, World.grownBy.refl _ _⟩
  rcases h.cases with ⟨rfl, rfl⟩ | ⟨b, o, rfl, hin, hpos⟩
  · go_enter Tryd.func32, Tryd.ntmps32
    go_wp2
    refine wp_loop_rounds 1 ?_
    rw [rounds_succ]
    go_wp2
    go_ret
    exact ⟨⟨_, rfl, .inr ⟨by omega, by simp [szW]⟩⟩, World.grownBy.refl _ _⟩
  have IN : Hid (InSS w w cs b o) := hin
  clear hin h
  go_enter Tryd.func32, Tryd.ntmps32
  go_wp2
  go_loopw [1, 5] (fun v i wr => ∃ (j : Nat) (R : List (List Int)) (Lj : Int), j ≤ l ∧ i = .int .i64 j ∧ v = .int .i64 Lj ∧ 0 ≤ Lj ∧ Lj ≤ 1048576 ∧ Hid (w.grownBy wr none ∧ InSS wr wr R b (o + j)) ∧ R.length + j = l ∧ Hid (Lj - (szW R - R.length : Int) ≤ L - szW cs)) (fun _ i _ => l - (intOf i).toNat)
  case atStart =>
    refine ⟨0, cs, _, Nat.zero_le _, rfl, rfl, by omega, by omega, ⟨World.grownBy.refl _ _, by simpa using IN.out⟩, by omega, ?_⟩
    show (_ : Int) ≤ _
    omega
  case round =>
    obtain ⟨j, R, Lj, hj, rfl, rfl, hj0, hj1, HR, hRl, HV⟩ := hrel
    by_cases hlt : j < l
    · obtain ⟨x, R', rfl⟩ : ∃ x R', R = x :: R' := by
        cases R with
        | nil => simp at hRl; omega
        | cons x R' => exact ⟨x, R', rfl⟩
      obtain ⟨hg, ⟨a', n', c', k0, hd1⟩, hR2⟩ := HR.out
      rw [show o + j + 1 = o + (j + 1) by omega] at hR2
      have CC : Hid _ := szByW a' n' c' x Lj wr hd1 hj0 hj1
      have FX : Hid (InSS wr wr R' b (o + (j + 1)) ∧ w.grownBy wr none) := ⟨hR2, hg⟩
      clear hd1 hR2 hg IN HR
      simp only [List.length_cons] at hRl
      go_wp2_with fail
      refine Calls.mono CC.out ?_
      rintro e u ⟨⟨r, he, hr⟩, hgu⟩
      subst he
      have FY : Hid (w.grownBy u none ∧ InSS u u R' b (o + (j + 1))) := ⟨grown_trans FX.out.2 hgu, FX.out.1.le (CLe.grown hgu) (CLe.grown hgu)⟩
      have hl2 := szW_len R'
      have hv := HV.out
      simp only [szW, List.length_cons] at hv
      clear CC hgu FX k0 HV
      simp only []
      rcases hr with rfl | ⟨hr0, hr1⟩
      · go_wp2
        go_ret
        exact ⟨⟨-1, rfl, .inl rfl⟩, FY.out.1⟩
      · have HV2 : Hid (r - (szW R' - R'.length : Int) ≤ L - szW cs) := by show (_ : Int) ≤ _; omega
        clear hv
        go_wp2
        go_roundw
        case rel => exact ⟨j + 1, R', r, by omega, by go_num, rfl, by omega, by omega, FY, by omega, HV2⟩
        case measure => simp [intOf]; omega
    · obtain rfl : j = l := by omega
      obtain rfl : R = [] := List.eq_nil_of_length_eq_zero (by omega)
      have E : Hid ((Lj ≤ L - szW cs) ∧ w.grownBy wr none) := ⟨by have := HV.out; simp [szW] at this; omega, HR.out.1⟩
      clear HR IN HV
      go_wp2
      go_ret
      exact ⟨⟨Lj, rfl, .inr ⟨hj0, by have := E.out.1; omega⟩⟩, E.out.2⟩

set_option maxHeartbeats 2000000 in
theorem eqWW (a a' : Option Addr) (l c c' : Nat) (cs : List (List Int)) (w : World) (h : SlSS w a l cs) (h' : SlSS w a' l cs) (hs : szW cs ≤ 1048576) :
    Calls Tryd.prog 46 #[.slice a l c, .slice a' l c'] w fun e u => e = .returned (.bool true) ∧ w.grownBy u none := by
  have hl := h.2.1
  have hfl := h.1
  rcases h.cases with ⟨rfl, rfl⟩ | ⟨b, o, rfl, hin, hpos⟩
  · go_enter Tryd.func46, Tryd.ntmps46
    go_wp2
    refine wp_loop_rounds 1 ?_
    rw [rounds_succ]
    go_wp2
    go_ret
    exact ⟨rfl, World.grownBy.refl _ _⟩
  rcases h'.cases with ⟨rfl, rfl⟩ | ⟨b', o', rfl, hin', -⟩
  · exact absurd hpos (by omega)
  have IN : Hid (InSS w w cs b o ∧ InSS w w cs b' o') := ⟨hin, hin'⟩
  clear hin hin' h h'
  go_enter Tryd.func46, Tryd.ntmps46
  go_wp2
  go_loopw [5] (fun i wr => ∃ (j : Nat) (R : List (List Int)), j ≤ l ∧ i = .int .i64 j ∧ Hid (w.grownBy wr none ∧ InSS wr wr R b (o + j) ∧ InSS wr wr R b' (o' + j)) ∧ szW R ≤ 1048576 ∧ R.length + j = l) (fun i _ => l - (intOf i).toNat)
  case atStart => exact ⟨0, cs, Nat.zero_le _, rfl, ⟨World.grownBy.refl _ _, by simpa using IN.out.1, by simpa using IN.out.2⟩, hs, by omega⟩
  case round =>
    obtain ⟨j, R, hj, rfl, HR, hRs, hRl⟩ := hrel
    by_cases hlt : j < l
    · obtain ⟨x, R', rfl⟩ : ∃ x R', R = x :: R' := by
        cases R with
        | nil => simp at hRl; omega
        | cons x R' => exact ⟨x, R', rfl⟩
      obtain ⟨hg, ⟨⟨a1, n1, c1, k0, hd1⟩, hR2⟩, ⟨⟨a3, n3, c3, m0, hd3⟩, hR3⟩⟩ := HR.out
      rw [show o + j + 1 = o + (j + 1) by omega] at hR2
      rw [show o' + j + 1 = o' + (j + 1) by omega] at hR3
      obtain rfl : n1 = n3 := by have := hd1.1.1; have := hd3.1.1; omega
      simp only [szW] at hRs
      have gd := grown_drew (World.grownBy.refl wr none)
      have gc := CLe.grown gd
      have CC : Hid _ := eqBy a1 a3 n1 c1 c3 x wr.drew (hd1.none gd).1 (hd3.none gd).1 (by have := hd1.1.1; omega)
      have TT : Hid (∀ u, wr.grownBy u none → u.cell? ⟨b, o + j, none⟩ = some (.slice a1 n1 c1) ∧ u.cell? ⟨b', o' + j, none⟩ = some (.slice a3 n1 c3)) := fun u hu => ⟨hu.cell k0 (by simp), hu.cell m0 (by simp)⟩
      have FX : Hid (w.grownBy wr.drew none ∧ InSS wr.drew wr.drew R' b (o + (j + 1)) ∧ InSS wr.drew wr.drew R' b' (o' + (j + 1)) ∧ wr.grownBy wr.drew none) := ⟨grown_trans hg gd, hR2.le gc gc, hR3.le gc gc, gd⟩
      clear hd1 hd3 hR2 hR3 hg IN HR gd gc k0 m0
      simp only [List.length_cons] at hRl
      go_wp2_with fail
      refine wp_region_held_drew (S := (fun u => u.cell? ⟨b, o + j, none⟩ = some (.slice a1 n1 c1) ∧ u.cell? ⟨b', o' + j, none⟩ = some (.slice a3 n1 c3))) (by kernel_rfl) (TT.out _ FX.out.2.2.2) (fun hH => ?_)
      generalize wr.drew = u at *
      simp only [List.size_toArray, List.length_cons, List.length_nil, Nat.reduceAdd, Array.replicate, List.replicate]
      refine wpAnyH_take (i := 0) (v := ?_) rfl (by kernel_rfl) (by kernel_rfl) (by kernel_rfl) (fun _ _ _ h => h) (Or.inl ⟨by rfl, ?_⟩) hH ?_
      rotate_left
      · (intro v hS; obtain ⟨s0, s1⟩ := hS; go_simp; try with_reducible rfl)
      simp only [Act.put, List.setIfInBounds_toArray, List.set_cons_zero, List.set_cons_succ, List.getElem_toArray, List.getElem_cons_succ, List.getElem_cons_zero]
      refine wpAnyH_take (i := 1) (v := ?_) rfl (by kernel_rfl) (by kernel_rfl) (by kernel_rfl) (fun _ _ _ h => h) (Or.inl ⟨by rfl, ?_⟩) hH ?_
      rotate_left
      · (intro v hS; obtain ⟨s0, s1⟩ := hS; go_simp; try with_reducible rfl)
      simp only [Act.put, List.setIfInBounds_toArray, List.set_cons_zero, List.set_cons_succ, List.getElem_toArray, List.getElem_cons_succ, List.getElem_cons_zero]
      refine wpAnyH_take (i := 2) (v := ?_) rfl (by kernel_rfl) (by kernel_rfl) (by kernel_rfl) (fun _ _ _ h => h) (Or.inl ⟨by rfl, ?_⟩) hH ?_
      rotate_left
      · (intro v hS; obtain ⟨s0, s1⟩ := hS; go_simp; try with_reducible rfl)
      simp only [Act.put, List.setIfInBounds_toArray, List.set_cons_zero, List.set_cons_succ, List.getElem_toArray, List.getElem_cons_succ, List.getElem_cons_zero]
      refine wpAnyH_take (i := 3) (v := ?_) rfl (by kernel_rfl) (by kernel_rfl) (by kernel_rfl) (fun _ _ _ h => h) (Or.inl ⟨by rfl, ?_⟩) hH ?_
      rotate_left
      · (intro v hS; obtain ⟨s0, s1⟩ := hS; go_simp; try with_reducible rfl)
      simp only [Act.put, List.setIfInBounds_toArray, List.set_cons_zero, List.set_cons_succ, List.getElem_toArray, List.getElem_cons_succ, List.getElem_cons_zero]
      refine wpAnyH_take (i := 4) (v := ?_) rfl (by kernel_rfl) (by kernel_rfl) (by kernel_rfl) (fun _ _ _ h => h) (Or.inl ⟨by rfl, ?_⟩) hH ?_
      rotate_left
      · (intro v hS; obtain ⟨s0, s1⟩ := hS; go_simp; try with_reducible rfl)
      simp only [Act.put, List.setIfInBounds_toArray, List.set_cons_zero, List.set_cons_succ, List.getElem_toArray, List.getElem_cons_succ, List.getElem_cons_zero]
      refine wpAnyH_take (i := 5) (v := ?_) rfl (by kernel_rfl) (by kernel_rfl) (by kernel_rfl) (fun _ _ _ h => h) (Or.inl ⟨by rfl, ?_⟩) hH ?_
      rotate_left
      · (intro v hS; obtain ⟨s0, s1⟩ := hS; go_simp; try with_reducible rfl)
      simp only [Act.put, List.setIfInBounds_toArray, List.set_cons_zero, List.set_cons_succ, List.getElem_toArray, List.getElem_cons_succ, List.getElem_cons_zero]
      refine wpAnyH_take (i := 6) (v := ?_) rfl (by kernel_rfl) (by kernel_rfl) (by kernel_rfl) (fun _ _ _ h => h) (Or.inl ⟨by rfl, ?_⟩) hH ?_
      rotate_left
      · (intro v hS; obtain ⟨s0, s1⟩ := hS; go_simp; try with_reducible rfl)
      simp only [Act.put, List.setIfInBounds_toArray, List.set_cons_zero, List.set_cons_succ, List.getElem_toArray, List.getElem_cons_succ, List.getElem_cons_zero]
      refine wpAnyH_take (i := 7) (v := ?_) rfl (by kernel_rfl) (by kernel_rfl) (by kernel_rfl) (fun _ _ _ h => h) (Or.inl ⟨by rfl, ?_⟩) hH ?_
      rotate_left
      · (intro v hS; obtain ⟨s0, s1⟩ := hS; go_simp; try with_reducible rfl)
      simp only [Act.put, List.setIfInBounds_toArray, List.set_cons_zero, List.set_cons_succ, List.getElem_toArray, List.getElem_cons_succ, List.getElem_cons_zero]
      refine wpAnyH_ready (rs := [8]) (by kernel_rfl) (by simp) ?_
      refine AllReadyH.cons rfl (fun K hK => ?_) AllReadyH.nil
      go_simp
      refine Calls.mono CC.out ?_
      rintro e u2 ⟨he, hgu⟩
      subst he
      refine hK.out _ _ (TT.out _ (grown_trans FX.out.2.2.2 hgu)) (fun hH2 => ?_)
      clear hK K hH
      have hH := hH2
      clear hH2
      have FY : Hid (w.grownBy u2 none ∧ InSS u2 u2 R' b (o + (j + 1)) ∧ InSS u2 u2 R' b' (o' + (j + 1))) := ⟨grown_trans FX.out.1 hgu, FX.out.2.1.le (CLe.grown hgu) (CLe.grown hgu), FX.out.2.2.1.le (CLe.grown hgu) (CLe.grown hgu)⟩
      clear FX hgu CC TT
      simp only [Act.put, List.setIfInBounds_toArray, List.set_cons_zero, List.set_cons_succ, List.getElem_toArray, List.getElem_cons_succ, List.getElem_cons_zero]
      refine wpAnyH_take (i := 9) (v := ?_) rfl (by kernel_rfl) (by kernel_rfl) (by kernel_rfl) (fun _ _ _ h => h) (Or.inl ⟨by rfl, ?_⟩) hH ?_
      rotate_left
      · (intro v hS; go_simp; try with_reducible rfl)
      simp only [Act.put, List.setIfInBounds_toArray, List.set_cons_zero, List.set_cons_succ, List.getElem_toArray, List.getElem_cons_succ, List.getElem_cons_zero]
      refine wpAnyH_done (by kernel_rfl) ?_ _
      go_wp2
      go_roundw
      case rel => exact ⟨j + 1, R', by omega, by go_num, FY, by omega, by omega⟩
      case measure => simp [intOf]; omega
    · obtain rfl : j = l := by omega
      have E : Hid (w.grownBy wr none) := HR.out.1
      clear HR IN
      go_wp2
      go_ret
      exact ⟨rfl, E.out⟩

theorem infoWW : (Tryd.prog.info? 22).map (fun i => (i.zero, i.size, i.bytes)) = some (some (.slice none 0 0), 1, 24) := by kernel_rfl
theorem makeWW (n : Nat) (hn : n ≤ 4194304) (w : World) : (Instr.makeSlice 48 (.int .i64 (n : Int)) (.int .i64 (n : Int))).run Tryd.prog w = .ok (.slice (some ⟨w.heap.size, 0, none⟩) n n) (w.alloc (.cells (madeCells #[.slice none 0 0] n) 22)) := by
  obtain ⟨i0, hi, hz0, hz1, hz2⟩ := info_parts infoWW
  have h := run_make (P := Tryd.prog) (w := w) 48 22 i0 _ Tryd.underlying48 hi hz0 .i64 .i64 (n : Int) (n : Int) (by omega) (by omega) (by rw [hz2]; omega) (by omega)
  rw [hz1] at h
  simpa [Value.cells] using h
theorem makeWW0 (w : World) : (Instr.makeSlice 48 (.int .i64 0) (.int .i64 0)).run Tryd.prog w = .ok (.slice (some ⟨w.heap.size, 0, none⟩) 0 0) (w.alloc (.cells (madeCells #[.slice none 0 0] 0) 22)) := makeWW 0 (by omega) w
theorem madeWW_blk (w : World) (n : Nat) : BlkN (w.alloc (.cells (madeCells #[.slice none 0 0] n) 22)) 22 w.heap.size n := ⟨_, heap_alloc_new w _, by simp [madeCells]⟩

set_option maxHeartbeats 2000000 in
theorem toWW (a : Option Addr) (l c : Nat) (cs : List (List Int)) (w : World) (h : SlSS w a l cs) (hs : szW cs ≤ 1048576) :
    Calls Tryd.prog 37 #[.slice a l c] w fun e u => ∃ a' c', e = .returned (.slice a' l c') ∧ w.grownBy u none ∧ SlSC (hideW u w.heap.size) a' l c' cs := by
  have hlen := szW_len cs
  have hl := h.2.1
  have hfl := h.1
  rcases h.cases with ⟨rfl, rfl⟩ | ⟨b, o, rfl, hin, hpos⟩
  · have hmk := makeWW0
    go_enter Tryd.func37, Tryd.ntmps37
    go_wp2
    refine wp_loop_rounds 1 ?_
    rw [rounds_succ]
    go_wp2
    go_ret
    exact ⟨_, _, rfl, World.grownBy_alloc _ _ _, ⟨⟨rfl, by omega, .inl rfl⟩, Nat.le_refl _⟩⟩
  have hmk := makeWW l (by omega)
  have hb0 := madeWW_blk w l
  have IN : Hid (InSS w w cs b o) := hin
  have HB : Hid _ := hb0
  clear hin h hb0
  go_enter Tryd.func37, Tryd.ntmps37
  go_wp2
  go_loopw [4] (fun i wr => ∃ (j : Nat) (P R : List (List Int)), j ≤ l ∧ i = .int .i64 j ∧ P.length = j ∧ R.length + j = l ∧ szW R ≤ 1048576 ∧ Hid (w.grownBy wr none ∧ InSS w w R b (o + j) ∧ BlkN wr 22 w.heap.size l ∧ InSS wr (hideW wr (w.heap.size + 1)) P w.heap.size 0 ∧ P ++ R = cs)) (fun i _ => l - (intOf i).toNat)
  case atStart => exact ⟨0, [], cs, Nat.zero_le _, rfl, rfl, by omega, hs, World.grownBy_alloc _ _ _, by simpa using IN.out, HB.out, trivial, rfl⟩
  case round =>
    obtain ⟨j, P, R, hj, rfl, hPl, hRl, hRs, HR⟩ := hrel
    by_cases hlt : j < l
    · obtain ⟨x, R', rfl⟩ : ∃ x R', R = x :: R' := by
        cases R with
        | nil => simp at hRl; omega
        | cons x R' => exact ⟨x, R', rfl⟩
      obtain ⟨hg, ⟨⟨a1, n1, c1, k0, hd1⟩, hR2⟩, hB, hP, hcs⟩ := HR.out
      rw [show o + j + 1 = o + (j + 1) by omega] at hR2
      simp only [szW] at hRs
      simp only [List.length_cons] at hRl
      have k0 := hg.cell k0 (by simp)
      have hnx : n1 ≤ 1048576 := by have := hd1.1.1; omega
      have CC : Hid _ := toB a1 n1 c1 x wr (hd1.none hg).1 hnx
      have FX : Hid (w.grownBy wr none ∧ InSS w w R' b (o + (j + 1)) ∧ BlkN wr 22 w.heap.size l ∧ InSS wr (hideW wr (w.heap.size + 1)) P w.heap.size 0 ∧ (P ++ [x]) ++ R' = cs ∧ Byt x ∧ x.length = n1) := ⟨hg, hR2, hB, hP, by rw [List.append_assoc]; exact hcs, hd1.2.1, hd1.1.1⟩
      clear hd1 hR2 hg hB hP hcs IN HR hmk HB
      go_wp2_with fail
      refine Calls.mono CC.out ?_
      rintro e u ⟨g, he, hgu, hgl, hrow⟩
      subst he
      have hBu := FX.out.2.2.1.of (hgu.block _ FX.out.2.2.1.lt (by simp))
      obtain ⟨_, q0⟩ := hBu.has j (by omega)
      have ff0 := hBu.free j
      have FY : Hid (BlkN u 22 w.heap.size l ∧ wr.grownBy u none ∧ RdB (hideW u wr.heap.size) (some ⟨g, 0, none⟩) n1 x) := ⟨hBu, hgu, hrow.hid FX.out.2.2.2.2.2.1 FX.out.2.2.2.2.2.2 hnx hgl⟩
      clear CC hgu hrow hBu k0 hgl
      simp only []
      go_wp2
      obtain ⟨hg, hR2, hB, hP, hcs, -, -⟩ := FX.out
      obtain ⟨hBu, hgu, hr1⟩ := FY.out
      have hsz := hB.lt
      obtain ⟨hB3, hk3, tq, hoth⟩ := hBu.set j (by omega) (.slice (some ⟨g, 0, none⟩) n1 n1)
      have hfx : ∀ i, w.heap.size + 1 ≤ i → i < wr.heap.size → _ = wr.heap[i]? := fun i h1 h2 => (hk3.block i (Nat.lt_of_lt_of_le h2 hgu.size) (by simp; omega)).trans (hgu.block i h2 (by simp))
      have hfu : ∀ i, wr.heap.size ≤ i → i < u.heap.size → _ = u.heap[i]? := fun i h1 h2 => hk3.block i h2 (by simp; omega)
      have hP2 := hP.move (b' := w.heap.size) (off' := 0) (fun i v hi hv => (hoth (0 + i) (by rw [hPl] at hi; omega)).trans (hgu.cell hv (by simp))) (CLe.hide (Nat.le_refl _) hfx)
      have cl := CLe.hide (lo' := w.heap.size + 1) (by omega) hfu
      have hQ := hP2.app (Q := [x]) ⟨⟨_, n1, _, by rw [hPl, Nat.zero_add]; exact tq, hr1.le cl⟩, trivial⟩
      go_roundw
      case rel => exact ⟨j + 1, P ++ [x], R', by omega, by go_num, by simp [hPl], by omega, by omega, grown_into (grown_trans hg hgu) hk3 (Nat.le_refl _), hR2, hB3, hQ, hcs⟩
      case measure => simp [intOf]; omega
    · obtain rfl : j = l := by omega
      obtain rfl : R = [] := List.eq_nil_of_length_eq_zero (by omega)
      obtain ⟨hg, -, hB, hP, hcs⟩ := HR.out
      rw [List.append_nil] at hcs
      subst hcs
      have FQ : Hid (w.grownBy wr none ∧ SlSS (hideW wr w.heap.size) (some ⟨w.heap.size, 0, none⟩) j P) := ⟨hg, hPl, by omega, .inr ⟨_, _, rfl, hP.move (fun i v hi hv => (hideW_cell (Nat.le_refl _)).trans hv) (CLe.hide (Nat.le_succ _) (fun _ _ _ => rfl))⟩⟩
      clear hg hB hP HR IN HB hmk
      go_wp2
      go_ret
      exact ⟨_, _, rfl, FQ.out.1, FQ.out.2, Nat.le_refl _⟩
end Go.Proofs.YtjjaocoahepdaaaDoor.By
