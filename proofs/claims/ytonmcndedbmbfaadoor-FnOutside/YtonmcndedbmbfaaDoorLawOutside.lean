/-
  The walk of laws.FnOutside. No statement is proved here.
-/
import Derived.Test.YtonmcndedbmbfaaDoorHDrawS
import Derived.Test.YtonmcndedbmbfaaDoorHAnsLoad
import Derived.Test.YtonmcndedbmbfaaDoorHStoreN
import Derived.Test.YtonmcndedbmbfaaDoorHLog
import Derived.Test.YtonmcndedbmbfaaDoorLawPlaces
namespace Go.Proofs.YtonmcndedbmbfaaDoor.By
open Go.RowKit
set_option linter.unusedVariables false
set_option linter.unusedSimpArgs false

theorem insideB_all {half : Int} {ls : List Int} {m : Nat} (h : insideB half ls m = true) (k : Nat) (hk : k < m) : strayB half (ls.getD (k * 3) 0) (ls.getD (k * 3 + 1) 0) (ls.getD (k * 3 + 2) 0) = false := by
  cases e : strayB half (ls.getD (k * 3) 0) (ls.getD (k * 3 + 1) 0) (ls.getD (k * 3 + 2) 0) with
  | false => rfl
  | true => rw [insideB_false k hk e] at h; cases h
theorem getD_left (l l' : List Int) (j : Nat) (h : j < l.length) : (l ++ l').getD j 0 = l.getD j 0 := by
  rw [List.getD_eq_getElem?_getD, List.getElem?_append_left h, ← List.getD_eq_getElem?_getD]
theorem getD_right (l l' : List Int) (j i : Nat) (h : j = l.length + i) : (l ++ l').getD j 0 = l'.getD i 0 := by
  subst h
  rw [List.getD_eq_getElem?_getD, List.getElem?_append_right (by omega), List.getD_eq_getElem?_getD]
  congr 2; omega
theorem getD_drop3 (l : List Int) (j : Nat) : (l.drop 3).getD j 0 = l.getD (3 + j) 0 := by
  rw [List.getD_eq_getElem?_getD, List.getElem?_drop, ← List.getD_eq_getElem?_getD]
theorem inside_push {half : Int} {ls : List Int} {m : Nat} (h : insideB half ls m = true) (hl : ls.length = m * 3) (x y z : Int) (hs : strayB half x y z = false) : insideB half (pushL m ls x y z) (pushM m) = true := by
  by_cases h4 : m = 4000
  · subst h4
    have e1 : pushM 4000 = 4000 := rfl
    have e2 : pushL 4000 ls x y z = ls.drop 3 ++ [x, y, z] := rfl
    rw [e1, e2]
    have hd : (ls.drop 3).length = 11997 := by simp [hl]
    refine insideB_true (fun k hk => ?_)
    by_cases hk2 : k < 3999
    · rw [getD_left _ _ _ (by omega), getD_left _ _ _ (by omega), getD_left _ _ _ (by omega), getD_drop3, getD_drop3, getD_drop3]
      have := insideB_all h (k + 1) (by omega)
      have a1 : (k + 1) * 3 = 3 + k * 3 := by omega
      have a2 : (k + 1) * 3 + 1 = 3 + (k * 3 + 1) := by omega
      have a3 : (k + 1) * 3 + 2 = 3 + (k * 3 + 2) := by omega
      rw [a2, a3, a1] at this
      exact this
    · rw [getD_right _ _ (k * 3) 0 (by omega), getD_right _ _ (k * 3 + 1) 1 (by omega), getD_right _ _ (k * 3 + 2) 2 (by omega)]
      exact hs
  · have e1 : pushM m = m + 1 := if_neg h4
    have e2 : pushL m ls x y z = ls ++ [x, y, z] := by unfold pushL; rw [if_neg h4]
    rw [e1, e2]
    refine insideB_true (fun k hk => ?_)
    by_cases hk2 : k < m
    · rw [getD_left _ _ _ (by omega), getD_left _ _ _ (by omega), getD_left _ _ _ (by omega)]
      exact insideB_all h k hk2
    · rw [getD_right _ _ (k * 3) 0 (by omega), getD_right _ _ (k * 3 + 1) 1 (by omega), getD_right _ _ (k * 3 + 2) 2 (by omega)]
      exact hs

set_option maxRecDepth 20000 in
set_option maxHeartbeats 4000000 in
theorem lawOutside (a0 : Option Addr) (n0 cap0 : Nat) (zs : List Int) (w : World) (hr : Reads w a0 n0 zs) (hz : Byt zs) (hn0 : n0 ≤ 9223372036854775807) (er : Addr)
    (he : w.cell? ⟨1, 0, none⟩ = some (.iface 97 (.pointer (some er)))) :
    Calls Tryd.prog 4 #[.slice a0 n0 cap0] w fun e w' => e = .returned (.bool true) ∧ w.grownBy w' none := by
  have HR : Hid _ := And.intro hr (And.intro hz he)
  clear hr hz he
  go_enter Tryd.func4, Tryd.ntmps4
  go_wp2_with fail
  refine (drawStoreT a0 n0 cap0 zs w HR.out.1 HR.out.2.1 hn0).mono ?_
  rintro e u1 ⟨av, n, c, half, low, next, bv, m, d, ws, ls, t, o, x, rfl, G1, r1, r2, na, nb, fits⟩
  have ga := World.grownBy_alloc u1 (.cells #[.slice av n c, .int .i64 half, .int .i64 low, .int .i64 next, .slice bv m d] 26) none
  have ba := heap_alloc_new u1 (.cells #[.slice av n c, .int .i64 half, .int .i64 low, .int .i64 next, .slice bv m d] 26)
  have W2 : Hid _ := And.intro (grown_trans G1 ga) (And.intro (ba) (And.intro (r1.none ga) (And.intro (r2.none ga) (And.intro (na) (nb)))))
  obtain ⟨fn1, fn2, fn3, fn4, fn5, fn6, fn7, fn8⟩ := fits
  clear G1 r1 r2 na nb ga ba
  generalize hp3 : u1.heap.size = p3 at *
  generalize hu2 : u1.alloc (.cells #[.slice av n c, .int .i64 half, .int .i64 low, .int .i64 next, .slice bv m d] 26) = u2 at *
  have HU : Hid _ := hu2
  clear hu2
  simp only []
  go_wp2_with fail
  (try rw [HU.out])
  obtain ⟨G, b3, r1, r2, na, nb⟩ := W2.out
  clear HU hp3
  cases hok : okB half n low next m with
  | false =>
    refine (implStore0 n m c d av bv half low next t o x u2 hok).mono ?_
    rintro e u3 ⟨rfl, k3⟩
    have b3' := blkP k3 b3
    have ga := World.grownBy_alloc u3 (.cells #[.slice none 0 0, .int .i64 0, .int .i64 0, .int .i64 0, .slice none 0 0] 26) none
    have lt4 : p3 < u3.heap.size := lt_of_block b3'
    obtain ⟨⟨v0, v1, v2, v3, v4⟩, -⟩ := five b3'
    have W3 : Hid _ := And.intro (grown_trans (grown_trans G k3) ga) (blkP ga b3')
    clear W2 G b3 r1 r2 na nb k3 b3' ga
    simp only []
    go_wp2_with fail
    refine (implLoad0 n m c d av bv half low next t o _ hok).mono ?_
    rintro e u5 ⟨rfl, k5⟩
    have b5 := blkP k5 W3.out.2
    have gb := World.grownBy_alloc u5 (.cells #[.slice none 0 0, .int .i64 0, .int .i64 0, .int .i64 0, .slice none 0 0] 26) none
    have lt5 : p3 < u5.heap.size := lt_of_block b5
    clear v0 v1 v2 v3 v4 lt4
    obtain ⟨⟨v0, v1, v2, v3, v4⟩, -⟩ := five b5
    have W5 : Hid _ := grown_trans (grown_trans W3.out.1 k5) gb
    clear W3 k5 b5 gb
    simp only []
    go_wp2_with fail
    have S := specOk n m c d av bv half low next (u5.alloc (.cells #[.slice none 0 0, .int .i64 0, .int .i64 0, .int .i64 0, .slice none 0 0] 26))
    rw [hok] at S
    refine S.mono ?_
    rintro e u6 ⟨rfl, k6⟩
    have FIN : Hid _ := grown_trans W5.out k6
    clear S W5 k6
    simp only []
    go_wp2
    go_ret
    exact ⟨rfl, FIN.out⟩
  | true =>
    obtain ⟨k1, k2, k3, k4, k5, k6, k7⟩ := okB_out hok
    have roomE := room_ok hok
    cases hin : inB low next t o with
    | false =>
      have roomX := roomE
      refine (implStore1 n m c d av bv half low next t o x ws ls er u2 hok hin r1 r2 na nb (G.cell HR.out.2.2 (by simp))).mono ?_
      rintro e u3 ⟨xa, xb, xc, xd, gx, gx', rfl, kk3, -, -, -, o7, o7'⟩
      have b3' := blkP kk3 b3
      have ga := World.grownBy_alloc u3 (.cells #[.slice xa n xc, .int .i64 half, .int .i64 low, .int .i64 next, .slice xb m xd] 26) none
      have ba := heap_alloc_new u3 (.cells #[.slice xa n xc, .int .i64 half, .int .i64 low, .int .i64 next, .slice xb m xd] 26)
      have lt4 : p3 < u3.heap.size := lt_of_block b3'
      obtain ⟨⟨v0, v1, v2, v3, v4⟩, -⟩ := five b3'
      have kk := grown_trans kk3 ga
      have W3 : Hid _ := And.intro (grown_trans G kk) (And.intro (blkP ga b3') (And.intro (ba) (And.intro (r1.none kk) (And.intro (r2.none kk) (And.intro (na) (And.intro (nb) (And.intro ((o7.kept ga (by simp)).reads) ((o7'.kept ga (by simp)).reads))))))))
      clear W2 G b3 r1 r2 na nb kk3 b3' ga ba kk o7 o7'
      generalize hp7 : u3.heap.size = p7 at *
      simp only []
      go_wp2_with fail
      obtain ⟨G, b3, b7, r1, r2, na, nb, s1, s2⟩ := W3.out
      refine (implLoad1 n m c d av bv half low next t o ws ls er _ hok hin r1 r2 na nb (G.cell HR.out.2.2 (by simp))).mono ?_
      rintro e u5 ⟨ya, yb, yc, yd, gy, gy', rfl, kk5, -, -, -, o9, o9'⟩
      have b3' := blkP kk5 b3
      have b7' := blkP kk5 b7
      have ga := World.grownBy_alloc u5 (.cells #[.slice ya n yc, .int .i64 half, .int .i64 low, .int .i64 next, .slice yb m yd] 26) none
      have ba := heap_alloc_new u5 (.cells #[.slice ya n yc, .int .i64 half, .int .i64 low, .int .i64 next, .slice yb m yd] 26)
      have lt5 : p3 < u5.heap.size := lt_of_block b3'
      have lt57 : p7 < u5.heap.size := lt_of_block b7'
      clear v0 v1 v2 v3 v4 lt4
      obtain ⟨⟨v0, v1, v2, v3, v4⟩, -⟩ := five b3'
      have kk := grown_trans kk5 ga
      have W5 : Hid _ := And.intro (grown_trans G kk) (And.intro (blkP ga b3') (And.intro (blkP ga b7') (And.intro (ba) (And.intro (r1.none kk) (And.intro (r2.none kk) (And.intro (s1.none kk) (And.intro (s2.none kk) (And.intro ((o9.kept ga (by simp)).reads) ((o9'.kept ga (by simp)).reads)))))))))
      clear W3 G b3 b7 r1 r2 na nb s1 s2 kk5 b3' b7' ga ba kk o9 o9'
      generalize hp9 : u5.heap.size = p9 at *
      simp only []
      go_wp2_with fail
      have S := specOk n m c d av bv half low next (u5.alloc (.cells #[.slice ya n yc, .int .i64 half, .int .i64 low, .int .i64 next, .slice yb m yd] 26))
      rw [hok] at S
      refine S.mono ?_
      rintro e u6 ⟨rfl, kk6⟩
      obtain ⟨G, b3, b7, b9, r1, r2, s1, s2, q1, q2⟩ := W5.out
      have b3' := blkP kk6 b3
      clear v0 v1 v2 v3 v4 lt5 lt57
      obtain ⟨⟨v0, v1, v2, v3, v4⟩, -⟩ := five b3'
      have gd := grown_drew (World.grownBy.refl u6 none)
      have kd := grown_trans kk6 gd
      have W6 : Hid _ := And.intro (grown_trans G kd) (And.intro (blkP kd b3) (And.intro (blkP kd b7) (And.intro (blkP kd b9) (And.intro (r1.none kd) (And.intro (r2.none kd) (And.intro (s1.none kd) (And.intro (s2.none kd) (And.intro (q1.none kd) (q2.none kd)))))))))
      clear S W5 G b3 b7 b9 r1 r2 s1 s2 q1 q2 kk6 gd kd b3'
      simp only []
      go_upto_region 6 with fail
      go_cut [12] (fun s12 wx => s12 = .bool false ∧ wx = u6)
      case first =>
        by_cases i1 : low ≤ t
        · by_cases i2 : t < next
          · by_cases i3 : 0 ≤ o
            · have i4 : ¬ (o < next - t) := by
                intro hh
                rw [inB_in i1 i2 i3 hh] at hin
                cases hin
              have e1 : IntKind.i64.wrap (next - t) = next - t := IntWalk.i64_in _ (by omega)
              go_wp2_with fail
              go_meet
              exact ⟨rfl, rfl⟩
            · have i3' : o < 0 := by omega
              go_wp2_with fail
              go_meet
              exact ⟨rfl, rfl⟩
          · have i2' : next ≤ t := by omega
            go_wp2_with fail
            go_meet
            exact ⟨rfl, rfl⟩
        · have i1' : t < low := by omega
          go_wp2_with fail
          go_meet
          exact ⟨rfl, rfl⟩
      case rest =>
      obtain ⟨rfl, rfl⟩ := hcut
      clear v0 v1 v2 v3 v4
      go_wp2_with fail
      refine wp_region_held_drew (S := fun v => Box p9 (.slice ya n yc) (.int .i64 half) (.int .i64 low) (.int .i64 next) (.slice yb m yd) v ∧ Box p3 (.slice av n c) (.int .i64 half) (.int .i64 low) (.int .i64 next) (.slice bv m d) v ∧ Box p7 (.slice xa n xc) (.int .i64 half) (.int .i64 low) (.int .i64 next) (.slice xb m xd) v) (by kernel_rfl) ⟨(five W6.out.2.2.2.1).1, (five W6.out.2.1).1, (five W6.out.2.2.1).1⟩ (fun hH => ?_)
      generalize World.drew _ = u8 at *
      simp only [List.size_toArray, List.length_cons, List.length_nil, Nat.reduceAdd, Array.replicate, List.replicate]
      refine wpAnyH_take (i := 0) (v := ?_) rfl (by kernel_rfl) (by kernel_rfl) (by kernel_rfl) (fun _ _ _ h => h) (Or.inl ⟨by rfl, ?_⟩) hH ?_
      rotate_left
      · (intro v hS; obtain ⟨⟨s0, s1, s2, s3, s4⟩, ⟨t0, t1, t2, t3, t4⟩, r0, r1, r2, r3, r4⟩ := hS; go_simp; try with_reducible rfl)
      simp only [Act.put, List.setIfInBounds_toArray, List.set_cons_zero, List.set_cons_succ, List.getElem_toArray, List.getElem_cons_succ, List.getElem_cons_zero]
      refine wpAnyH_take (i := 1) (v := ?_) rfl (by kernel_rfl) (by kernel_rfl) (by kernel_rfl) (fun _ _ _ h => h) (Or.inl ⟨by rfl, ?_⟩) hH ?_
      rotate_left
      · (intro v hS; obtain ⟨⟨s0, s1, s2, s3, s4⟩, ⟨t0, t1, t2, t3, t4⟩, r0, r1, r2, r3, r4⟩ := hS; go_simp; try with_reducible rfl)
      simp only [Act.put, List.setIfInBounds_toArray, List.set_cons_zero, List.set_cons_succ, List.getElem_toArray, List.getElem_cons_succ, List.getElem_cons_zero]
      refine wpAnyH_take (i := 2) (v := ?_) rfl (by kernel_rfl) (by kernel_rfl) (by kernel_rfl) (fun _ _ _ h => h) (Or.inl ⟨by rfl, ?_⟩) hH ?_
      rotate_left
      · (intro v hS; obtain ⟨⟨s0, s1, s2, s3, s4⟩, ⟨t0, t1, t2, t3, t4⟩, r0, r1, r2, r3, r4⟩ := hS; go_simp; try with_reducible rfl)
      simp only [Act.put, List.setIfInBounds_toArray, List.set_cons_zero, List.set_cons_succ, List.getElem_toArray, List.getElem_cons_succ, List.getElem_cons_zero]
      refine wpAnyH_take (i := 3) (v := ?_) rfl (by kernel_rfl) (by kernel_rfl) (by kernel_rfl) (fun _ _ _ h => h) (Or.inl ⟨by rfl, ?_⟩) hH ?_
      rotate_left
      · (intro v hS; obtain ⟨⟨s0, s1, s2, s3, s4⟩, ⟨t0, t1, t2, t3, t4⟩, r0, r1, r2, r3, r4⟩ := hS; go_simp; try with_reducible rfl)
      simp only [Act.put, List.setIfInBounds_toArray, List.set_cons_zero, List.set_cons_succ, List.getElem_toArray, List.getElem_cons_succ, List.getElem_cons_zero]
      refine wpAnyH_take (i := 4) (v := ?_) rfl (by kernel_rfl) (by kernel_rfl) (by kernel_rfl) (fun _ _ _ h => h) (Or.inl ⟨by rfl, ?_⟩) hH ?_
      rotate_left
      · (intro v hS; obtain ⟨⟨s0, s1, s2, s3, s4⟩, ⟨t0, t1, t2, t3, t4⟩, r0, r1, r2, r3, r4⟩ := hS; go_simp; try with_reducible rfl)
      simp only [Act.put, List.setIfInBounds_toArray, List.set_cons_zero, List.set_cons_succ, List.getElem_toArray, List.getElem_cons_succ, List.getElem_cons_zero]
      refine wpAnyH_take (i := 5) (v := ?_) rfl (by kernel_rfl) (by kernel_rfl) (by kernel_rfl) (fun _ _ _ h => h) (Or.inl ⟨by rfl, ?_⟩) hH ?_
      rotate_left
      · (intro v hS; obtain ⟨⟨s0, s1, s2, s3, s4⟩, ⟨t0, t1, t2, t3, t4⟩, r0, r1, r2, r3, r4⟩ := hS; go_simp; try with_reducible rfl)
      simp only [Act.put, List.setIfInBounds_toArray, List.set_cons_zero, List.set_cons_succ, List.getElem_toArray, List.getElem_cons_succ, List.getElem_cons_zero]
      refine wpAnyH_take (i := 6) (v := ?_) rfl (by kernel_rfl) (by kernel_rfl) (by kernel_rfl) (fun _ _ _ h => h) (Or.inl ⟨by rfl, ?_⟩) hH ?_
      rotate_left
      · (intro v hS; obtain ⟨⟨s0, s1, s2, s3, s4⟩, ⟨t0, t1, t2, t3, t4⟩, r0, r1, r2, r3, r4⟩ := hS; go_simp; try with_reducible rfl)
      simp only [Act.put, List.setIfInBounds_toArray, List.set_cons_zero, List.set_cons_succ, List.getElem_toArray, List.getElem_cons_succ, List.getElem_cons_zero]
      refine wpAnyH_take (i := 7) (v := ?_) rfl (by kernel_rfl) (by kernel_rfl) (by kernel_rfl) (fun _ _ _ h => h) (Or.inl ⟨by rfl, ?_⟩) hH ?_
      rotate_left
      · (intro v hS; obtain ⟨⟨s0, s1, s2, s3, s4⟩, ⟨t0, t1, t2, t3, t4⟩, r0, r1, r2, r3, r4⟩ := hS; go_simp; try with_reducible rfl)
      simp only [Act.put, List.setIfInBounds_toArray, List.set_cons_zero, List.set_cons_succ, List.getElem_toArray, List.getElem_cons_succ, List.getElem_cons_zero]
      refine wpAnyH_take (i := 8) (v := ?_) rfl (by kernel_rfl) (by kernel_rfl) (by kernel_rfl) (fun _ _ _ h => h) (Or.inl ⟨by rfl, ?_⟩) hH ?_
      rotate_left
      · (intro v hS; obtain ⟨⟨s0, s1, s2, s3, s4⟩, ⟨t0, t1, t2, t3, t4⟩, r0, r1, r2, r3, r4⟩ := hS; go_simp; try with_reducible rfl)
      simp only [Act.put, List.setIfInBounds_toArray, List.set_cons_zero, List.set_cons_succ, List.getElem_toArray, List.getElem_cons_succ, List.getElem_cons_zero]
      refine wpAnyH_take (i := 9) (v := ?_) rfl (by kernel_rfl) (by kernel_rfl) (by kernel_rfl) (fun _ _ _ h => h) (Or.inl ⟨by rfl, ?_⟩) hH ?_
      rotate_left
      · (intro v hS; obtain ⟨⟨s0, s1, s2, s3, s4⟩, ⟨t0, t1, t2, t3, t4⟩, r0, r1, r2, r3, r4⟩ := hS; go_simp; try with_reducible rfl)
      simp only [Act.put, List.setIfInBounds_toArray, List.set_cons_zero, List.set_cons_succ, List.getElem_toArray, List.getElem_cons_succ, List.getElem_cons_zero]
      refine wpAnyH_take (i := 10) (v := ?_) rfl (by kernel_rfl) (by kernel_rfl) (by kernel_rfl) (fun _ _ _ h => h) (Or.inl ⟨by rfl, ?_⟩) hH ?_
      rotate_left
      · (intro v hS; obtain ⟨⟨s0, s1, s2, s3, s4⟩, ⟨t0, t1, t2, t3, t4⟩, r0, r1, r2, r3, r4⟩ := hS; go_simp; try with_reducible rfl)
      simp only [Act.put, List.setIfInBounds_toArray, List.set_cons_zero, List.set_cons_succ, List.getElem_toArray, List.getElem_cons_succ, List.getElem_cons_zero]
      refine wpAnyH_take (i := 11) (v := ?_) rfl (by kernel_rfl) (by kernel_rfl) (by kernel_rfl) (fun _ _ _ h => h) (Or.inl ⟨by rfl, ?_⟩) hH ?_
      rotate_left
      · (intro v hS; obtain ⟨⟨s0, s1, s2, s3, s4⟩, ⟨t0, t1, t2, t3, t4⟩, r0, r1, r2, r3, r4⟩ := hS; go_simp; try with_reducible rfl)
      simp only [Act.put, List.setIfInBounds_toArray, List.set_cons_zero, List.set_cons_succ, List.getElem_toArray, List.getElem_cons_succ, List.getElem_cons_zero]
      refine wpAnyH_take (i := 12) (v := ?_) rfl (by kernel_rfl) (by kernel_rfl) (by kernel_rfl) (fun _ _ _ h => h) (Or.inl ⟨by rfl, ?_⟩) hH ?_
      rotate_left
      · (intro v hS; obtain ⟨⟨s0, s1, s2, s3, s4⟩, ⟨t0, t1, t2, t3, t4⟩, r0, r1, r2, r3, r4⟩ := hS; go_simp; try with_reducible rfl)
      simp only [Act.put, List.setIfInBounds_toArray, List.set_cons_zero, List.set_cons_succ, List.getElem_toArray, List.getElem_cons_succ, List.getElem_cons_zero]
      refine wpAnyH_ready (rs := [13]) (by kernel_rfl) (by simp) ?_
      refine AllReadyH.cons rfl (fun K hK => ?_) AllReadyH.nil
      go_simp
      obtain ⟨G, b3, b7, b9, r1, r2, s1, s2, q1, q2⟩ := W6.out
      refine (sameT ya av n yc c ws u8 q1 r1 (by omega)).mono ?_
      rintro e u9 ⟨rfl, qq, he9⟩
      have k9 : u8.grownBy u9 none := by rw [he9]; exact grown_drewN u8 qq none
      have HH : Hid _ := And.intro (hH.1.kept k9 (by simp)) (And.intro (hH.2.1.kept k9 (by simp)) (hH.2.2.kept k9 (by simp)))
      have W9 : Hid _ := And.intro (grown_trans G k9) (And.intro (blkP k9 b3) (And.intro (blkP k9 b7) (And.intro (blkP k9 b9) (And.intro (r1.none k9) (And.intro (r2.none k9) (And.intro (s1.none k9) (And.intro (s2.none k9) (And.intro (q1.none k9) (q2.none k9)))))))))
      clear W6 G b3 b7 b9 r1 r2 s1 s2 q1 q2 k9 he9 hH
      refine hK.out _ _ HH.out (fun hH => ?_)
      clear hK K HH
      simp only [Act.put, List.setIfInBounds_toArray, List.set_cons_zero, List.set_cons_succ, List.getElem_toArray, List.getElem_cons_succ, List.getElem_cons_zero]
      refine wpAnyH_take (i := 14) (v := ?_) rfl (by kernel_rfl) (by kernel_rfl) (by kernel_rfl) (fun _ _ _ h => h) (Or.inl ⟨by rfl, ?_⟩) hH ?_
      rotate_left
      · (intro v hS; obtain ⟨⟨s0, s1, s2, s3, s4⟩, ⟨t0, t1, t2, t3, t4⟩, r0, r1, r2, r3, r4⟩ := hS; go_simp; try with_reducible rfl)
      simp only [Act.put, List.setIfInBounds_toArray, List.set_cons_zero, List.set_cons_succ, List.getElem_toArray, List.getElem_cons_succ, List.getElem_cons_zero]
      refine wpAnyH_take (i := 15) (v := ?_) rfl (by kernel_rfl) (by kernel_rfl) (by kernel_rfl) (fun _ _ _ h => h) (Or.inl ⟨by rfl, ?_⟩) hH ?_
      rotate_left
      · (intro v hS; obtain ⟨⟨s0, s1, s2, s3, s4⟩, ⟨t0, t1, t2, t3, t4⟩, r0, r1, r2, r3, r4⟩ := hS; go_simp; try with_reducible rfl)
      simp only [Act.put, List.setIfInBounds_toArray, List.set_cons_zero, List.set_cons_succ, List.getElem_toArray, List.getElem_cons_succ, List.getElem_cons_zero]
      refine wpAnyH_take (i := 16) (v := ?_) rfl (by kernel_rfl) (by kernel_rfl) (by kernel_rfl) (fun _ _ _ h => h) (Or.inl ⟨by rfl, ?_⟩) hH ?_
      rotate_left
      · (intro v hS; obtain ⟨⟨s0, s1, s2, s3, s4⟩, ⟨t0, t1, t2, t3, t4⟩, r0, r1, r2, r3, r4⟩ := hS; go_simp; try with_reducible rfl)
      simp only [Act.put, List.setIfInBounds_toArray, List.set_cons_zero, List.set_cons_succ, List.getElem_toArray, List.getElem_cons_succ, List.getElem_cons_zero]
      refine wpAnyH_take (i := 17) (v := ?_) rfl (by kernel_rfl) (by kernel_rfl) (by kernel_rfl) (fun _ _ _ h => h) (Or.inl ⟨by rfl, ?_⟩) hH ?_
      rotate_left
      · (intro v hS; obtain ⟨⟨s0, s1, s2, s3, s4⟩, ⟨t0, t1, t2, t3, t4⟩, r0, r1, r2, r3, r4⟩ := hS; go_simp; try with_reducible rfl)
      simp only [Act.put, List.setIfInBounds_toArray, List.set_cons_zero, List.set_cons_succ, List.getElem_toArray, List.getElem_cons_succ, List.getElem_cons_zero]
      refine wpAnyH_take (i := 19) (v := ?_) rfl (by kernel_rfl) (by kernel_rfl) (by kernel_rfl) (fun _ _ _ h => h) (Or.inl ⟨by rfl, ?_⟩) hH ?_
      rotate_left
      · (intro v hS; obtain ⟨⟨s0, s1, s2, s3, s4⟩, ⟨t0, t1, t2, t3, t4⟩, r0, r1, r2, r3, r4⟩ := hS; go_simp; try with_reducible rfl)
      simp only [Act.put, List.setIfInBounds_toArray, List.set_cons_zero, List.set_cons_succ, List.getElem_toArray, List.getElem_cons_succ, List.getElem_cons_zero]
      refine wpAnyH_ready (rs := [18]) (by kernel_rfl) (by simp) ?_
      refine AllReadyH.cons rfl (fun K hK => ?_) AllReadyH.nil
      go_simp
      have S := implRoom n m xc xd xa xb half low next u9
      rw [roomX] at S
      refine S.mono ?_
      rintro e u10 ⟨rfl, k9⟩
      obtain ⟨G, b3, b7, b9, r1, r2, s1, s2, q1, q2⟩ := W9.out
      have HH : Hid _ := And.intro (hH.1.kept k9 (by simp)) (And.intro (hH.2.1.kept k9 (by simp)) (hH.2.2.kept k9 (by simp)))
      have W10 : Hid _ := And.intro (grown_trans G k9) (And.intro (blkP k9 b3) (And.intro (blkP k9 b7) (And.intro (blkP k9 b9) (And.intro (r1.none k9) (And.intro (r2.none k9) (And.intro (s1.none k9) (And.intro (s2.none k9) (And.intro (q1.none k9) (q2.none k9)))))))))
      clear W9 S G b3 b7 b9 r1 r2 s1 s2 q1 q2 k9 hH
      refine hK.out _ _ HH.out (fun hH => ?_)
      clear hK K HH
      simp only [Act.put, List.setIfInBounds_toArray, List.set_cons_zero, List.set_cons_succ, List.getElem_toArray, List.getElem_cons_succ, List.getElem_cons_zero]
      refine wpAnyH_ready (rs := [20]) (by kernel_rfl) (by simp) ?_
      refine AllReadyH.cons rfl (fun K hK => ?_) AllReadyH.nil
      go_simp
      have S := specRoom n m c d av bv half low next u10
      rw [roomE] at S
      refine S.mono ?_
      rintro e u11 ⟨rfl, k9⟩
      obtain ⟨G, b3, b7, b9, r1, r2, s1, s2, q1, q2⟩ := W10.out
      have HH : Hid _ := And.intro (hH.1.kept k9 (by simp)) (And.intro (hH.2.1.kept k9 (by simp)) (hH.2.2.kept k9 (by simp)))
      have b3' := blkP k9 b3
      have b7' := blkP k9 b7
      have W11 : Hid _ := And.intro (grown_trans G k9) (And.intro (b3') (And.intro (b7') (And.intro (blkP k9 b9) (And.intro (r1.none k9) (And.intro (r2.none k9) (And.intro (s1.none k9) (And.intro (s2.none k9) (And.intro (q1.none k9) (q2.none k9)))))))))
      obtain ⟨⟨v0, v1, v2, v3, v4⟩, -⟩ := five b3'
      obtain ⟨⟨y0, y1, y2, y3, y4⟩, -⟩ := five b7'
      clear W10 S G b3 b7 b9 r1 r2 s1 s2 q1 q2 k9 hH b3' b7'
      refine hK.out _ _ HH.out (fun hH => ?_)
      clear hK K HH
      simp only [Act.put, List.setIfInBounds_toArray, List.set_cons_zero, List.set_cons_succ, List.getElem_toArray, List.getElem_cons_succ, List.getElem_cons_zero]
      refine wpAnyH_take (i := 21) (v := ?_) rfl (by kernel_rfl) (by kernel_rfl) (by kernel_rfl) (fun _ _ _ h => h) (Or.inl ⟨by rfl, ?_⟩) hH ?_
      rotate_left
      · (intro v hS; obtain ⟨⟨s0, s1, s2, s3, s4⟩, ⟨t0, t1, t2, t3, t4⟩, r0, r1, r2, r3, r4⟩ := hS; go_simp; try with_reducible rfl)
      simp only [Act.put, List.setIfInBounds_toArray, List.set_cons_zero, List.set_cons_succ, List.getElem_toArray, List.getElem_cons_succ, List.getElem_cons_zero]
      refine wpAnyH_take (i := 22) (v := ?_) rfl (by kernel_rfl) (by kernel_rfl) (by kernel_rfl) (fun _ _ _ h => h) (Or.inl ⟨by rfl, ?_⟩) hH ?_
      rotate_left
      · (intro v hS; obtain ⟨⟨s0, s1, s2, s3, s4⟩, ⟨t0, t1, t2, t3, t4⟩, r0, r1, r2, r3, r4⟩ := hS; go_simp; try with_reducible rfl)
      simp only [Act.put, List.setIfInBounds_toArray, List.set_cons_zero, List.set_cons_succ, List.getElem_toArray, List.getElem_cons_succ, List.getElem_cons_zero]
      clear hH
      refine wpAnyH_done (by kernel_rfl) ?_ _
      go_wp2_with fail
      obtain ⟨G, b3, b7, b9, r1, r2, s1, s2, q1, q2⟩ := W11.out
      refine (sameT xa av n xc c ws u11 s1 r1 (by omega)).mono ?_
      rintro e u12 ⟨rfl, qq, he12⟩
      have k12 : u11.grownBy u12 none := by rw [he12]; exact grown_drewN u11 qq none
      have FIN : Hid _ := grown_trans G k12
      have b3' := blkP k12 b3
      have b7' := blkP k12 b7
      clear v0 v1 v2 v3 v4 y0 y1 y2 y3 y4
      obtain ⟨⟨v0, v1, v2, v3, v4⟩, -⟩ := five b3'
      obtain ⟨⟨y0, y1, y2, y3, y4⟩, -⟩ := five b7'
      clear W11 G b3 b7 b9 r1 r2 s1 s2 q1 q2 b3' b7' he12 k12
      simp only []
      go_wp2
      go_ret
      exact ⟨rfl, FIN.out⟩
    | true =>
      obtain ⟨j1, j2, j3, j4⟩ := inB_out hin
      obtain ⟨tn, rfl⟩ : ∃ tn : Nat, t = (tn : Int) := ⟨t.toNat, by omega⟩
      obtain ⟨on, rfl⟩ : ∃ on : Nat, o = (on : Int) := ⟨o.toNat, by omega⟩
      have okx : okB half n low next (pushM m) = true := okB_in k1 k2 k3 (by unfold pushM; split <;> omega) k5 k6 k7
      have roomX := room_ok okx
      refine (implStore2 n m c d tn on av bv half low next x ws ls er u2 hok hin r1 r2 na nb (G.cell HR.out.2.2 (by simp))).mono ?_
      rintro e u3 ⟨xa, xb, xc, xd, gx, gx', rfl, kk3, -, -, -, o7, o7'⟩
      have b3' := blkP kk3 b3
      have ga := World.grownBy_alloc u3 (.cells #[.slice xa n xc, .int .i64 half, .int .i64 low, .int .i64 next, .slice xb (pushM m) xd] 26) none
      have ba := heap_alloc_new u3 (.cells #[.slice xa n xc, .int .i64 half, .int .i64 low, .int .i64 next, .slice xb (pushM m) xd] 26)
      have lt4 : p3 < u3.heap.size := lt_of_block b3'
      obtain ⟨⟨v0, v1, v2, v3, v4⟩, -⟩ := five b3'
      have kk := grown_trans kk3 ga
      have W3 : Hid _ := And.intro (grown_trans G kk) (And.intro (blkP ga b3') (And.intro (ba) (And.intro (r1.none kk) (And.intro (r2.none kk) (And.intro (na) (And.intro (nb) (And.intro ((o7.kept ga (by simp)).reads) ((o7'.kept ga (by simp)).reads))))))))
      clear W2 G b3 r1 r2 na nb kk3 b3' ga ba kk o7 o7'
      generalize hp7 : u3.heap.size = p7 at *
      simp only []
      go_wp2_with fail
      obtain ⟨G, b3, b7, r1, r2, na, nb, s1, s2⟩ := W3.out
      refine (implLoad2 n m c d tn on av bv half low next ws ls er _ hok hin r1 r2 na nb (G.cell HR.out.2.2 (by simp))).mono ?_
      rintro e u5 ⟨ya, yb, yc, yd, gy, gy', rfl, kk5, -, -, -, o9, o9'⟩
      obtain ⟨gv, hgv⟩ : ∃ gv, ws.getD (tn + on) 0 = gv := ⟨_, rfl⟩
      have HGV : Hid (ws.getD (tn + on) 0 = gv) := hgv
      rw [hgv]
      clear hgv
      have b3' := blkP kk5 b3
      have b7' := blkP kk5 b7
      have ga := World.grownBy_alloc u5 (.cells #[.slice ya n yc, .int .i64 half, .int .i64 low, .int .i64 next, .slice yb (pushM m) yd] 26) none
      have ba := heap_alloc_new u5 (.cells #[.slice ya n yc, .int .i64 half, .int .i64 low, .int .i64 next, .slice yb (pushM m) yd] 26)
      have lt5 : p3 < u5.heap.size := lt_of_block b3'
      have lt57 : p7 < u5.heap.size := lt_of_block b7'
      clear v0 v1 v2 v3 v4 lt4
      obtain ⟨⟨v0, v1, v2, v3, v4⟩, -⟩ := five b3'
      have kk := grown_trans kk5 ga
      have W5 : Hid _ := And.intro (grown_trans G kk) (And.intro (blkP ga b3') (And.intro (blkP ga b7') (And.intro (ba) (And.intro (r1.none kk) (And.intro (r2.none kk) (And.intro (s1.none kk) (And.intro (s2.none kk) (And.intro ((o9.kept ga (by simp)).reads) ((o9'.kept ga (by simp)).reads)))))))))
      clear W3 G b3 b7 r1 r2 na nb s1 s2 kk5 b3' b7' ga ba kk o9 o9'
      generalize hp9 : u5.heap.size = p9 at *
      simp only []
      go_wp2_with fail
      have S := specOk n m c d av bv half low next (u5.alloc (.cells #[.slice ya n yc, .int .i64 half, .int .i64 low, .int .i64 next, .slice yb (pushM m) yd] 26))
      rw [hok] at S
      refine S.mono ?_
      rintro e u6 ⟨rfl, kk6⟩
      obtain ⟨G, b3, b7, b9, r1, r2, s1, s2, q1, q2⟩ := W5.out
      have b3' := blkP kk6 b3
      clear v0 v1 v2 v3 v4 lt5 lt57
      obtain ⟨⟨v0, v1, v2, v3, v4⟩, -⟩ := five b3'
      have gd := grown_drew (World.grownBy.refl u6 none)
      have kd := grown_trans kk6 gd
      have W6 : Hid _ := And.intro (grown_trans G kd) (And.intro (blkP kd b3) (And.intro (blkP kd b7) (And.intro (blkP kd b9) (And.intro (r1.none kd) (And.intro (r2.none kd) (And.intro (s1.none kd) (And.intro (s2.none kd) (And.intro (q1.none kd) (q2.none kd)))))))))
      clear S W5 G b3 b7 b9 r1 r2 s1 s2 q1 q2 kk6 gd kd b3'
      simp only []
      go_upto_region 6 with fail
      go_cut [12] (fun s12 wx => s12 = .bool true ∧ wx = u6)
      case first =>
        have i1 : low ≤ (tn : Int) := j1
        have i3 : (0 : Int) ≤ (on : Int) := by omega
        have e1 : IntKind.i64.wrap (next - (tn : Int)) = next - (tn : Int) := IntWalk.i64_in _ (by omega)
        go_wp2_with fail
        go_meet
        exact ⟨rfl, rfl⟩
      case rest =>
      obtain ⟨rfl, rfl⟩ := hcut
      clear v0 v1 v2 v3 v4
      go_wp2_with fail
      refine wp_region_held_drew (S := fun v => Box p9 (.slice ya n yc) (.int .i64 half) (.int .i64 low) (.int .i64 next) (.slice yb (pushM m) yd) v ∧ Box p3 (.slice av n c) (.int .i64 half) (.int .i64 low) (.int .i64 next) (.slice bv m d) v ∧ Box p7 (.slice xa n xc) (.int .i64 half) (.int .i64 low) (.int .i64 next) (.slice xb (pushM m) xd) v) (by kernel_rfl) ⟨(five W6.out.2.2.2.1).1, (five W6.out.2.1).1, (five W6.out.2.2.1).1⟩ (fun hH => ?_)
      generalize World.drew _ = u8 at *
      simp only [List.size_toArray, List.length_cons, List.length_nil, Nat.reduceAdd, Array.replicate, List.replicate]
      refine wpAnyH_take (i := 0) (v := ?_) rfl (by kernel_rfl) (by kernel_rfl) (by kernel_rfl) (fun _ _ _ h => h) (Or.inl ⟨by rfl, ?_⟩) hH ?_
      rotate_left
      · (intro v hS; obtain ⟨⟨s0, s1, s2, s3, s4⟩, ⟨t0, t1, t2, t3, t4⟩, r0, r1, r2, r3, r4⟩ := hS; go_simp; try with_reducible rfl)
      simp only [Act.put, List.setIfInBounds_toArray, List.set_cons_zero, List.set_cons_succ, List.getElem_toArray, List.getElem_cons_succ, List.getElem_cons_zero]
      refine wpAnyH_take (i := 1) (v := ?_) rfl (by kernel_rfl) (by kernel_rfl) (by kernel_rfl) (fun _ _ _ h => h) (Or.inl ⟨by rfl, ?_⟩) hH ?_
      rotate_left
      · (intro v hS; obtain ⟨⟨s0, s1, s2, s3, s4⟩, ⟨t0, t1, t2, t3, t4⟩, r0, r1, r2, r3, r4⟩ := hS; go_simp; try with_reducible rfl)
      simp only [Act.put, List.setIfInBounds_toArray, List.set_cons_zero, List.set_cons_succ, List.getElem_toArray, List.getElem_cons_succ, List.getElem_cons_zero]
      refine wpAnyH_take (i := 2) (v := ?_) rfl (by kernel_rfl) (by kernel_rfl) (by kernel_rfl) (fun _ _ _ h => h) (Or.inl ⟨by rfl, ?_⟩) hH ?_
      rotate_left
      · (intro v hS; obtain ⟨⟨s0, s1, s2, s3, s4⟩, ⟨t0, t1, t2, t3, t4⟩, r0, r1, r2, r3, r4⟩ := hS; go_simp; try with_reducible rfl)
      simp only [Act.put, List.setIfInBounds_toArray, List.set_cons_zero, List.set_cons_succ, List.getElem_toArray, List.getElem_cons_succ, List.getElem_cons_zero]
      refine wpAnyH_take (i := 3) (v := ?_) rfl (by kernel_rfl) (by kernel_rfl) (by kernel_rfl) (fun _ _ _ h => h) (Or.inl ⟨by rfl, ?_⟩) hH ?_
      rotate_left
      · (intro v hS; obtain ⟨⟨s0, s1, s2, s3, s4⟩, ⟨t0, t1, t2, t3, t4⟩, r0, r1, r2, r3, r4⟩ := hS; go_simp; try with_reducible rfl)
      simp only [Act.put, List.setIfInBounds_toArray, List.set_cons_zero, List.set_cons_succ, List.getElem_toArray, List.getElem_cons_succ, List.getElem_cons_zero]
      refine wpAnyH_take (i := 4) (v := ?_) rfl (by kernel_rfl) (by kernel_rfl) (by kernel_rfl) (fun _ _ _ h => h) (Or.inl ⟨by rfl, ?_⟩) hH ?_
      rotate_left
      · (intro v hS; obtain ⟨⟨s0, s1, s2, s3, s4⟩, ⟨t0, t1, t2, t3, t4⟩, r0, r1, r2, r3, r4⟩ := hS; go_simp; try with_reducible rfl)
      simp only [Act.put, List.setIfInBounds_toArray, List.set_cons_zero, List.set_cons_succ, List.getElem_toArray, List.getElem_cons_succ, List.getElem_cons_zero]
      refine wpAnyH_take (i := 5) (v := ?_) rfl (by kernel_rfl) (by kernel_rfl) (by kernel_rfl) (fun _ _ _ h => h) (Or.inl ⟨by rfl, ?_⟩) hH ?_
      rotate_left
      · (intro v hS; obtain ⟨⟨s0, s1, s2, s3, s4⟩, ⟨t0, t1, t2, t3, t4⟩, r0, r1, r2, r3, r4⟩ := hS; go_simp; try with_reducible rfl)
      simp only [Act.put, List.setIfInBounds_toArray, List.set_cons_zero, List.set_cons_succ, List.getElem_toArray, List.getElem_cons_succ, List.getElem_cons_zero]
      refine wpAnyH_take (i := 6) (v := ?_) rfl (by kernel_rfl) (by kernel_rfl) (by kernel_rfl) (fun _ _ _ h => h) (Or.inl ⟨by rfl, ?_⟩) hH ?_
      rotate_left
      · (intro v hS; obtain ⟨⟨s0, s1, s2, s3, s4⟩, ⟨t0, t1, t2, t3, t4⟩, r0, r1, r2, r3, r4⟩ := hS; go_simp; try with_reducible rfl)
      simp only [Act.put, List.setIfInBounds_toArray, List.set_cons_zero, List.set_cons_succ, List.getElem_toArray, List.getElem_cons_succ, List.getElem_cons_zero]
      refine wpAnyH_take (i := 7) (v := ?_) rfl (by kernel_rfl) (by kernel_rfl) (by kernel_rfl) (fun _ _ _ h => h) (Or.inl ⟨by rfl, ?_⟩) hH ?_
      rotate_left
      · (intro v hS; obtain ⟨⟨s0, s1, s2, s3, s4⟩, ⟨t0, t1, t2, t3, t4⟩, r0, r1, r2, r3, r4⟩ := hS; go_simp; try with_reducible rfl)
      simp only [Act.put, List.setIfInBounds_toArray, List.set_cons_zero, List.set_cons_succ, List.getElem_toArray, List.getElem_cons_succ, List.getElem_cons_zero]
      refine wpAnyH_take (i := 8) (v := ?_) rfl (by kernel_rfl) (by kernel_rfl) (by kernel_rfl) (fun _ _ _ h => h) (Or.inl ⟨by rfl, ?_⟩) hH ?_
      rotate_left
      · (intro v hS; obtain ⟨⟨s0, s1, s2, s3, s4⟩, ⟨t0, t1, t2, t3, t4⟩, r0, r1, r2, r3, r4⟩ := hS; go_simp; try with_reducible rfl)
      simp only [Act.put, List.setIfInBounds_toArray, List.set_cons_zero, List.set_cons_succ, List.getElem_toArray, List.getElem_cons_succ, List.getElem_cons_zero]
      refine wpAnyH_take (i := 9) (v := ?_) rfl (by kernel_rfl) (by kernel_rfl) (by kernel_rfl) (fun _ _ _ h => h) (Or.inl ⟨by rfl, ?_⟩) hH ?_
      rotate_left
      · (intro v hS; obtain ⟨⟨s0, s1, s2, s3, s4⟩, ⟨t0, t1, t2, t3, t4⟩, r0, r1, r2, r3, r4⟩ := hS; go_simp; try with_reducible rfl)
      simp only [Act.put, List.setIfInBounds_toArray, List.set_cons_zero, List.set_cons_succ, List.getElem_toArray, List.getElem_cons_succ, List.getElem_cons_zero]
      refine wpAnyH_take (i := 10) (v := ?_) rfl (by kernel_rfl) (by kernel_rfl) (by kernel_rfl) (fun _ _ _ h => h) (Or.inl ⟨by rfl, ?_⟩) hH ?_
      rotate_left
      · (intro v hS; obtain ⟨⟨s0, s1, s2, s3, s4⟩, ⟨t0, t1, t2, t3, t4⟩, r0, r1, r2, r3, r4⟩ := hS; go_simp; try with_reducible rfl)
      simp only [Act.put, List.setIfInBounds_toArray, List.set_cons_zero, List.set_cons_succ, List.getElem_toArray, List.getElem_cons_succ, List.getElem_cons_zero]
      refine wpAnyH_take (i := 11) (v := ?_) rfl (by kernel_rfl) (by kernel_rfl) (by kernel_rfl) (fun _ _ _ h => h) (Or.inl ⟨by rfl, ?_⟩) hH ?_
      rotate_left
      · (intro v hS; obtain ⟨⟨s0, s1, s2, s3, s4⟩, ⟨t0, t1, t2, t3, t4⟩, r0, r1, r2, r3, r4⟩ := hS; go_simp; try with_reducible rfl)
      simp only [Act.put, List.setIfInBounds_toArray, List.set_cons_zero, List.set_cons_succ, List.getElem_toArray, List.getElem_cons_succ, List.getElem_cons_zero]
      refine wpAnyH_take (i := 12) (v := ?_) rfl (by kernel_rfl) (by kernel_rfl) (by kernel_rfl) (fun _ _ _ h => h) (Or.inl ⟨by rfl, ?_⟩) hH ?_
      rotate_left
      · (intro v hS; obtain ⟨⟨s0, s1, s2, s3, s4⟩, ⟨t0, t1, t2, t3, t4⟩, r0, r1, r2, r3, r4⟩ := hS; go_simp; try with_reducible rfl)
      simp only [Act.put, List.setIfInBounds_toArray, List.set_cons_zero, List.set_cons_succ, List.getElem_toArray, List.getElem_cons_succ, List.getElem_cons_zero]
      refine wpAnyH_ready (rs := [13]) (by kernel_rfl) (by simp) ?_
      refine AllReadyH.cons rfl (fun K hK => ?_) AllReadyH.nil
      go_simp
      obtain ⟨G, b3, b7, b9, r1, r2, s1, s2, q1, q2⟩ := W6.out
      refine (sameT ya av n yc c ws u8 q1 r1 (by omega)).mono ?_
      rintro e u9 ⟨rfl, qq, he9⟩
      have k9 : u8.grownBy u9 none := by rw [he9]; exact grown_drewN u8 qq none
      have HH : Hid _ := And.intro (hH.1.kept k9 (by simp)) (And.intro (hH.2.1.kept k9 (by simp)) (hH.2.2.kept k9 (by simp)))
      have W9 : Hid _ := And.intro (grown_trans G k9) (And.intro (blkP k9 b3) (And.intro (blkP k9 b7) (And.intro (blkP k9 b9) (And.intro (r1.none k9) (And.intro (r2.none k9) (And.intro (s1.none k9) (And.intro (s2.none k9) (And.intro (q1.none k9) (q2.none k9)))))))))
      clear W6 G b3 b7 b9 r1 r2 s1 s2 q1 q2 k9 he9 hH
      refine hK.out _ _ HH.out (fun hH => ?_)
      clear hK K HH
      simp only [Act.put, List.setIfInBounds_toArray, List.set_cons_zero, List.set_cons_succ, List.getElem_toArray, List.getElem_cons_succ, List.getElem_cons_zero]
      refine wpAnyH_take (i := 14) (v := ?_) rfl (by kernel_rfl) (by kernel_rfl) (by kernel_rfl) (fun _ _ _ h => h) (Or.inl ⟨by rfl, ?_⟩) hH ?_
      rotate_left
      · (intro v hS; obtain ⟨⟨s0, s1, s2, s3, s4⟩, ⟨t0, t1, t2, t3, t4⟩, r0, r1, r2, r3, r4⟩ := hS; go_simp; try with_reducible rfl)
      simp only [Act.put, List.setIfInBounds_toArray, List.set_cons_zero, List.set_cons_succ, List.getElem_toArray, List.getElem_cons_succ, List.getElem_cons_zero]
      refine wpAnyH_take (i := 15) (v := ?_) rfl (by kernel_rfl) (by kernel_rfl) (by kernel_rfl) (fun _ _ _ h => h) (Or.inl ⟨by rfl, ?_⟩) hH ?_
      rotate_left
      · (intro v hS; obtain ⟨⟨s0, s1, s2, s3, s4⟩, ⟨t0, t1, t2, t3, t4⟩, r0, r1, r2, r3, r4⟩ := hS; go_simp; try with_reducible rfl)
      simp only [Act.put, List.setIfInBounds_toArray, List.set_cons_zero, List.set_cons_succ, List.getElem_toArray, List.getElem_cons_succ, List.getElem_cons_zero]
      refine wpAnyH_take (i := 16) (v := ?_) rfl (by kernel_rfl) (by kernel_rfl) (by kernel_rfl) (fun _ _ _ h => h) (Or.inl ⟨by rfl, ?_⟩) hH ?_
      rotate_left
      · (intro v hS; obtain ⟨⟨s0, s1, s2, s3, s4⟩, ⟨t0, t1, t2, t3, t4⟩, r0, r1, r2, r3, r4⟩ := hS; go_simp; try with_reducible rfl)
      simp only [Act.put, List.setIfInBounds_toArray, List.set_cons_zero, List.set_cons_succ, List.getElem_toArray, List.getElem_cons_succ, List.getElem_cons_zero]
      refine wpAnyH_take (i := 17) (v := ?_) rfl (by kernel_rfl) (by kernel_rfl) (by kernel_rfl) (fun _ _ _ h => h) (Or.inl ⟨by rfl, ?_⟩) hH ?_
      rotate_left
      · (intro v hS; obtain ⟨⟨s0, s1, s2, s3, s4⟩, ⟨t0, t1, t2, t3, t4⟩, r0, r1, r2, r3, r4⟩ := hS; go_simp; try with_reducible rfl)
      simp only [Act.put, List.setIfInBounds_toArray, List.set_cons_zero, List.set_cons_succ, List.getElem_toArray, List.getElem_cons_succ, List.getElem_cons_zero]
      refine wpAnyH_take (i := 19) (v := ?_) rfl (by kernel_rfl) (by kernel_rfl) (by kernel_rfl) (fun _ _ _ h => h) (Or.inl ⟨by rfl, ?_⟩) hH ?_
      rotate_left
      · (intro v hS; obtain ⟨⟨s0, s1, s2, s3, s4⟩, ⟨t0, t1, t2, t3, t4⟩, r0, r1, r2, r3, r4⟩ := hS; go_simp; try with_reducible rfl)
      simp only [Act.put, List.setIfInBounds_toArray, List.set_cons_zero, List.set_cons_succ, List.getElem_toArray, List.getElem_cons_succ, List.getElem_cons_zero]
      refine wpAnyH_ready (rs := [18]) (by kernel_rfl) (by simp) ?_
      refine AllReadyH.cons rfl (fun K hK => ?_) AllReadyH.nil
      go_simp
      have S := implRoom n (pushM m) xc xd xa xb half low next u9
      rw [roomX] at S
      refine S.mono ?_
      rintro e u10 ⟨rfl, k9⟩
      obtain ⟨G, b3, b7, b9, r1, r2, s1, s2, q1, q2⟩ := W9.out
      have HH : Hid _ := And.intro (hH.1.kept k9 (by simp)) (And.intro (hH.2.1.kept k9 (by simp)) (hH.2.2.kept k9 (by simp)))
      have W10 : Hid _ := And.intro (grown_trans G k9) (And.intro (blkP k9 b3) (And.intro (blkP k9 b7) (And.intro (blkP k9 b9) (And.intro (r1.none k9) (And.intro (r2.none k9) (And.intro (s1.none k9) (And.intro (s2.none k9) (And.intro (q1.none k9) (q2.none k9)))))))))
      clear W9 S G b3 b7 b9 r1 r2 s1 s2 q1 q2 k9 hH
      refine hK.out _ _ HH.out (fun hH => ?_)
      clear hK K HH
      simp only [Act.put, List.setIfInBounds_toArray, List.set_cons_zero, List.set_cons_succ, List.getElem_toArray, List.getElem_cons_succ, List.getElem_cons_zero]
      refine wpAnyH_ready (rs := [20]) (by kernel_rfl) (by simp) ?_
      refine AllReadyH.cons rfl (fun K hK => ?_) AllReadyH.nil
      go_simp
      have S := specRoom n m c d av bv half low next u10
      rw [roomE] at S
      refine S.mono ?_
      rintro e u11 ⟨rfl, k9⟩
      obtain ⟨G, b3, b7, b9, r1, r2, s1, s2, q1, q2⟩ := W10.out
      have HH : Hid _ := And.intro (hH.1.kept k9 (by simp)) (And.intro (hH.2.1.kept k9 (by simp)) (hH.2.2.kept k9 (by simp)))
      have b3' := blkP k9 b3
      have b7' := blkP k9 b7
      have W11 : Hid _ := And.intro (grown_trans G k9) (And.intro (b3') (And.intro (b7') (And.intro (blkP k9 b9) (And.intro (r1.none k9) (And.intro (r2.none k9) (And.intro (s1.none k9) (And.intro (s2.none k9) (And.intro (q1.none k9) (q2.none k9)))))))))
      obtain ⟨⟨v0, v1, v2, v3, v4⟩, -⟩ := five b3'
      obtain ⟨⟨y0, y1, y2, y3, y4⟩, -⟩ := five b7'
      clear W10 S G b3 b7 b9 r1 r2 s1 s2 q1 q2 k9 hH b3' b7'
      refine hK.out _ _ HH.out (fun hH => ?_)
      clear hK K HH
      simp only [Act.put, List.setIfInBounds_toArray, List.set_cons_zero, List.set_cons_succ, List.getElem_toArray, List.getElem_cons_succ, List.getElem_cons_zero]
      refine wpAnyH_take (i := 21) (v := ?_) rfl (by kernel_rfl) (by kernel_rfl) (by kernel_rfl) (fun _ _ _ h => h) (Or.inl ⟨by rfl, ?_⟩) hH ?_
      rotate_left
      · (intro v hS; obtain ⟨⟨s0, s1, s2, s3, s4⟩, ⟨t0, t1, t2, t3, t4⟩, r0, r1, r2, r3, r4⟩ := hS; go_simp; try with_reducible rfl)
      simp only [Act.put, List.setIfInBounds_toArray, List.set_cons_zero, List.set_cons_succ, List.getElem_toArray, List.getElem_cons_succ, List.getElem_cons_zero]
      refine wpAnyH_take (i := 22) (v := ?_) rfl (by kernel_rfl) (by kernel_rfl) (by kernel_rfl) (fun _ _ _ h => h) (Or.inl ⟨by rfl, ?_⟩) hH ?_
      rotate_left
      · (intro v hS; obtain ⟨⟨s0, s1, s2, s3, s4⟩, ⟨t0, t1, t2, t3, t4⟩, r0, r1, r2, r3, r4⟩ := hS; go_simp; try with_reducible rfl)
      simp only [Act.put, List.setIfInBounds_toArray, List.set_cons_zero, List.set_cons_succ, List.getElem_toArray, List.getElem_cons_succ, List.getElem_cons_zero]
      clear hH
      refine wpAnyH_done (by kernel_rfl) ?_ _
      obtain ⟨G, b3, b7, b9, r1, r2, s1, s2, q1, q2⟩ := W11.out
      have hwl : ws.length = n := r1.1
      obtain ⟨bx, ox, rfl, hcx⟩ : ∃ bx ox, xa = some ⟨bx, ox, none⟩ ∧ ∀ i, i < n → u11.cell? ⟨bx, ox + i, none⟩ = some (.int .i64 ((ws.set (tn + on) x).getD i 0)) := by
        rcases s1.2 with h | ⟨bx, ox, h, hc⟩
        · omega
        · exact ⟨bx, ox, h, hc⟩
      obtain ⟨bh, oh, rfl, hch⟩ : ∃ bh oh, av = some ⟨bh, oh, none⟩ ∧ ∀ i, i < n → u11.cell? ⟨bh, oh + i, none⟩ = some (.int .i64 (ws.getD i 0)) := by
        rcases r1.2 with h | ⟨bh, oh, h, hc⟩
        · omega
        · exact ⟨bh, oh, h, hc⟩
      have c1 := hcx (tn + on) (by omega)
      rw [set_get _ _ _ _ (by omega), if_pos rfl] at c1
      have c2 := hch (tn + on) (by omega)
      rw [HGV.out] at c2
      have i1 : (tn : Int) + (on : Int) < (n : Int) := by omega
      have i2 : ((tn : Int) + (on : Int)).toNat = tn + on := by omega
      have hs : strayB half ((tn : Int) + (on : Int)) low next = false := by
        cases e : strayB half ((tn : Int) + (on : Int)) low next with
        | false => rfl
        | true =>
          exfalso
          simp only [strayB, Bool.or_eq_true, Bool.not_eq_true', Bool.or_eq_false_iff, decide_eq_true_eq, decide_eq_false_iff_not] at e
          omega
      have L1 := specLog n m c d (some ⟨bh, oh, none⟩) bv half low next ls u11 r2
      rw [hok, Bool.true_and] at L1
      have HS : Hid _ := hs
      have R2L : Hid (ls.length = m * 3) := r2.1
      clear G b3 b7 b9 r1 r2 s1 s2 q1 q2 hcx hch hwl HGV hs
      cases hins : insideB half ls m with
      | false =>
        rw [hins] at L1
        have HL1 : Hid _ := L1
        clear L1
        go_wp2_with fail
        refine Calls.mono HL1.out ?_
        rintro e u12 ⟨rfl, k12⟩
        have FIN : Hid _ := grown_trans W11.out.1 k12
        clear HL1 W11 k12 v0 v1 v2 v3 v4 y0 y1 y2 y3 y4 c1 c2
        simp only []
        go_wp2
        go_ret
        exact ⟨rfl, FIN.out⟩
      | true =>
        rw [hins] at L1
        have HL1 : Hid _ := L1
        have hip := inside_push hins R2L.out _ _ _ HS.out
        clear L1
        go_wp2_with fail
        refine Calls.mono HL1.out ?_
        rintro e u12 ⟨rfl, k12⟩
        obtain ⟨G, b3, b7, b9, r1, r2, s1, s2, q1, q2⟩ := W11.out
        have b7' := blkP k12 b7
        have L2 := implLog n (pushM m) xc xd (some ⟨bx, ox, none⟩) xb half low next (pushL m ls ((tn : Int) + (on : Int)) low next) u12 (s2.none k12)
        rw [okx, hip, Bool.true_and] at L2
        have HL2 : Hid _ := L2
        have W12 : Hid _ := And.intro (grown_trans G k12) (And.intro (blkP k12 b9) (q2.none k12))
        clear v0 v1 v2 v3 v4 y0 y1 y2 y3 y4 c1 c2
        obtain ⟨⟨y0, y1, y2, y3, y4⟩, -⟩ := five b7'
        clear HL1 W11 G b3 b7 b9 r1 r2 s1 s2 q1 q2 k12 b7' L2
        simp only []
        go_wp2_with fail
        refine Calls.mono HL2.out ?_
        rintro e u13 ⟨rfl, k13⟩
        obtain ⟨G, b9, q2⟩ := W12.out
        have b9' := blkP k13 b9
        have L3 := implLog n (pushM m) yc yd ya yb half low next (pushL m ls ((tn : Int) + (on : Int)) low next) u13 (q2.none k13)
        rw [okx, hip, Bool.true_and] at L3
        have HL3 : Hid _ := L3
        have W13 : Hid _ := grown_trans G k13
        clear y0 y1 y2 y3 y4
        obtain ⟨⟨y0, y1, y2, y3, y4⟩, -⟩ := five b9'
        clear HL2 W12 G b9 q2 k13 b9' L3
        simp only []
        go_wp2_with fail
        refine Calls.mono HL3.out ?_
        rintro e u14 ⟨rfl, k14⟩
        have FIN : Hid _ := grown_trans W13.out k14
        clear HL3 W13 k14 y0 y1 y2 y3 y4
        simp only []
        go_wp2
        go_ret
        exact ⟨rfl, FIN.out⟩
end Go.Proofs.YtonmcndedbmbfaaDoor.By
