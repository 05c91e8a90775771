/-
  The walk of laws.FnPlaces. No statement is proved here.
-/
import Derived.Test.YtonmcndedbmbfaaDoorHAt
import Derived.Test.YtonmcndedbmbfaaDoorHAnsLoad
import Derived.Test.YtonmcndedbmbfaaDoorHStoreN
import Derived.Test.YtonmcndedbmbfaaDoorHAlloc
import Derived.Test.YtonmcndedbmbfaaDoorHRoom
namespace Go.Proofs.YtonmcndedbmbfaaDoor.By
open Go.RowKit
set_option linter.unusedVariables false
set_option linter.unusedSimpArgs false

theorem blkP {w w' : World} {p : Nat} {o : Obj} (k : w.grownBy w' none) (h : w.heap[p]? = some o) : w'.heap[p]? = some o := (k.block p (lt_of_block h) (by simp)).trans h
theorem room_ok {half : Int} {n : Nat} {low next : Int} {m : Nat} (h : okB half n low next m = true) : roomI half n low next m = low + half - next := if_pos h

theorem okB_in {half : Int} {n : Nat} {low next : Int} {m : Nat} (h1 : 16 ≤ half) (h2 : half ≤ 4096) (h3 : (n : Int) = 2 * half) (h4 : m ≤ 4000) (h5 : low = 0 ∨ low = half) (h6 : low ≤ next) (h7 : next ≤ low + half) : okB half n low next m = true := by
  simp only [okB, Bool.and_eq_true, Bool.or_eq_true, decide_eq_true_eq]
  exact ⟨⟨⟨⟨⟨⟨h1, h2⟩, h3⟩, h4⟩, h5⟩, h6⟩, h7⟩
theorem inB_in {low next t o : Int} (h1 : low ≤ t) (h2 : t < next) (h3 : 0 ≤ o) (h4 : o < next - t) : inB low next t o = true := by
  simp only [inB, Bool.and_eq_true, decide_eq_true_eq]
  exact ⟨⟨⟨h1, h2⟩, h3⟩, h4⟩
theorem own_some {w : World} {t : TypeId} {g k : Nat} {a : Option Addr} {zs : List Int} {c : Nat} (h : OwnI w t g a k zs) (hk : k ≠ 0) : a = none → c = 0 := fun e => by
  rcases h.2 with h | ⟨off, h, _⟩
  · exact absurd h hk
  · rw [e] at h; cases h

set_option maxRecDepth 20000 in
set_option maxHeartbeats 4000000 in
theorem lawPlaces (a0 : Option Addr) (n0 cap0 : Nat) (zs : List Int) (w : World) (hr : Reads w a0 n0 zs) (hz : Byt zs) (hn0 : n0 ≤ 9223372036854775807) (er0 er1 : Addr)
    (he0 : w.cell? ⟨0, 0, none⟩ = some (.iface 97 (.pointer (some er0)))) (he1 : w.cell? ⟨1, 0, none⟩ = some (.iface 97 (.pointer (some er1)))) :
    Calls Tryd.prog 3 #[.slice a0 n0 cap0] w fun e w' => e = .returned (.bool true) ∧ w.grownBy w' none := by
  have HR : Hid _ := And.intro hr (And.intro hz (And.intro he0 he1))
  clear hr hz he0 he1
  go_enter Tryd.func3, Tryd.ntmps3
  go_wp2_with fail
  refine (drawAllocT a0 n0 cap0 zs w HR.out.1 HR.out.2.1 hn0).mono ?_
  rintro e u1 ⟨av, n, c, half, low, next, bv, m, d, ws, ls, dx, rfl, G1, r1, r2, na, nb, fits⟩
  have ga := World.grownBy_alloc u1 (.cells #[.slice av n c, .int .i64 half, .int .i64 low, .int .i64 next, .slice bv m d] 26) none
  have ba := heap_alloc_new u1 (.cells #[.slice av n c, .int .i64 half, .int .i64 low, .int .i64 next, .slice bv m d] 26)
  have W2 : Hid _ := And.intro (grown_trans G1 ga) (And.intro ba (And.intro (r1.none ga) (And.intro (r2.none ga) (And.intro na nb))))
  obtain ⟨fn1, fn2, fn3, fn4, fn5, fn6, fn7, fn8⟩ := fits
  clear G1 r1 r2 na nb ga ba
  generalize hp3 : u1.heap.size = p3 at *
  simp only []
  go_wp2_with fail
  obtain ⟨G, b3, r1, r2, na, nb⟩ := W2.out
  refine (atT a0 n0 cap0 zs 1 _ (HR.out.1.none G) HR.out.2.1 hn0 (by omega)).mono ?_
  rintro e u3 ⟨x, rfl, hx0, hx1, he3⟩
  rw [← he3] at G b3 r1 r2
  clear W2 he3 hp3
  obtain ⟨y, hy, hy8⟩ : ∃ y : Nat, Int.tmod x 9 = (y : Int) ∧ y ≤ 8 := ⟨(x % 9).toNat, by rw [Int.tmod_eq_emod_of_nonneg hx0]; omega, by omega⟩
  have lt3 := lt_of_block b3
  obtain ⟨⟨v0, v1, v2, v3, v4⟩, -⟩ := five b3
  have W3 : Hid _ := And.intro (G) (And.intro (b3) (And.intro (r1) (And.intro (r2) (And.intro (na) (nb)))))
  clear G b3 r1 r2 na nb u1
  simp only []
  go_wp2_with fail
  clear v0 v1 v2 v3 v4
  obtain ⟨G, b3, r1, r2, na, nb⟩ := W3.out
  cases hok : okB half n low next m with
  | false =>
    refine (implAlloc0 n m c d av bv half low next (1 + (y : Int)) u3 hok).mono ?_
    rintro e u4 ⟨rfl, k4⟩
    have b3' := blkP k4 b3
    have ga := World.grownBy_alloc u4 (.cells #[.slice none 0 0, .int .i64 0, .int .i64 0, .int .i64 0, .slice none 0 0] 26) none
    have lt4 : p3 < u4.heap.size := lt_of_block b3'
    obtain ⟨⟨v0, v1, v2, v3, v4⟩, -⟩ := five b3'
    have W4 : Hid _ := grown_trans (grown_trans G k4) ga
    clear W3 G b3 r1 r2 na nb k4 b3' ga
    simp only []
    go_wp2_with fail
    have S := specOk n m c d av bv half low next (u4.alloc (.cells #[.slice none 0 0, .int .i64 0, .int .i64 0, .int .i64 0, .slice none 0 0] 26))
    rw [hok] at S
    refine S.mono ?_
    rintro e u6 ⟨rfl, k6⟩
    have FIN : Hid _ := grown_trans W4.out k6
    clear S W4 k6
    simp only []
    go_wp2
    go_ret
    exact ⟨rfl, FIN.out⟩
  | true =>
    obtain ⟨k1, k2, k3, k4, k5, k6, k7⟩ := okB_out hok
    obtain ⟨nx, rfl⟩ : ∃ nx : Nat, next = (nx : Int) := ⟨next.toNat, by omega⟩
    have roomE := room_ok hok
    by_cases href : refused half low (nx : Int) (1 + (y : Int))
    · refine (implAlloc1 n m c d av bv half low (nx : Int) (1 + (y : Int)) ws ls er0 u3 hok href r1 r2 na nb (G.cell HR.out.2.2.1 (by simp))).mono ?_
      rintro e u4 ⟨xa, xb, xc, xd, gx, gx', rfl, k4, l1, l2, l3, o6, o6'⟩
      have hnot : ¬ (1 + (y : Int) ≤ low + half - (nx : Int)) := by unfold refused at href; omega
      have b3' := blkP k4 b3
      have ga := World.grownBy_alloc u4 (.cells #[.slice xa n xc, .int .i64 half, .int .i64 low, .int .i64 (nx : Int), .slice xb m xd] 26) none
      have ba := heap_alloc_new u4 (.cells #[.slice xa n xc, .int .i64 half, .int .i64 low, .int .i64 (nx : Int), .slice xb m xd] 26)
      have lt4 : p3 < u4.heap.size := lt_of_block b3'
      obtain ⟨⟨v0, v1, v2, v3, v4⟩, -⟩ := five b3'
      have W4 : Hid _ := And.intro (grown_trans (grown_trans G k4) ga) (And.intro (blkP ga b3') (ba))
      clear W3 G b3 r1 r2 na nb k4 b3' ga ba l1 l2 l3 o6 o6'
      generalize hp6 : u4.heap.size = p6 at *
      simp only []
      go_wp2_with fail
      have S := specOk n m c d av bv half low (nx : Int) (u4.alloc (.cells #[.slice xa n xc, .int .i64 half, .int .i64 low, .int .i64 (nx : Int), .slice xb m xd] 26))
      rw [hok] at S
      refine S.mono ?_
      rintro e u6 ⟨rfl, k6'⟩
      obtain ⟨G, b3, b6⟩ := W4.out
      have b3' := blkP k6' b3
      clear v0 v1 v2 v3 v4
      obtain ⟨⟨v0, v1, v2, v3, v4⟩, -⟩ := five b3'
      have W6 : Hid _ := And.intro (grown_trans G k6') (And.intro (b3') (blkP k6' b6))
      clear S W4 G b3 b6 k6' b3'
      simp only []
      go_wp2_with fail
      have S := specRoom n m c d av bv half low (nx : Int) u6
      rw [roomE] at S
      refine S.mono ?_
      rintro e u7 ⟨rfl, k7'⟩
      obtain ⟨G, b3, b6⟩ := W6.out
      have gd := grown_drew (World.grownBy.refl u7 none)
      have kd := grown_trans k7' gd
      have W7 : Hid _ := And.intro (grown_trans G kd) (And.intro (blkP kd b3) (blkP kd b6))
      clear v0 v1 v2 v3 v4 S W6 G b3 b6 k7' gd kd
      simp only []
      go_wp2_with fail
      refine wp_region_held_drew (S := fun v => Box p6 (.slice xa n xc) (.int .i64 half) (.int .i64 low) (.int .i64 (nx : Int)) (.slice xb m xd) v ∧ Box p3 (.slice av n c) (.int .i64 half) (.int .i64 low) (.int .i64 (nx : Int)) (.slice bv m d) v) (by kernel_rfl) ⟨(five W7.out.2.2).1, (five W7.out.2.1).1⟩ (fun hH => ?_)
      generalize u7.drew = u8 at *
      simp only [List.size_toArray, List.length_cons, List.length_nil, Nat.reduceAdd, Array.replicate, List.replicate]
      refine wpAnyH_take (i := 0) (v := ?_) rfl (by kernel_rfl) (by kernel_rfl) (by kernel_rfl) (fun _ _ _ h => h) (Or.inl ⟨by rfl, ?_⟩) hH ?_
      rotate_left
      · (intro v hS; obtain ⟨⟨s0, s1, s2, s3, s4⟩, t0, t1, t2, t3, t4⟩ := hS; go_simp; try with_reducible rfl)
      simp only [Act.put, List.setIfInBounds_toArray, List.set_cons_zero, List.set_cons_succ, List.getElem_toArray, List.getElem_cons_succ, List.getElem_cons_zero]
      refine wpAnyH_take (i := 2) (v := ?_) rfl (by kernel_rfl) (by kernel_rfl) (by kernel_rfl) (fun _ _ _ h => h) (Or.inl ⟨by rfl, ?_⟩) hH ?_
      rotate_left
      · (intro v hS; obtain ⟨⟨s0, s1, s2, s3, s4⟩, t0, t1, t2, t3, t4⟩ := hS; go_simp; try with_reducible rfl)
      simp only [Act.put, List.setIfInBounds_toArray, List.set_cons_zero, List.set_cons_succ, List.getElem_toArray, List.getElem_cons_succ, List.getElem_cons_zero]
      refine wpAnyH_ready (rs := [1]) (by kernel_rfl) (by simp) ?_
      refine AllReadyH.cons rfl (fun K hK => ?_) AllReadyH.nil
      go_simp
      have S := implRoom n m xc xd xa xb half low (nx : Int) u8
      rw [roomE] at S
      refine S.mono ?_
      rintro e u9 ⟨rfl, k9⟩
      have HH : Hid _ := And.intro (hH.1.kept k9 (by simp)) (hH.2.kept k9 (by simp))
      have W9 : Hid _ := grown_trans W7.out.1 k9
      clear W7 S k9 hH
      refine hK.out _ _ HH.out (fun hH => ?_)
      clear hK K HH
      simp only [Act.put, List.setIfInBounds_toArray, List.set_cons_zero, List.set_cons_succ, List.getElem_toArray, List.getElem_cons_succ, List.getElem_cons_zero]
      refine wpAnyH_ready (rs := [3]) (by kernel_rfl) (by simp) ?_
      refine AllReadyH.cons rfl (fun K hK => ?_) AllReadyH.nil
      go_simp
      have S := specRoom n m c d av bv half low (nx : Int) u9
      rw [roomE] at S
      refine S.mono ?_
      rintro e u10 ⟨rfl, k10⟩
      have HH : Hid _ := And.intro (hH.1.kept k10 (by simp)) (hH.2.kept k10 (by simp))
      have FIN : Hid _ := grown_trans W9.out k10
      clear W9 S k10 hH
      refine hK.out _ _ HH.out (fun hH => ?_)
      clear hK K HH
      simp only [Act.put, List.setIfInBounds_toArray, List.set_cons_zero, List.set_cons_succ, List.getElem_toArray, List.getElem_cons_succ, List.getElem_cons_zero]
      refine wpAnyH_take (i := 4) (v := ?_) rfl (by kernel_rfl) (by kernel_rfl) (by kernel_rfl) (fun _ _ _ h => h) (Or.inl ⟨by rfl, ?_⟩) hH ?_
      rotate_left
      · (intro v hS; obtain ⟨⟨s0, s1, s2, s3, s4⟩, t0, t1, t2, t3, t4⟩ := hS; go_simp; try with_reducible rfl)
      simp only [Act.put, List.setIfInBounds_toArray, List.set_cons_zero, List.set_cons_succ, List.getElem_toArray, List.getElem_cons_succ, List.getElem_cons_zero]
      refine wpAnyH_take (i := 5) (v := ?_) rfl (by kernel_rfl) (by kernel_rfl) (by kernel_rfl) (fun _ _ _ h => h) (Or.inl ⟨by rfl, ?_⟩) hH ?_
      rotate_left
      · (intro v hS; obtain ⟨⟨s0, s1, s2, s3, s4⟩, t0, t1, t2, t3, t4⟩ := hS; go_simp; try with_reducible rfl)
      simp only [Act.put, List.setIfInBounds_toArray, List.set_cons_zero, List.set_cons_succ, List.getElem_toArray, List.getElem_cons_succ, List.getElem_cons_zero]
      refine wpAnyH_done (by kernel_rfl) ?_ _
      go_wp2
      go_ret
      exact ⟨rfl, FIN.out⟩
    · have ee : ((1 + y : Nat) : Int) = 1 + (y : Int) := by omega
      have A := implAlloc2n n m c d nx (1 + y) av bv half low ws ls er0 u3 hok (by rw [ee]; exact href) r1 r2 na nb (G.cell HR.out.2.2.1 (by simp))
      rw [ee] at A
      refine A.mono ?_
      rintro e u4 ⟨xa, xb, xc, xd, gx, gx', rfl, k4', l1, l2, l3, o6, o6', nbx⟩
      have hle : 1 + (y : Int) ≤ low + half - (nx : Int) := by unfold refused at href; omega
      have okx : okB half n low ((nx : Int) + (1 + (y : Int))) m = true := okB_in k1 k2 k3 k4 k5 (by omega) (by omega)
      have roomX : roomI half n low ((nx : Int) + (1 + (y : Int))) m = low + half - (nx : Int) - (1 + (y : Int)) := by rw [room_ok okx]; omega
      have nax := own_some (c := xc) o6 (by omega)
      have b3' := blkP k4' b3
      have ga := World.grownBy_alloc u4 (.cells #[.slice xa n xc, .int .i64 half, .int .i64 low, .int .i64 ((nx : Int) + (1 + (y : Int))), .slice xb m xd] 26) none
      have ba := heap_alloc_new u4 (.cells #[.slice xa n xc, .int .i64 half, .int .i64 low, .int .i64 ((nx : Int) + (1 + (y : Int))), .slice xb m xd] 26)
      have lt4 : p3 < u4.heap.size := lt_of_block b3'
      obtain ⟨⟨v0, v1, v2, v3, v4⟩, -⟩ := five b3'
      have W4 : Hid _ := And.intro (grown_trans (grown_trans G k4') ga) (And.intro (blkP ga b3') (And.intro (ba) (And.intro ((r1.none k4').none ga) (And.intro (o6.kept ga (by simp)) (And.intro (o6'.kept ga (by simp)) (And.intro (nax) (nbx)))))))
      clear A W3 G b3 r1 r2 na nb k4' b3' ga ba l1 l2 l3 o6 o6' nax nbx ee href
      generalize hp6 : u4.heap.size = p6 at *
      simp only []
      go_wp2_with fail
      have S := specOk n m c d av bv half low (nx : Int) (u4.alloc (.cells #[.slice xa n xc, .int .i64 half, .int .i64 low, .int .i64 ((nx : Int) + (1 + (y : Int))), .slice xb m xd] 26))
      rw [hok] at S
      refine S.mono ?_
      rintro e u6 ⟨rfl, k6'⟩
      obtain ⟨G, b3, b6, r1, o6, o6', nax, nbx⟩ := W4.out
      have b3' := blkP k6' b3
      clear v0 v1 v2 v3 v4
      obtain ⟨⟨v0, v1, v2, v3, v4⟩, -⟩ := five b3'
      have W6 : Hid _ := And.intro (grown_trans G k6') (And.intro (b3') (And.intro (blkP k6' b6) (And.intro (r1.none k6') (And.intro (o6.kept k6' (by simp)) (And.intro (o6'.kept k6' (by simp)) (And.intro (nax) (nbx)))))))
      clear S W4 G b3 b6 r1 o6 o6' nax nbx k6' b3'
      simp only []
      go_wp2_with fail
      have S := specRoom n m c d av bv half low (nx : Int) u6
      rw [roomE] at S
      refine S.mono ?_
      rintro e u7 ⟨rfl, k7'⟩
      obtain ⟨G, b3, b6, r1, o6, o6', nax, nbx⟩ := W6.out
      have gd := grown_drew (World.grownBy.refl u7 none)
      have kd := grown_trans k7' gd
      have W7 : Hid _ := And.intro (grown_trans G kd) (And.intro (blkP kd b3) (And.intro (blkP kd b6) (And.intro (r1.none kd) (And.intro (o6.kept kd (by simp)) (And.intro (o6'.kept kd (by simp)) (And.intro (nax) (nbx)))))))
      clear v0 v1 v2 v3 v4 S W6 G b3 b6 r1 o6 o6' nax nbx k7' gd kd
      simp only []
      go_wp2_with fail
      refine wp_region_held_drew (S := fun v => Box p6 (.slice xa n xc) (.int .i64 half) (.int .i64 low) (.int .i64 ((nx : Int) + (1 + (y : Int)))) (.slice xb m xd) v ∧ Box p3 (.slice av n c) (.int .i64 half) (.int .i64 low) (.int .i64 (nx : Int)) (.slice bv m d) v) (by kernel_rfl) ⟨(five W7.out.2.2.1).1, (five W7.out.2.1).1⟩ (fun hH => ?_)
      generalize u7.drew = u8 at *
      simp only [List.size_toArray, List.length_cons, List.length_nil, Nat.reduceAdd, Array.replicate, List.replicate]
      refine wpAnyH_take (i := 0) (v := ?_) rfl (by kernel_rfl) (by kernel_rfl) (by kernel_rfl) (fun _ _ _ h => h) (Or.inl ⟨by rfl, ?_⟩) hH ?_
      rotate_left
      · (intro v hS; obtain ⟨⟨s0, s1, s2, s3, s4⟩, t0, t1, t2, t3, t4⟩ := hS; go_simp; try with_reducible rfl)
      simp only [Act.put, List.setIfInBounds_toArray, List.set_cons_zero, List.set_cons_succ, List.getElem_toArray, List.getElem_cons_succ, List.getElem_cons_zero]
      refine wpAnyH_take (i := 1) (v := ?_) rfl (by kernel_rfl) (by kernel_rfl) (by kernel_rfl) (fun _ _ _ h => h) (Or.inl ⟨by rfl, ?_⟩) hH ?_
      rotate_left
      · (intro v hS; obtain ⟨⟨s0, s1, s2, s3, s4⟩, t0, t1, t2, t3, t4⟩ := hS; go_simp; try with_reducible rfl)
      simp only [Act.put, List.setIfInBounds_toArray, List.set_cons_zero, List.set_cons_succ, List.getElem_toArray, List.getElem_cons_succ, List.getElem_cons_zero]
      refine wpAnyH_take (i := 2) (v := ?_) rfl (by kernel_rfl) (by kernel_rfl) (by kernel_rfl) (fun _ _ _ h => h) (Or.inl ⟨by rfl, ?_⟩) hH ?_
      rotate_left
      · (intro v hS; obtain ⟨⟨s0, s1, s2, s3, s4⟩, t0, t1, t2, t3, t4⟩ := hS; go_simp; try with_reducible rfl)
      simp only [Act.put, List.setIfInBounds_toArray, List.set_cons_zero, List.set_cons_succ, List.getElem_toArray, List.getElem_cons_succ, List.getElem_cons_zero]
      refine wpAnyH_take (i := 3) (v := ?_) rfl (by kernel_rfl) (by kernel_rfl) (by kernel_rfl) (fun _ _ _ h => h) (Or.inl ⟨by rfl, ?_⟩) hH ?_
      rotate_left
      · (intro v hS; obtain ⟨⟨s0, s1, s2, s3, s4⟩, t0, t1, t2, t3, t4⟩ := hS; go_simp; try with_reducible rfl)
      simp only [Act.put, List.setIfInBounds_toArray, List.set_cons_zero, List.set_cons_succ, List.getElem_toArray, List.getElem_cons_succ, List.getElem_cons_zero]
      refine wpAnyH_take (i := 4) (v := ?_) rfl (by kernel_rfl) (by kernel_rfl) (by kernel_rfl) (fun _ _ _ h => h) (Or.inl ⟨by rfl, ?_⟩) hH ?_
      rotate_left
      · (intro v hS; obtain ⟨⟨s0, s1, s2, s3, s4⟩, t0, t1, t2, t3, t4⟩ := hS; go_simp; try with_reducible rfl)
      simp only [Act.put, List.setIfInBounds_toArray, List.set_cons_zero, List.set_cons_succ, List.getElem_toArray, List.getElem_cons_succ, List.getElem_cons_zero]
      refine wpAnyH_take (i := 5) (v := ?_) rfl (by kernel_rfl) (by kernel_rfl) (by kernel_rfl) (fun _ _ _ h => h) (Or.inl ⟨by rfl, ?_⟩) hH ?_
      rotate_left
      · (intro v hS; obtain ⟨⟨s0, s1, s2, s3, s4⟩, t0, t1, t2, t3, t4⟩ := hS; go_simp; try with_reducible rfl)
      simp only [Act.put, List.setIfInBounds_toArray, List.set_cons_zero, List.set_cons_succ, List.getElem_toArray, List.getElem_cons_succ, List.getElem_cons_zero]
      refine wpAnyH_take (i := 7) (v := ?_) rfl (by kernel_rfl) (by kernel_rfl) (by kernel_rfl) (fun _ _ _ h => h) (Or.inl ⟨by rfl, ?_⟩) hH ?_
      rotate_left
      · (intro v hS; obtain ⟨⟨s0, s1, s2, s3, s4⟩, t0, t1, t2, t3, t4⟩ := hS; go_simp; try with_reducible rfl)
      simp only [Act.put, List.setIfInBounds_toArray, List.set_cons_zero, List.set_cons_succ, List.getElem_toArray, List.getElem_cons_succ, List.getElem_cons_zero]
      refine wpAnyH_take (i := 9) (v := ?_) rfl (by kernel_rfl) (by kernel_rfl) (by kernel_rfl) (fun _ _ _ h => h) (Or.inl ⟨by rfl, ?_⟩) hH ?_
      rotate_left
      · (intro v hS; obtain ⟨⟨s0, s1, s2, s3, s4⟩, t0, t1, t2, t3, t4⟩ := hS; go_simp; try with_reducible rfl)
      simp only [Act.put, List.setIfInBounds_toArray, List.set_cons_zero, List.set_cons_succ, List.getElem_toArray, List.getElem_cons_succ, List.getElem_cons_zero]
      refine wpAnyH_ready (rs := [6]) (by kernel_rfl) (by simp) ?_
      refine AllReadyH.cons rfl (fun K hK => ?_) AllReadyH.nil
      go_simp
      have S := implRoom n m xc xd xa xb half low ((nx : Int) + (1 + (y : Int))) u8
      rw [roomX] at S
      refine S.mono ?_
      rintro e u9 ⟨rfl, k9⟩
      obtain ⟨G, b3, b6, r1, o6, o6', nax, nbx⟩ := W7.out
      have HH : Hid _ := And.intro (hH.1.kept k9 (by simp)) (hH.2.kept k9 (by simp))
      have W9 : Hid _ := And.intro (grown_trans G k9) (And.intro (blkP k9 b3) (And.intro (blkP k9 b6) (And.intro (r1.none k9) (And.intro (o6.kept k9 (by simp)) (And.intro (o6'.kept k9 (by simp)) (And.intro (nax) (nbx)))))))
      clear W7 S G b3 b6 r1 o6 o6' nax nbx k9 hH
      refine hK.out _ _ HH.out (fun hH => ?_)
      clear hK K HH
      simp only [Act.put, List.setIfInBounds_toArray, List.set_cons_zero, List.set_cons_succ, List.getElem_toArray, List.getElem_cons_succ, List.getElem_cons_zero]
      refine wpAnyH_ready (rs := [8]) (by kernel_rfl) (by simp) ?_
      refine AllReadyH.cons rfl (fun K hK => ?_) AllReadyH.nil
      go_simp
      have S := specRoom n m c d av bv half low (nx : Int) u9
      rw [roomE] at S
      refine S.mono ?_
      rintro e u10 ⟨rfl, k10⟩
      obtain ⟨G, b3, b6, r1, o6, o6', nax, nbx⟩ := W9.out
      have HH : Hid _ := And.intro (hH.1.kept k10 (by simp)) (hH.2.kept k10 (by simp))
      have W10 : Hid _ := And.intro (grown_trans G k10) (And.intro (blkP k10 b3) (And.intro (blkP k10 b6) (And.intro (r1.none k10) (And.intro (o6.kept k10 (by simp)) (And.intro (o6'.kept k10 (by simp)) (And.intro (nax) (nbx)))))))
      clear W9 S G b3 b6 r1 o6 o6' nax nbx k10 hH
      refine hK.out _ _ HH.out (fun hH => ?_)
      clear hK K HH
      simp only [Act.put, List.setIfInBounds_toArray, List.set_cons_zero, List.set_cons_succ, List.getElem_toArray, List.getElem_cons_succ, List.getElem_cons_zero]
      have e1 : IntKind.i64.wrap (low + half - (nx : Int) - (1 + (y : Int))) = low + half - (nx : Int) - (1 + (y : Int)) := IntWalk.i64_in _ (by omega)
      refine wpAnyH_take (i := 10) (v := ?_) rfl (by kernel_rfl) (by kernel_rfl) (by kernel_rfl) (fun _ _ _ h => h) (Or.inl ⟨by rfl, ?_⟩) hH ?_
      rotate_left
      · (intro v hS; obtain ⟨⟨s0, s1, s2, s3, s4⟩, t0, t1, t2, t3, t4⟩ := hS; go_simp; try with_reducible rfl)
      simp only [Act.put, List.setIfInBounds_toArray, List.set_cons_zero, List.set_cons_succ, List.getElem_toArray, List.getElem_cons_succ, List.getElem_cons_zero]
      (try simp only [e1])
      refine wpAnyH_take (i := 11) (v := ?_) rfl (by kernel_rfl) (by kernel_rfl) (by kernel_rfl) (fun _ _ _ h => h) (Or.inl ⟨by rfl, ?_⟩) hH ?_
      rotate_left
      · (intro v hS; obtain ⟨⟨s0, s1, s2, s3, s4⟩, t0, t1, t2, t3, t4⟩ := hS; go_simp; try with_reducible rfl)
      simp only [Act.put, List.setIfInBounds_toArray, List.set_cons_zero, List.set_cons_succ, List.getElem_toArray, List.getElem_cons_succ, List.getElem_cons_zero]
      refine wpAnyH_take (i := 12) (v := ?_) rfl (by kernel_rfl) (by kernel_rfl) (by kernel_rfl) (fun _ _ _ h => h) (Or.inl ⟨by rfl, ?_⟩) hH ?_
      rotate_left
      · (intro v hS; obtain ⟨⟨s0, s1, s2, s3, s4⟩, t0, t1, t2, t3, t4⟩ := hS; go_simp; try with_reducible rfl)
      simp only [Act.put, List.setIfInBounds_toArray, List.set_cons_zero, List.set_cons_succ, List.getElem_toArray, List.getElem_cons_succ, List.getElem_cons_zero]
      refine wpAnyH_take (i := 13) (v := ?_) rfl (by kernel_rfl) (by kernel_rfl) (by kernel_rfl) (fun _ _ _ h => h) (Or.inl ⟨by rfl, ?_⟩) hH ?_
      rotate_left
      · (intro v hS; obtain ⟨⟨s0, s1, s2, s3, s4⟩, t0, t1, t2, t3, t4⟩ := hS; go_simp; try with_reducible rfl)
      simp only [Act.put, List.setIfInBounds_toArray, List.set_cons_zero, List.set_cons_succ, List.getElem_toArray, List.getElem_cons_succ, List.getElem_cons_zero]
      refine wpAnyH_take (i := 14) (v := ?_) rfl (by kernel_rfl) (by kernel_rfl) (by kernel_rfl) (fun _ _ _ h => h) (Or.inl ⟨by rfl, ?_⟩) hH ?_
      rotate_left
      · (intro v hS; obtain ⟨⟨s0, s1, s2, s3, s4⟩, t0, t1, t2, t3, t4⟩ := hS; go_simp; try with_reducible rfl)
      simp only [Act.put, List.setIfInBounds_toArray, List.set_cons_zero, List.set_cons_succ, List.getElem_toArray, List.getElem_cons_succ, List.getElem_cons_zero]
      clear e1
      refine wpAnyH_ready (rs := [15]) (by kernel_rfl) (by simp) ?_
      refine AllReadyH.cons rfl (fun K hK => ?_) AllReadyH.nil
      go_simp
      have S := implOk n m xc xd xa xb half low ((nx : Int) + (1 + (y : Int))) u10
      rw [okx] at S
      refine S.mono ?_
      rintro e u11 ⟨rfl, k11⟩
      obtain ⟨G, b3, b6, r1, o6, o6', nax, nbx⟩ := W10.out
      have HH : Hid _ := And.intro (hH.1.kept k11 (by simp)) (hH.2.kept k11 (by simp))
      have b6' := blkP k11 b6
      have W11 : Hid _ := And.intro (grown_trans G k11) (And.intro (blkP k11 b3) (And.intro (b6') (And.intro (r1.none k11) (And.intro (o6.kept k11 (by simp)) (And.intro (o6'.kept k11 (by simp)) (And.intro (nax) (nbx)))))))
      obtain ⟨⟨v0, v1, v2, v3, v4⟩, -⟩ := five b6'
      clear W10 S G b3 b6 b6' r1 o6 o6' nax nbx k11 hH
      refine hK.out _ _ HH.out (fun hH => ?_)
      clear hK K HH
      simp only [Act.put, List.setIfInBounds_toArray, List.set_cons_zero, List.set_cons_succ, List.getElem_toArray, List.getElem_cons_succ, List.getElem_cons_zero]
      refine wpAnyH_take (i := 16) (v := ?_) rfl (by kernel_rfl) (by kernel_rfl) (by kernel_rfl) (fun _ _ _ h => h) (Or.inl ⟨by rfl, ?_⟩) hH ?_
      rotate_left
      · (intro v hS; obtain ⟨⟨s0, s1, s2, s3, s4⟩, t0, t1, t2, t3, t4⟩ := hS; go_simp; try with_reducible rfl)
      simp only [Act.put, List.setIfInBounds_toArray, List.set_cons_zero, List.set_cons_succ, List.getElem_toArray, List.getElem_cons_succ, List.getElem_cons_zero]
      refine wpAnyH_take (i := 17) (v := ?_) rfl (by kernel_rfl) (by kernel_rfl) (by kernel_rfl) (fun _ _ _ h => h) (Or.inl ⟨by rfl, ?_⟩) hH ?_
      rotate_left
      · (intro v hS; obtain ⟨⟨s0, s1, s2, s3, s4⟩, t0, t1, t2, t3, t4⟩ := hS; go_simp; try with_reducible rfl)
      simp only [Act.put, List.setIfInBounds_toArray, List.set_cons_zero, List.set_cons_succ, List.getElem_toArray, List.getElem_cons_succ, List.getElem_cons_zero]
      clear hH
      refine wpAnyH_done (by kernel_rfl) ?_ _
      go_wp2_with fail
      obtain ⟨G, b3, b6, r1, o6, o6', nax, nbx⟩ := W11.out
      refine (atT a0 n0 cap0 zs 2 u11 (HR.out.1.none G) HR.out.2.1 hn0 (by omega)).mono ?_
      rintro e u12 ⟨x2, rfl, hz0, hz1, he12⟩
      rw [← he12] at v0 v1 v2 v3 v4 G b3 b6 r1 o6 o6'
      clear he12
      obtain ⟨oo, hoo, hoy⟩ : ∃ oo : Nat, Int.tmod x2 (1 + (y : Int)) = (oo : Int) ∧ oo < 1 + y := ⟨(x2 % (1 + (y : Int))).toNat, by rw [Int.tmod_eq_emod_of_nonneg hz0]; have := Int.emod_nonneg x2 (show (1 + (y : Int)) ≠ 0 by omega); omega, by have h1 := Int.emod_nonneg x2 (show (1 + (y : Int)) ≠ 0 by omega); have h2 := Int.emod_lt_of_pos x2 (show (0 : Int) < 1 + (y : Int) by omega); omega⟩
      have ny : ¬ (1 + (y : Int) = 0) := by omega
      have W12 : Hid _ := And.intro (G) (And.intro (b3) (And.intro (b6) (And.intro (r1) (And.intro (o6) (And.intro (o6') (And.intro (nax) (nbx)))))))
      clear W11 G b3 b6 r1 o6 o6' nax nbx
      simp only []
      go_wp2_with fail
      clear v0 v1 v2 v3 v4
      obtain ⟨G, b3, b6, r1, o6, o6', nax, nbx⟩ := W12.out
      refine (implStore2n n m xc xd nx oo xa xb half low ((nx : Int) + (1 + (y : Int))) 77 (zeroAt ws nx (1 + y)) ls er1 u12 okx (inB_in (by omega) (by omega) (by omega) (by omega)) o6.reads o6'.reads nax nbx (G.cell HR.out.2.2.2 (by simp))).mono ?_
      rintro e u13 ⟨ya, yb, yc, yd, gy, gy', rfl, k13, l1, l2, l3, o10, o10', nby⟩
      obtain ⟨wsY, hwsY⟩ : ∃ wsY, (zeroAt ws nx (1 + y)).set (nx + oo) 77 = wsY := ⟨_, rfl⟩
      obtain ⟨lsY, hlsY⟩ : ∃ lsY, pushL m ls ((nx : Int) + (oo : Int)) low ((nx : Int) + (1 + (y : Int))) = lsY := ⟨_, rfl⟩
      rw [hwsY] at o10
      rw [hlsY] at o10'
      have hwl : ws.length = n := r1.1
      have hz : ∀ j, wsY.getD j 0 = if nx + oo = j then 77 else (if nx ≤ j ∧ j < nx + (1 + y) then 0 else ws.getD j 0) := fun j => by
        rw [← hwsY, set_get _ _ _ _ (by rw [zeroAt_len]; omega), zeroAt_get]
      have HZY : Hid _ := hz
      have NAB : Hid ((ya = none → yc = 0) ∧ (yb = none → yd = 0)) := ⟨own_some (c := yc) o10 (by omega), nby⟩
      have oky : okB half n low ((nx : Int) + (1 + (y : Int))) (pushM m) = true := okB_in k1 k2 k3 (by unfold pushM; split <;> omega) k5 (by omega) (by omega)
      have OKY : Hid _ := oky
      have b3' := blkP k13 b3
      have ga := World.grownBy_alloc u13 (.cells #[.slice ya n yc, .int .i64 half, .int .i64 low, .int .i64 ((nx : Int) + (1 + (y : Int))), .slice yb (pushM m) yd] 26) none
      have ba := heap_alloc_new u13 (.cells #[.slice ya n yc, .int .i64 half, .int .i64 low, .int .i64 ((nx : Int) + (1 + (y : Int))), .slice yb (pushM m) yd] 26)
      have lt10 : p3 < u13.heap.size := lt_of_block b3'
      have W13 : Hid _ := And.intro (grown_trans (grown_trans G k13) ga) (And.intro (blkP ga b3') (And.intro (ba) (And.intro ((r1.none k13).none ga) (And.intro (o10.kept ga (by simp)) (o10'.kept ga (by simp))))))
      clear W12 G b3 b6 r1 o6 o6' nax nbx k13 l1 l2 l3 o10 o10' nby b3' ga ba hwsY hlsY hz oky okx roomX roomE hok
      generalize hp10 : u13.heap.size = p10 at *
      simp only []
      go_wp2_with fail
      go_loopw [12] (fun i wr => ∃ k : Nat, k ≤ 1 + y ∧ i = .int .i64 k ∧ Hid (w.grownBy wr none ∧ wr.heap[p3]? = some (.cells #[.slice av n c, .int .i64 half, .int .i64 low, .int .i64 (nx : Int), .slice bv m d] 26 (0, 0)) ∧ wr.heap[p10]? = some (.cells #[.slice ya n yc, .int .i64 half, .int .i64 low, .int .i64 ((nx : Int) + (1 + (y : Int))), .slice yb (pushM m) yd] 26 (0, 0)) ∧ ReadsI wr av n ws ∧ OwnI wr 3 gy ya n wsY ∧ OwnI wr 59 gy' yb (pushM m * 3) lsY)) (fun i _ => (1 + y) - (intOf i).toNat)
      case atStart => exact ⟨0, Nat.zero_le _, rfl, W13⟩
      case round =>
        obtain ⟨k, hk, rfl, KS⟩ := hrel
        clear W13
        by_cases hlt : k < 1 + y
        · have hki : (k : Int) < 1 + (y : Int) := by omega
          obtain ⟨⟨v0, v1, v2, v3, v4⟩, -⟩ := five KS.out.2.2.1
          go_wp2_with fail
          clear v0 v1 v2 v3 v4
          obtain ⟨G, b3, b10, r1, o10, o10'⟩ := KS.out
          refine (implLoad2 n (pushM m) yc yd nx k ya yb half low ((nx : Int) + (1 + (y : Int))) wsY lsY er1 wr OKY.out (inB_in (by omega) (by omega) (by omega) (by omega)) o10.reads o10'.reads NAB.out.1 NAB.out.2 (G.cell HR.out.2.2.2 (by simp))).mono ?_
          rintro e u15 ⟨ta, tb, tc, td, gt, gt', rfl, k15, -, -, -, -, -⟩
          have ga := World.grownBy_alloc u15 (.cells #[.slice ta n tc, .int .i64 half, .int .i64 low, .int .i64 ((nx : Int) + (1 + (y : Int))), .slice tb (pushM (pushM m)) td] 26) none
          have kk := grown_trans k15 ga
          have KN : Hid _ := And.intro (grown_trans G kk) (And.intro (blkP kk b3) (And.intro (blkP kk b10) (And.intro (r1.none kk) (And.intro (o10.kept kk (by simp)) (o10'.kept kk (by simp))))))
          have hval := HZY.out (nx + k)
          clear KS G b3 b10 r1 o10 o10' k15 ga kk
          by_cases hko : k = oo
          · subst hko
            rw [if_pos rfl] at hval
            rw [hval]
            simp only []
            go_wp2_with fail
            go_roundw
            case rel => exact ⟨k + 1, by omega, by go_num, KN⟩
            case measure => simp [intOf]; omega
          · rw [if_neg (by omega), if_pos (by omega)] at hval
            rw [hval]
            have hne : ¬ ((k : Int) = (oo : Int)) := by omega
            simp only []
            go_wp2_with fail
            go_roundw
            case rel => exact ⟨k + 1, by omega, by go_num, KN⟩
            case measure => simp [intOf]; omega
        · have hkn : ¬ ((k : Int) < 1 + (y : Int)) := by omega
          obtain ⟨⟨v0, v1, v2, v3, v4⟩, -⟩ := five KS.out.2.1
          obtain ⟨lo, hlo⟩ : ∃ lo : Nat, low = (lo : Int) := ⟨low.toNat, by omega⟩
          go_wp2_with fail
          clear v0 v1 v2 v3 v4
          go_loopw [17] (fun i wr2 => ∃ k2 q : Nat, lo ≤ k2 ∧ k2 ≤ nx ∧ i = .int .i64 k2 ∧ wr2 = wr.drewN q) (fun i _ => nx - (intOf i).toNat)
          case atStart => exact ⟨lo, 0, Nat.le_refl _, by omega, rfl, rfl⟩
          case round =>
            obtain ⟨k2, q, hk2a, hk2b, rfl, rfl⟩ := hrel
            obtain ⟨⟨v0, v1, v2, v3, v4⟩, -⟩ := five KS.out.2.1
            obtain ⟨⟨y0, y1, y2, y3, y4⟩, -⟩ := five KS.out.2.2.1
            by_cases hlt2 : k2 < nx
            · obtain ⟨G, b3, b10, r1, o10, o10'⟩ := KS.out
              have hval := HZY.out k2
              rw [if_neg (by omega), if_neg (by omega)] at hval
              obtain ⟨bb, offb, rfl, hcb⟩ : ∃ bb offb, av = some ⟨bb, offb, none⟩ ∧ ∀ i, i < n → wr.cell? ⟨bb, offb + i, none⟩ = some (.int .i64 (ws.getD i 0)) := by
                rcases r1.2 with h | ⟨bb, offb, h, hc⟩
                · omega
                · exact ⟨bb, offb, h, hc⟩
              obtain ⟨offy, rfl, hry⟩ : ∃ offy, ya = some ⟨gy, offy, none⟩ ∧ RowAt wr 3 gy offy wsY := by
                rcases o10.2 with h | h
                · omega
                · exact h
              have hyl : wsY.length = n := o10.1
              have c1 := hcb k2 (by omega)
              have c2 := hry.cell k2 (by omega)
              rw [hval] at c2
              generalize ws.getD k2 0 = val at *
              have hki : (k2 : Int) < (nx : Int) := by omega
              have hkn2 : (k2 : Int) < (n : Int) := by omega
              clear G b3 b10 r1 o10 o10' hcb hry hval hyl hkn
              go_wp2
              go_quiet (fail)
              go_wp2
              go_roundw
              case rel => exact ⟨k2 + 1, _, by omega, by omega, by go_num, rfl⟩
              case measure => simp [intOf]; omega
            · have hkn3 : ¬ ((k2 : Int) < (nx : Int)) := by omega
              have FIN : Hid _ := KS.out.1
              clear KS
              go_wp2
              go_ret
              exact ⟨rfl, grown_qN FIN.out q⟩
end Go.Proofs.YtonmcndedbmbfaaDoor.By
