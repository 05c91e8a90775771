/-
  The contract of the specification's l2place, for this seat's proofs. No statement is proved here.
-/
import Derived.Test.YtonmcndedbmbfaaDoorHAt
namespace Go.Proofs.YtonmcndedbmbfaaDoor.By
open Go.RowKit
set_option linter.unusedVariables false
set_option linter.unusedSimpArgs false

theorem pickAny (w0 w1 : World) (g : Nat) (a : Option Addr) (n cap : Nat) (zs : List Int) (hr : Reads w0 a n zs) (hz : Byt zs) (hn : n ≤ 9223372036854775807) (hc : Cur w0 w1 g a n cap) (l : List Int) (m : Nat) (hm : l.length = m) (h0 : 0 < m) (h1 : m ≤ 1000) :
    Calls Tryd.prog 20 #[.pointer (some ⟨g, 0, none⟩), .slice (some ⟨w1.heap.size, 0, none⟩) m m] (w1.alloc (.cells (l.map (Value.int .i64)).toArray 3)) fun e w' => ∃ x, e = .returned (.int .i64 x) ∧ Kept w0 w1 w' g a n cap := by
  subst hm
  have hga := World.grownBy_alloc w1 (.cells (l.map (Value.int .i64)).toArray 3) none
  have hlt := hc.ltH
  refine (pickT w0 _ g a n cap zs hr hz hn (hc.none hga) w1.heap.size l.length l h0 h1 (by omega) (list_cells (heap_alloc_new w1 _))).mono ?_
  rintro e w2 ⟨j, hj, he, hk⟩
  exact ⟨_, he, hk.1, grown_trans (grown_none hga _) hk.2⟩

set_option maxRecDepth 20000 in
set_option maxHeartbeats 2000000 in
theorem placeT (w0 w : World) (g : Nat) (a0 : Option Addr) (n0 cap0 : Nat) (zs : List Int) (hr : Reads w0 a0 n0 zs) (hz : Byt zs) (hn0 : n0 ≤ 9223372036854775807) (hc : Cur w0 w g a0 n0 cap0) (n c m d : Nat) (av bv : Option Addr) (half low next : Int) (fits : -1 ≤ half ∧ half ≤ 8192 ∧ -1 ≤ low ∧ low ≤ 8192 ∧ -1 ≤ next ∧ next ≤ 8192) :
    Calls Tryd.prog 28 #[.pointer (some ⟨g, 0, none⟩), .agg #[.slice av n c, .int .i64 half, .int .i64 low, .int .i64 next, .slice bv m d]] w fun e w' => ∃ t o : Int, e = .returned (.tuple #[.int .i64 t, .int .i64 o]) ∧ Kept w0 w w' g a0 n0 cap0 := by
  have HO : Hid (∀ w1, Cur w0 w1 g a0 n0 cap0 → ∀ m : Int, 0 < m → m ≤ 9223372036854775807 → Calls Tryd.prog 36 #[.pointer (some ⟨g, 0, none⟩), .int .i64 m] w1 fun e w' => ∃ x : Bool, e = .returned (.bool x) ∧ Kept w0 w1 w' g a0 n0 cap0) := fun w1 hc m hm hm1 => onceT w0 w1 g a0 n0 cap0 zs hr hz hn0 hc m hm hm1
  have HB : Hid (∀ w1, Cur w0 w1 g a0 n0 cap0 → ∀ m : Int, 0 < m → m ≤ 9223372036854775807 → Calls Tryd.prog 33 #[.pointer (some ⟨g, 0, none⟩), .int .i64 m] w1 fun e w' => ∃ x, e = .returned (.int .i64 x) ∧ 0 ≤ x ∧ x < m ∧ Kept w0 w1 w' g a0 n0 cap0) := fun w1 hc m hm hm1 => belowT w0 w1 g a0 n0 cap0 zs hr hz hn0 hc m hm hm1
  have HPk : Hid (∀ w1, Cur w0 w1 g a0 n0 cap0 → ∀ (l : List Int) (m : Nat), l.length = m → 0 < m → m ≤ 1000 → Calls Tryd.prog 20 #[.pointer (some ⟨g, 0, none⟩), .slice (some ⟨w1.heap.size, 0, none⟩) m m] (w1.alloc (.cells (l.map (Value.int .i64)).toArray 3)) fun e w' => ∃ x, e = .returned (.int .i64 x) ∧ Kept w0 w1 w' g a0 n0 cap0) := fun w1 hc l m h1 h2 h3 => pickAny w0 w1 g a0 n0 cap0 zs hr hz hn0 hc l m h1 h2 h3
  obtain ⟨f1, f2, f3, f4, f5, f6⟩ := fits
  have hlt := hc.ltH
  have ga := World.grownBy_alloc w (.cells #[.slice av n c, .int .i64 half, .int .i64 low, .int .i64 next, .slice bv m d] 26) none
  have ba := heap_alloc_new w (.cells #[.slice av n c, .int .i64 half, .int .i64 low, .int .i64 next, .slice bv m d] 26)
  have gd := grown_trans ga (grown_drew (World.grownBy.refl _ none))
  have K0 : Hid _ := And.intro (Box.kept (five ba).1 (grown_drew (World.grownBy.refl _ none)) (by simp)) (And.intro (hc.none gd) (grown_none gd (some g)))
  have N0 : Hid (g < w.heap.size) := hlt
  clear hr hz hc ga ba gd hlt
  go_enter Tryd.func28, Tryd.ntmps28
  go_wp2_with fail
  obtain ⟨bx, hc1, G1⟩ := K0.out
  refine wp_region_held_drew (S := Box w.heap.size (.slice av n c) (.int .i64 half) (.int .i64 low) (.int .i64 next) (.slice bv m d)) (by kernel_rfl) bx (fun hH => ?_)
  have K1 : Hid _ := And.intro hc1 G1
  clear K0 bx hc1 G1
  generalize (w.alloc (.cells #[.slice av n c, .int .i64 half, .int .i64 low, .int .i64 next, .slice bv m d] 26)).drew = u1 at *
  simp only [List.size_toArray, List.length_cons, List.length_nil, Nat.reduceAdd, Array.replicate, List.replicate]
  refine wpAnyH_take (i := 0) (v := ?_) rfl (by kernel_rfl) (by kernel_rfl) (by kernel_rfl) (fun _ _ _ h => h) (Or.inl ⟨by rfl, ?_⟩) hH ?_
  rotate_left
  · (intro v hS; obtain ⟨s0, s1, s2, s3, s4⟩ := hS; go_simp; try with_reducible rfl)
  simp only [Act.put, List.setIfInBounds_toArray, List.set_cons_zero, List.set_cons_succ, List.getElem_toArray, List.getElem_cons_succ, List.getElem_cons_zero]
  refine wpAnyH_take (i := 1) (v := ?_) rfl (by kernel_rfl) (by kernel_rfl) (by kernel_rfl) (fun _ _ _ h => h) (Or.inl ⟨by rfl, ?_⟩) hH ?_
  rotate_left
  · (intro v hS; obtain ⟨s0, s1, s2, s3, s4⟩ := hS; go_simp; try with_reducible rfl)
  simp only [Act.put, List.setIfInBounds_toArray, List.set_cons_zero, List.set_cons_succ, List.getElem_toArray, List.getElem_cons_succ, List.getElem_cons_zero]
  refine wpAnyH_take (i := 2) (v := ?_) rfl (by kernel_rfl) (by kernel_rfl) (by kernel_rfl) (fun _ _ _ h => h) (Or.inl ⟨by rfl, ?_⟩) hH ?_
  rotate_left
  · (intro v hS; obtain ⟨s0, s1, s2, s3, s4⟩ := hS; go_simp; try with_reducible rfl)
  simp only [Act.put, List.setIfInBounds_toArray, List.set_cons_zero, List.set_cons_succ, List.getElem_toArray, List.getElem_cons_succ, List.getElem_cons_zero]
  refine wpAnyH_ready (rs := [3]) (by kernel_rfl) (by simp) ?_
  refine AllReadyH.cons rfl (fun K hK => ?_) AllReadyH.nil
  go_simp
  refine (HB.out u1 K1.out.1 12 (by omega) (by omega)).mono ?_
  rintro e u2 ⟨x, rfl, hx0, hx1, hk2⟩
  have HH := hH.kept hk2.2 (by have := N0.out; simp; omega)
  have K2 : Hid (Kept w0 w u2 g a0 n0 cap0) := ⟨hk2.1, grown_trans K1.out.2 hk2.2⟩
  clear K1 hk2 hH
  refine hK.out _ _ HH (fun hH => ?_)
  clear hK K HH
  simp only [Act.put, List.setIfInBounds_toArray, List.set_cons_zero, List.set_cons_succ, List.getElem_toArray, List.getElem_cons_succ, List.getElem_cons_zero]
  have e1 : IntKind.i64.wrap (low + x) = low + x := IntWalk.i64_in _ (by omega)
  refine wpAnyH_take (i := 4) (v := ?_) rfl (by kernel_rfl) (by kernel_rfl) (by kernel_rfl) (fun _ _ _ h => h) (Or.inl ⟨by rfl, ?_⟩) hH ?_
  rotate_left
  · (intro v hS; obtain ⟨s0, s1, s2, s3, s4⟩ := hS; go_simp; try with_reducible rfl)
  simp only [Act.put, List.setIfInBounds_toArray, List.set_cons_zero, List.set_cons_succ, List.getElem_toArray, List.getElem_cons_succ, List.getElem_cons_zero]
  (try simp only [e1])
  refine wpAnyH_take (i := 5) (v := ?_) rfl (by kernel_rfl) (by kernel_rfl) (by kernel_rfl) (fun _ _ _ h => h) (Or.inl ⟨by rfl, ?_⟩) hH ?_
  rotate_left
  · (intro v hS; obtain ⟨s0, s1, s2, s3, s4⟩ := hS; go_simp; try with_reducible rfl)
  simp only [Act.put, List.setIfInBounds_toArray, List.set_cons_zero, List.set_cons_succ, List.getElem_toArray, List.getElem_cons_succ, List.getElem_cons_zero]
  refine wpAnyH_done (by kernel_rfl) ?_ _
  have BX : Hid (Box w.heap.size (.slice av n c) (.int .i64 half) (.int .i64 low) (.int .i64 next) (.slice bv m d) u2) := hH
  clear hH e1
  go_wp2_with fail
  refine (HB.out u2 K2.out.1 5 (by omega) (by omega)).mono ?_
  rintro e u3 ⟨x2, rfl, hy0, hy1, hk3⟩
  have BX3 : Hid (Box w.heap.size (.slice av n c) (.int .i64 half) (.int .i64 low) (.int .i64 next) (.slice bv m d) u3) := BX.out.kept hk3.2 (by have := N0.out; simp; omega)
  have K3 : Hid (Kept w0 w u3 g a0 n0 cap0) := K2.out.trans hk3
  clear K2 BX hk3
  simp only []
  go_wp2_with fail
  refine (HO.out u3 K3.out.1 5 (by omega) (by omega)).mono ?_
  rintro e u4 ⟨xb, rfl, hk4⟩
  have BX4 : Hid (Box w.heap.size (.slice av n c) (.int .i64 half) (.int .i64 low) (.int .i64 next) (.slice bv m d) u4) := BX3.out.kept hk4.2 (by have := N0.out; simp; omega)
  have K4 : Hid (Kept w0 w u4 g a0 n0 cap0) := K3.out.trans hk4
  clear K3 BX3 hk4
  generalize hp : w.heap.size = p at *
  simp only []
  go_upto_if 16 with fail
  go_cut [6] (fun s6 wx => ∃ t : Int, s6 = .int .i64 t ∧ Hid (Box p (.slice av n c) (.int .i64 half) (.int .i64 low) (.int .i64 next) (.slice bv m d) wx) ∧ Hid (Kept w0 w wx g a0 n0 cap0))
  case first =>
    cases xb with
    | false =>
      go_wp2_with fail
      go_meet
      exact ⟨_, rfl, BX4, K4⟩
    | true =>
      obtain ⟨b0, b1, b2, b3, b4⟩ := BX4.out
      go_wp2_with fail
      refine (HPk.out u4 K4.out.1 [-1, next, next - 1, low - 1, 4611686018427387904, -9223372036854775808] 6 rfl (by omega) (by omega)).mono ?_
      rintro e u5 ⟨x5, rfl, hk5⟩
      have BX5 : Hid (Box p (.slice av n c) (.int .i64 half) (.int .i64 low) (.int .i64 next) (.slice bv m d) u5) := BX4.out.kept hk5.2 (by have := N0.out; simp; omega)
      have K5 : Hid (Kept w0 w u5 g a0 n0 cap0) := K4.out.trans hk5
      clear K4 BX4 hk5 b0 b1 b2 b3 b4
      simp only []
      go_wp2_with fail
      go_meet
      exact ⟨_, rfl, BX5, K5⟩
  case rest =>
  obtain ⟨t, rfl, BX6, K6⟩ := hcut
  clear K4 BX4
  go_wp2_with fail
  refine (HO.out _ K6.out.1 6 (by omega) (by omega)).mono ?_
  rintro e u7 ⟨xb, rfl, hk7⟩
  have BX7 : Hid (Box p (.slice av n c) (.int .i64 half) (.int .i64 low) (.int .i64 next) (.slice bv m d) u7) := BX6.out.kept hk7.2 (by have := N0.out; simp; omega)
  have K7 : Hid (Kept w0 w u7 g a0 n0 cap0) := K6.out.trans hk7
  clear K6 BX6 hk7
  cases xb with
  | false =>
    clear BX7
    simp only []
    go_wp2
    go_ret2
    exact ⟨t, x2, rfl, K7.out⟩
  | true =>
    obtain ⟨b0, b1, b2, b3, b4⟩ := BX7.out
    simp only []
    go_wp2_with fail
    refine (HPk.out u7 K7.out.1 [-1, 4611686018427387904, 9223372036854775807, wrap64 (next - t), wrap64 (wrap64 (next - t) - 1)] 5 rfl (by omega) (by omega)).mono ?_
    rintro e u8 ⟨x8, rfl, hk8⟩
    have K8 : Hid (Kept w0 w u8 g a0 n0 cap0) := K7.out.trans hk8
    clear K7 BX7 hk8 b0 b1 b2 b3 b4
    simp only []
    go_wp2
    go_ret2
    exact ⟨t, x8, rfl, K8.out⟩
end Go.Proofs.YtonmcndedbmbfaaDoor.By
