/-
  The contract of the specification's DrawAlloc, for this seat's proofs. No statement is proved here.
-/
import Derived.Test.YtonmcndedbmbfaaDoorHDrawL
import Derived.Test.YtonmcndedbmbfaaDoorHAnsStore
namespace Go.Proofs.YtonmcndedbmbfaaDoor.By
open Go.RowKit
set_option linter.unusedVariables false
set_option linter.unusedSimpArgs false

set_option maxRecDepth 20000 in
set_option maxHeartbeats 2000000 in
theorem drawAllocT (a0 : Option Addr) (n0 cap0 : Nat) (zs : List Int) (w : World) (hr : Reads w a0 n0 zs) (hz : Byt zs) (hn0 : n0 ≤ 9223372036854775807) :
    Calls Tryd.prog 5 #[.slice a0 n0 cap0] w fun e w' => ∃ (av : Option Addr) (n c : Nat) (half low next : Int) (bv : Option Addr) (m d : Nat) (ws ls : List Int) (x : Int), e = .returned (.tuple #[.agg #[.slice av n c, .int .i64 half, .int .i64 low, .int .i64 next, .slice bv m d], .int .i64 x]) ∧ w.grownBy w' none ∧ ReadsI w' av n ws ∧ ReadsI w' bv (m * 3) ls ∧ (av = none → c = 0) ∧ (bv = none → d = 0) ∧ (n ≤ 8192 ∧ m ≤ 4001 ∧ -1 ≤ half ∧ half ≤ 8192 ∧ -1 ≤ low ∧ low ≤ 8192 ∧ -1 ≤ next ∧ next ≤ 8192) := by
  have ga := World.grownBy_alloc w (.cells #[.slice none 0 0, .int .i64 0, .int .i64 0, .int .i64 0, .slice none 0 0] 26) none
  have ba := heap_alloc_new w (.cells #[.slice none 0 0, .int .i64 0, .int .i64 0, .int .i64 0, .slice none 0 0] 26)
  have sa : (w.alloc (.cells #[.slice none 0 0, .int .i64 0, .int .i64 0, .int .i64 0, .slice none 0 0] 26)).heap.size = w.heap.size + 1 := by simp
  have hr1 : Reads (w.alloc (.cells #[.slice none 0 0, .int .i64 0, .int .i64 0, .int .i64 0, .slice none 0 0] 26)) a0 n0 zs := hr.none ga
  have K0 : Hid _ := And.intro ga (And.intro ba (And.intro sa hr1))
  have HZ : Hid (Byt zs) := hz
  clear ga ba sa hr1 hr hz
  go_enter Tryd.func5, Tryd.ntmps5
  go_wp2_with fail
  obtain ⟨ga, ba, sa, hr1⟩ := K0.out
  refine (newT a0 n0 cap0 zs _ hr1 HZ.out hn0).mono ?_
  rintro e w1 ⟨g, rfl, hc, hg1⟩
  have z1 := blk0 hg1 ba
  have s1 := hg1.size
  rw [sa] at s1
  have hgl := hc.1
  rw [sa] at hgl
  have K1 : Hid _ := And.intro (grown_trans ga hg1) (And.intro z1 (And.intro hc (And.intro hr1 (And.intro s1 (And.intro hgl (Nat.le_trans (Nat.le_of_eq sa) s1))))))
  clear K0 ga ba sa hr1 hc hg1 z1 s1 hgl
  generalize (w.alloc (.cells #[.slice none 0 0, .int .i64 0, .int .i64 0, .int .i64 0, .slice none 0 0] 26)) = w00 at *
  generalize hp2 : w.heap.size = p2 at *
  simp only []
  go_wp2_with fail
  obtain ⟨G1, z1, hc, hr1, s1, hgl, s0⟩ := K1.out
  have s00 := hc.2.1.size
  refine (lheapT w00 w1 g a0 n0 cap0 zs hr1 HZ.out hn0 hc (by have := hc.2.1.size; omega)).mono ?_
  rintro e w2 ⟨av, n, c, half, low, next, bv, m, d, ws, ls, gw, gl, rfl, hk, r1, r2, na, nb, fits⟩
  have gA := World.grownBy_alloc w2 (.cells #[.slice av n c, .int .i64 half, .int .i64 low, .int .i64 next, .slice bv m d] 26) none
  have bA := heap_alloc_new w2 (.cells #[.slice av n c, .int .i64 half, .int .i64 low, .int .i64 next, .slice bv m d] 26)
  have z2 := (hk.2.block p2 (lt_of_block z1) (by simp; omega)).trans z1
  have G2 := grown_into G1 hk.2 (by omega)
  have lt2 := lt_of_block z2
  have gD := grown_drew (World.grownBy.refl (w2.alloc (.cells #[.slice av n c, .int .i64 half, .int .i64 low, .int .i64 next, .slice bv m d] 26)) none)
  have kAD := grown_trans gA gD
  have K2 : Hid _ := And.intro (grown_trans G2 kAD) (And.intro (blk0 kAD z2) (And.intro (blk0 gD bA) (And.intro (hk.1.none kAD) (And.intro (r1.kept kAD (by simp)) (And.intro (r2.kept kAD (by simp)) (And.intro hr1 (show p2 < g ∧ g < w2.heap.size ∧ p2 < w2.heap.size from ⟨by omega, hk.1.ltH, by omega⟩)))))))
  have PO : Hid _ := And.intro na (And.intro nb fits)
  have e1 : IntKind.i64.wrap (low + half) = low + half := IntWalk.i64_in _ (by omega)
  have e2 : IntKind.i64.wrap (low + half - next) = low + half - next := IntWalk.i64_in _ (by omega)
  have e3 : IntKind.i64.wrap (low + half - next + 1) = low + half - next + 1 := IntWalk.i64_in _ (by omega)
  clear K1 G1 z1 hc hr1 s1 hgl s0 s00 hk r1 r2 na nb fits gA bA z2 G2 lt2 gD kAD
  simp only []
  go_wp2_with fail
  obtain ⟨G2, z2, b5, hc2, r1, r2, hr1, lt2⟩ := K2.out
  refine wp_region_held_drew (S := Box w2.heap.size (.slice av n c) (.int .i64 half) (.int .i64 low) (.int .i64 next) (.slice bv m d)) (by kernel_rfl) (five b5).1 (fun hH => ?_)
  have BB : Hid _ := And.intro G2 (And.intro z2 (And.intro b5 (And.intro hc2 (And.intro r1 (And.intro r2 (And.intro hr1 lt2))))))
  clear K2 G2 z2 b5 hc2 r1 r2 hr1 lt2
  generalize (w2.alloc (.cells #[.slice av n c, .int .i64 half, .int .i64 low, .int .i64 next, .slice bv m d] 26)).drew = u at *
  generalize w2.heap.size = p5 at *
  simp only [List.size_toArray, List.length_cons, List.length_nil, Nat.reduceAdd, Array.replicate, List.replicate]
  refine wpAnyH_take (i := 0) (v := ?_) rfl (by kernel_rfl) (by kernel_rfl) (by kernel_rfl) (fun _ _ _ h => h) (Or.inl ⟨by rfl, ?_⟩) hH ?_
  rotate_left
  · (intro v hS; obtain ⟨s0, s1, s2, s3, s4⟩ := hS; go_simp; try with_reducible rfl)
  simp only [Act.put, List.setIfInBounds_toArray, List.set_cons_zero, List.set_cons_succ, List.getElem_toArray, List.getElem_cons_succ, List.getElem_cons_zero]
  refine wpAnyH_take (i := 1) (v := ?_) rfl (by kernel_rfl) (by kernel_rfl) (by kernel_rfl) (fun _ _ _ h => h) (Or.inl ⟨by rfl, ?_⟩) hH ?_
  rotate_left
  · (intro v hS; obtain ⟨s0, s1, s2, s3, s4⟩ := hS; go_simp; try with_reducible rfl)
  simp only [Act.put, List.setIfInBounds_toArray, List.set_cons_zero, List.set_cons_succ, List.getElem_toArray, List.getElem_cons_succ, List.getElem_cons_zero]
  refine wpAnyH_take (i := 2) (v := ?_) rfl (by kernel_rfl) (by kernel_rfl) (by kernel_rfl) (fun _ _ _ h => h) (Or.inl ⟨by rfl, ?_⟩) hH ?_
  rotate_left
  · (intro v hS; obtain ⟨s0, s1, s2, s3, s4⟩ := hS; go_simp; try with_reducible rfl)
  simp only [Act.put, List.setIfInBounds_toArray, List.set_cons_zero, List.set_cons_succ, List.getElem_toArray, List.getElem_cons_succ, List.getElem_cons_zero]
  refine wpAnyH_take (i := 3) (v := ?_) rfl (by kernel_rfl) (by kernel_rfl) (by kernel_rfl) (fun _ _ _ h => h) (Or.inl ⟨by rfl, ?_⟩) hH ?_
  rotate_left
  · (intro v hS; obtain ⟨s0, s1, s2, s3, s4⟩ := hS; go_simp; try with_reducible rfl)
  simp only [Act.put, List.setIfInBounds_toArray, List.set_cons_zero, List.set_cons_succ, List.getElem_toArray, List.getElem_cons_succ, List.getElem_cons_zero]
  refine wpAnyH_take (i := 4) (v := ?_) rfl (by kernel_rfl) (by kernel_rfl) (by kernel_rfl) (fun _ _ _ h => h) (Or.inl ⟨by rfl, ?_⟩) hH ?_
  rotate_left
  · (intro v hS; obtain ⟨s0, s1, s2, s3, s4⟩ := hS; go_simp; try with_reducible rfl)
  simp only [Act.put, List.setIfInBounds_toArray, List.set_cons_zero, List.set_cons_succ, List.getElem_toArray, List.getElem_cons_succ, List.getElem_cons_zero]
  refine wpAnyH_take (i := 5) (v := ?_) rfl (by kernel_rfl) (by kernel_rfl) (by kernel_rfl) (fun _ _ _ h => h) (Or.inl ⟨by rfl, ?_⟩) hH ?_
  rotate_left
  · (intro v hS; obtain ⟨s0, s1, s2, s3, s4⟩ := hS; go_simp; try with_reducible rfl)
  simp only [Act.put, List.setIfInBounds_toArray, List.set_cons_zero, List.set_cons_succ, List.getElem_toArray, List.getElem_cons_succ, List.getElem_cons_zero]
  refine wpAnyH_take (i := 6) (v := ?_) rfl (by kernel_rfl) (by kernel_rfl) (by kernel_rfl) (fun _ _ _ h => h) (Or.inl ⟨by rfl, ?_⟩) hH ?_
  rotate_left
  · (intro v hS; obtain ⟨s0, s1, s2, s3, s4⟩ := hS; go_simp; try with_reducible rfl)
  simp only [Act.put, List.setIfInBounds_toArray, List.set_cons_zero, List.set_cons_succ, List.getElem_toArray, List.getElem_cons_succ, List.getElem_cons_zero]
  refine wpAnyH_take (i := 7) (v := ?_) rfl (by kernel_rfl) (by kernel_rfl) (by kernel_rfl) (fun _ _ _ h => h) (Or.inl ⟨by rfl, ?_⟩) hH ?_
  rotate_left
  · (intro v hS; obtain ⟨s0, s1, s2, s3, s4⟩ := hS; go_simp; try with_reducible rfl)
  simp only [Act.put, List.setIfInBounds_toArray, List.set_cons_zero, List.set_cons_succ, List.getElem_toArray, List.getElem_cons_succ, List.getElem_cons_zero]
  refine wpAnyH_take (i := 8) (v := ?_) rfl (by kernel_rfl) (by kernel_rfl) (by kernel_rfl) (fun _ _ _ h => h) (Or.inl ⟨by rfl, ?_⟩) hH ?_
  rotate_left
  · (intro v hS; obtain ⟨s0, s1, s2, s3, s4⟩ := hS; go_simp; try with_reducible rfl)
  simp only [Act.put, List.setIfInBounds_toArray, List.set_cons_zero, List.set_cons_succ, List.getElem_toArray, List.getElem_cons_succ, List.getElem_cons_zero]
  refine wpAnyH_take (i := 9) (v := ?_) rfl (by kernel_rfl) (by kernel_rfl) (by kernel_rfl) (fun _ _ _ h => h) (Or.inl ⟨by rfl, ?_⟩) hH ?_
  rotate_left
  · (intro v hS; obtain ⟨s0, s1, s2, s3, s4⟩ := hS; go_simp; try with_reducible rfl)
  simp only [Act.put, List.setIfInBounds_toArray, List.set_cons_zero, List.set_cons_succ, List.getElem_toArray, List.getElem_cons_succ, List.getElem_cons_zero]
  refine wpAnyH_take (i := 10) (v := ?_) rfl (by kernel_rfl) (by kernel_rfl) (by kernel_rfl) (fun _ _ _ h => h) (Or.inl ⟨by rfl, ?_⟩) hH ?_
  rotate_left
  · (intro v hS; obtain ⟨s0, s1, s2, s3, s4⟩ := hS; go_simp; try with_reducible rfl)
  simp only [Act.put, List.setIfInBounds_toArray, List.set_cons_zero, List.set_cons_succ, List.getElem_toArray, List.getElem_cons_succ, List.getElem_cons_zero]
  refine wpAnyH_take (i := 11) (v := ?_) rfl (by kernel_rfl) (by kernel_rfl) (by kernel_rfl) (fun _ _ _ h => h) (Or.inl ⟨by rfl, ?_⟩) hH ?_
  rotate_left
  · (intro v hS; obtain ⟨s0, s1, s2, s3, s4⟩ := hS; go_simp; try with_reducible rfl)
  simp only [Act.put, List.setIfInBounds_toArray, List.set_cons_zero, List.set_cons_succ, List.getElem_toArray, List.getElem_cons_succ, List.getElem_cons_zero]
  refine wpAnyH_take (i := 12) (v := ?_) rfl (by kernel_rfl) (by kernel_rfl) (by kernel_rfl) (fun _ _ _ h => h) (Or.inl ⟨by rfl, ?_⟩) hH ?_
  rotate_left
  · (intro v hS; obtain ⟨s0, s1, s2, s3, s4⟩ := hS; go_simp; try with_reducible rfl)
  simp only [Act.put, List.setIfInBounds_toArray, List.set_cons_zero, List.set_cons_succ, List.getElem_toArray, List.getElem_cons_succ, List.getElem_cons_zero]
  refine wpAnyH_take (i := 13) (v := ?_) rfl (by kernel_rfl) (by kernel_rfl) (by kernel_rfl) (fun _ _ _ h => h) (Or.inl ⟨by rfl, ?_⟩) hH ?_
  rotate_left
  · (intro v hS; obtain ⟨s0, s1, s2, s3, s4⟩ := hS; go_simp; try with_reducible rfl)
  simp only [Act.put, List.setIfInBounds_toArray, List.set_cons_zero, List.set_cons_succ, List.getElem_toArray, List.getElem_cons_succ, List.getElem_cons_zero]
  refine wpAnyH_take (i := 14) (v := ?_) rfl (by kernel_rfl) (by kernel_rfl) (by kernel_rfl) (fun _ _ _ h => h) (Or.inl ⟨by rfl, ?_⟩) hH ?_
  rotate_left
  · (intro v hS; obtain ⟨s0, s1, s2, s3, s4⟩ := hS; go_simp; try with_reducible rfl)
  simp only [Act.put, List.setIfInBounds_toArray, List.set_cons_zero, List.set_cons_succ, List.getElem_toArray, List.getElem_cons_succ, List.getElem_cons_zero]
  refine wpAnyH_take (i := 15) (v := ?_) rfl (by kernel_rfl) (by kernel_rfl) (by kernel_rfl) (fun _ _ _ h => h) (Or.inl ⟨by rfl, ?_⟩) hH ?_
  rotate_left
  · (intro v hS; obtain ⟨s0, s1, s2, s3, s4⟩ := hS; go_simp; try with_reducible rfl)
  simp only [Act.put, List.setIfInBounds_toArray, List.set_cons_zero, List.set_cons_succ, List.getElem_toArray, List.getElem_cons_succ, List.getElem_cons_zero]
  refine wpAnyH_take (i := 16) (v := ?_) rfl (by kernel_rfl) (by kernel_rfl) (by kernel_rfl) (fun _ _ _ h => h) (Or.inl ⟨by rfl, ?_⟩) hH ?_
  rotate_left
  · (intro v hS; obtain ⟨s0, s1, s2, s3, s4⟩ := hS; go_simp; try with_reducible rfl)
  simp only [Act.put, List.setIfInBounds_toArray, List.set_cons_zero, List.set_cons_succ, List.getElem_toArray, List.getElem_cons_succ, List.getElem_cons_zero]
  refine wpAnyH_take (i := 17) (v := ?_) rfl (by kernel_rfl) (by kernel_rfl) (by kernel_rfl) (fun _ _ _ h => h) (Or.inl ⟨by rfl, ?_⟩) hH ?_
  rotate_left
  · (intro v hS; obtain ⟨s0, s1, s2, s3, s4⟩ := hS; go_simp; try with_reducible rfl)
  simp only [Act.put, List.setIfInBounds_toArray, List.set_cons_zero, List.set_cons_succ, List.getElem_toArray, List.getElem_cons_succ, List.getElem_cons_zero]
  refine wpAnyH_take (i := 18) (v := ?_) rfl (by kernel_rfl) (by kernel_rfl) (by kernel_rfl) (fun _ _ _ h => h) (Or.inl ⟨by rfl, ?_⟩) hH ?_
  rotate_left
  · (intro v hS; obtain ⟨s0, s1, s2, s3, s4⟩ := hS; go_simp; try with_reducible rfl)
  simp only [Act.put, List.setIfInBounds_toArray, List.set_cons_zero, List.set_cons_succ, List.getElem_toArray, List.getElem_cons_succ, List.getElem_cons_zero]
  (try simp only [e1, e2, e3])
  refine wpAnyH_ready (rs := [19]) (by kernel_rfl) (by simp) ?_
  refine AllReadyH.cons rfl (fun K hK => ?_) AllReadyH.nil
  go_simp
  obtain ⟨G2, z2, b5, hc2, r1, r2, hr1, lt2⟩ := BB.out
  have gA := World.grownBy_alloc u (.cells (([0, 1, 2, 3, 64, 65, low + half - next, low + half - next + 1, -1, 4611686018427387904] : List Int).map (Value.int .i64)).toArray 3) none
  have PC : Hid _ := pickCells u [0, 1, 2, 3, 64, 65, low + half - next, low + half - next + 1, -1, 4611686018427387904]
  have hne : u.heap.size ≠ g := by have := hc2.ltH; omega
  have HH := hH.kept gA (by simp)
  have K3 : Hid _ := And.intro (grown_trans G2 gA) (And.intro (blk0 gA z2) (And.intro (blk0 gA b5) (And.intro (hc2.none gA) (And.intro (r1.kept gA (by simp)) (And.intro (r2.kept gA (by simp)) (And.intro hr1 lt2))))))
  clear BB G2 z2 b5 hc2 r1 r2 hr1 lt2 gA hH e1 e2 e3
  refine hK.out _ _ HH (fun hH => ?_)
  clear hK K HH
  simp only [Act.put, List.setIfInBounds_toArray, List.set_cons_zero, List.set_cons_succ, List.getElem_toArray, List.getElem_cons_succ, List.getElem_cons_zero]
  refine wpAnyH_ready (rs := [20]) (by kernel_rfl) (by simp) ?_
  refine AllReadyH.cons rfl (fun K hK => ?_) AllReadyH.nil
  go_simp
  obtain ⟨G2, z2, b5, hc2, r1, r2, hr1, lt2⟩ := K3.out
  refine (pickT w00 _ g a0 n0 cap0 zs hr1 HZ.out hn0 hc2 u.heap.size 10 [0, 1, 2, 3, 64, 65, low + half - next, low + half - next + 1, -1, 4611686018427387904] (by omega) (by omega) hne PC.out).mono ?_
  rintro e u2 ⟨j, hj, rfl, hk2⟩
  generalize ([0, 1, 2, 3, 64, 65, low + half - next, low + half - next + 1, -1, 4611686018427387904] : List Int).getD j 0 = x
  obtain ⟨q1, q2, q3⟩ := lt2
  have b5' := (hk2.2.block p5 (lt_of_block b5) (by simp; omega)).trans b5
  have z2' := (hk2.2.block p2 (lt_of_block z2) (by simp; omega)).trans z2
  have o1 := r1.cur hc2 (by decide) hk2.2
  have o2 := r2.cur hc2 (by decide) hk2.2
  have G3 := grown_into G2 hk2.2 (by omega)
  obtain ⟨d1, k5⟩ := fill5 (.slice av n c) (.int .i64 half) (.int .i64 low) (.int .i64 next) (.slice bv m d) z2'
  have FIN : Hid _ := And.intro (grown_into G3 k5 (by omega)) (And.intro (o1.past z2' (by decide) k5).reads (And.intro (o2.past z2' (by decide) k5).reads PO.out))
  have D1 : Hid _ := d1
  have HH := hH.kept hk2.2 (by simp; omega)
  have HX : Hid _ := HH.kept k5 (by simp; omega)
  obtain ⟨⟨y0, y1, y2, y3, y4⟩, f0, f1, f2, f3, f4⟩ := five z2'
  clear K3 PO PC G2 z2 b5 hc2 r1 r2 hr1 q1 q2 q3 b5' z2' o1 o2 G3 d1 k5 hH hj hne HZ
  refine hK.out _ _ HH (fun hH => ?_)
  clear hK K HH
  simp only [Act.put, List.setIfInBounds_toArray, List.set_cons_zero, List.set_cons_succ, List.getElem_toArray, List.getElem_cons_succ, List.getElem_cons_zero]
  refine wpAnyH_ready (rs := [21]) (by kernel_rfl) (by simp) ?_
  refine AllReadyH.cons rfl (fun K hK => ?_) AllReadyH.nil
  go_simp
  clear hH
  refine hK.out _ _ HX.out (fun hH => ?_)
  clear hK K HX
  simp only [Act.put, List.setIfInBounds_toArray, List.set_cons_zero, List.set_cons_succ, List.getElem_toArray, List.getElem_cons_succ, List.getElem_cons_zero]
  refine wpAnyH_take (i := 22) (v := ?_) rfl (by kernel_rfl) (by kernel_rfl) (by kernel_rfl) (fun _ _ _ h => h) (Or.inl ⟨by rfl, ?_⟩) hH ?_
  rotate_left
  · (intro v hS; obtain ⟨s0, s1, s2, s3, s4⟩ := hS; go_simp; try with_reducible rfl)
  simp only [Act.put, List.setIfInBounds_toArray, List.set_cons_zero, List.set_cons_succ, List.getElem_toArray, List.getElem_cons_succ, List.getElem_cons_zero]
  refine wpAnyH_done (by kernel_rfl) ?_ _
  go_wp2
  (try simp only [Exit.inBlock, Exit.then])
  refine bodyPost_ret (results_cell2 (P := Tryd.prog) Tryd.results5 _ _ p2 _ _ _ _ rfl D1.out Tryd.underlying26 rfl (by kernel_rfl)) rfl ?_
  exact ⟨av, n, c, half, low, next, bv, m, d, ws, ls, x, rfl, FIN.out⟩
end Go.Proofs.YtonmcndedbmbfaaDoor.By
