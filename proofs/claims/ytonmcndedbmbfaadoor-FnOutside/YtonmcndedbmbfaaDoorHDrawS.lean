/-
  The contract of the specification's DrawStore, for this seat's proofs. No statement is proved here.
-/
import Derived.Test.YtonmcndedbmbfaaDoorHPlace
namespace Go.Proofs.YtonmcndedbmbfaaDoor.By
open Go.RowKit
set_option linter.unusedVariables false
set_option linter.unusedSimpArgs false

theorem results_cell4 {P : Program} {fn : Func} {p u v x : Tmp} {ty : TypeId} (h : fn.results = #[.cell p ty, .tmp u, .tmp v, .tmp x]) (tmps : Array Value) (w : World) (g : Nat) (t : TypeId) (cs : Array Value) (fr : Nat × Nat) (d : TypeDesc)
    (hp : tmps.getD p undef = .pointer (some ⟨g, 0, none⟩)) (hg : w.heap[g]? = some (.cells cs t fr))
    (hu : P.underlying ty = some d) (hd : (match d with | .struct _ | .array _ _ => true | _ => false) = true) (hi : (P.info? ty).map (·.size) = some cs.size) :
    (results fn tmps).run P w = .ok (.tuple #[.agg cs, tmps.getD u undef, tmps.getD v undef, tmps.getD x undef]) w := by
  have hp' : tmps[p]?.getD undef = .pointer (some ⟨g, 0, none⟩) := by simpa using hp
  simp [results, h, hp', asAddr, run_loadVar_row w g t ty cs fr d hg hu hd hi]

set_option maxRecDepth 20000 in
set_option maxHeartbeats 2000000 in
theorem drawStoreT (a0 : Option Addr) (n0 cap0 : Nat) (zs : List Int) (w : World) (hr : Reads w a0 n0 zs) (hz : Byt zs) (hn0 : n0 ≤ 9223372036854775807) :
    Calls Tryd.prog 14 #[.slice a0 n0 cap0] w fun e w' => ∃ (av : Option Addr) (n c : Nat) (half low next : Int) (bv : Option Addr) (m d : Nat) (ws ls : List Int) (t o x : Int), e = .returned (.tuple #[.agg #[.slice av n c, .int .i64 half, .int .i64 low, .int .i64 next, .slice bv m d], .int .i64 t, .int .i64 o, .int .i64 x]) ∧ w.grownBy w' none ∧ ReadsI w' av n ws ∧ ReadsI w' bv (m * 3) ls ∧ (av = none → c = 0) ∧ (bv = none → d = 0) ∧ (n ≤ 8192 ∧ m ≤ 4001 ∧ -1 ≤ half ∧ half ≤ 8192 ∧ -1 ≤ low ∧ low ≤ 8192 ∧ -1 ≤ next ∧ next ≤ 8192) := by
  have ga := World.grownBy_alloc w (.cells #[.slice none 0 0, .int .i64 0, .int .i64 0, .int .i64 0, .slice none 0 0] 26) none
  have ba := heap_alloc_new w (.cells #[.slice none 0 0, .int .i64 0, .int .i64 0, .int .i64 0, .slice none 0 0] 26)
  have sa : (w.alloc (.cells #[.slice none 0 0, .int .i64 0, .int .i64 0, .int .i64 0, .slice none 0 0] 26)).heap.size = w.heap.size + 1 := by simp
  have hr1 : Reads (w.alloc (.cells #[.slice none 0 0, .int .i64 0, .int .i64 0, .int .i64 0, .slice none 0 0] 26)) a0 n0 zs := hr.none ga
  have K0 : Hid _ := And.intro ga (And.intro ba (And.intro sa hr1))
  have HZ : Hid (Byt zs) := hz
  clear ga ba sa hr1 hr hz
  go_enter Tryd.func14, Tryd.ntmps14
  go_wp2_with fail
  obtain ⟨ga, ba, sa, hr1⟩ := K0.out
  refine (newT a0 n0 cap0 zs _ hr1 HZ.out hn0).mono ?_
  rintro e w1 ⟨g, rfl, hc, hg1⟩
  have z1 := blk0 hg1 ba
  have s1 := hg1.size
  rw [sa] at s1
  have hgl := hc.1
  rw [sa] at hgl
  have K1 : Hid _ := And.intro (grown_trans ga hg1) (And.intro z1 (And.intro hc (And.intro hr1 (And.intro s1 (And.intro hgl (Nat.le_trans (Nat.le_of_eq sa) s1))))))
  clear K0 ga ba sa hr1 hc hg1 z1 s1 hgl
  generalize (w.alloc (.cells #[.slice none 0 0, .int .i64 0, .int .i64 0, .int .i64 0, .slice none 0 0] 26)) = w00 at *
  generalize hp2 : w.heap.size = p2 at *
  simp only []
  go_wp2_with fail
  obtain ⟨G1, z1, hc, hr1, s1, hgl, s0⟩ := K1.out
  refine (lheapT w00 w1 g a0 n0 cap0 zs hr1 HZ.out hn0 hc (by have := hc.2.1.size; omega)).mono ?_
  rintro e w2 ⟨av, n, c, half, low, next, bv, m, d, ws, ls, gw, gl, rfl, hk, o1, o2, na, nb, fits⟩
  have gA := World.grownBy_alloc w2 (.cells #[.slice av n c, .int .i64 half, .int .i64 low, .int .i64 next, .slice bv m d] 26) none
  have bA := heap_alloc_new w2 (.cells #[.slice av n c, .int .i64 half, .int .i64 low, .int .i64 next, .slice bv m d] 26)
  have z2 := (hk.2.block p2 (lt_of_block z1) (by simp; omega)).trans z1
  have G2 := grown_into G1 hk.2 (by omega)
  have lt2 := lt_of_block z2
  have hgg := hk.1.ltH
  have K2 : Hid _ := And.intro (grown_trans G2 gA) (And.intro (blk0 gA z2) (And.intro bA (And.intro (hk.1.none gA) (And.intro (o1.kept gA (by simp)) (And.intro (o2.kept gA (by simp)) hr1)))))
  have N2 : Hid (p2 < g ∧ g < w2.heap.size ∧ p2 < w2.heap.size) := ⟨by omega, hgg, by omega⟩
  have PO : Hid _ := And.intro na (And.intro nb fits)
  clear K1 G1 z1 hc hr1 s1 hgl s0 hk o1 o2 na nb gA bA z2 G2 lt2 hgg
  generalize hp7 : w2.heap.size = p7 at *
  simp only []
  go_wp2_with fail
  obtain ⟨G2, z2, b7, hc2, o1, o2, hr1⟩ := K2.out
  refine (placeT w00 _ g a0 n0 cap0 zs hr1 HZ.out hn0 hc2 n c m d av bv half low next fits.2.2).mono ?_
  rintro e u3 ⟨t, o, rfl, hk3⟩
  obtain ⟨q1, q2, q3⟩ := N2.out
  have b7' := (hk3.2.block p7 (lt_of_block b7) (by simp; omega)).trans b7
  have z2' := (hk3.2.block p2 (lt_of_block z2) (by simp; omega)).trans z2
  have gd := grown_drew (World.grownBy.refl u3 none)
  have K3 : Hid _ := And.intro (grown_trans (grown_into G2 hk3.2 (by omega)) gd) (And.intro (blk0 gd z2') (And.intro (blk0 gd b7') (And.intro (hk3.1.none gd) (And.intro ((o1.cur hc2 (by decide) hk3.2).kept gd (by simp)) (And.intro ((o2.cur hc2 (by decide) hk3.2).kept gd (by simp)) hr1)))))
  clear K2 G2 z2 b7 hc2 o1 o2 hr1 hk3 b7' z2' gd q1 q2 q3 fits
  simp only []
  go_wp2_with fail
  obtain ⟨G3, z3, b7, hc3, o1, o2, hr1⟩ := K3.out
  refine wp_region_held_drew (S := Box p7 (.slice av n c) (.int .i64 half) (.int .i64 low) (.int .i64 next) (.slice bv m d)) (by kernel_rfl) (five b7).1 (fun hH => ?_)
  have BB : Hid _ := And.intro G3 (And.intro z3 (And.intro b7 (And.intro hc3 (And.intro o1 (And.intro o2 hr1)))))
  clear K3 G3 z3 b7 hc3 o1 o2 hr1
  generalize u3.drew = u4 at *
  simp only [List.size_toArray, List.length_cons, List.length_nil, Nat.reduceAdd, Array.replicate, List.replicate]
  refine wpAnyH_take (i := 0) (v := ?_) rfl (by kernel_rfl) (by kernel_rfl) (by kernel_rfl) (fun _ _ _ h => h) (Or.inl ⟨by rfl, ?_⟩) hH ?_
  rotate_left
  · (intro v hS; obtain ⟨s0, s1, s2, s3, s4⟩ := hS; go_simp; try with_reducible rfl)
  simp only [Act.put, List.setIfInBounds_toArray, List.set_cons_zero, List.set_cons_succ, List.getElem_toArray, List.getElem_cons_succ, List.getElem_cons_zero]
  refine wpAnyH_take (i := 1) (v := ?_) rfl (by kernel_rfl) (by kernel_rfl) (by kernel_rfl) (fun _ _ _ h => h) (Or.inl ⟨by rfl, ?_⟩) hH ?_
  rotate_left
  · (intro v hS; obtain ⟨s0, s1, s2, s3, s4⟩ := hS; go_simp; try with_reducible rfl)
  simp only [Act.put, List.setIfInBounds_toArray, List.set_cons_zero, List.set_cons_succ, List.getElem_toArray, List.getElem_cons_succ, List.getElem_cons_zero]
  refine wpAnyH_take (i := 2) (v := ?_) rfl (by kernel_rfl) (by kernel_rfl) (by kernel_rfl) (fun _ _ _ h => h) (Or.inl ⟨by rfl, ?_⟩) hH ?_
  rotate_left
  · (intro v hS; obtain ⟨s0, s1, s2, s3, s4⟩ := hS; go_simp; try with_reducible rfl)
  simp only [Act.put, List.setIfInBounds_toArray, List.set_cons_zero, List.set_cons_succ, List.getElem_toArray, List.getElem_cons_succ, List.getElem_cons_zero]
  refine wpAnyH_take (i := 3) (v := ?_) rfl (by kernel_rfl) (by kernel_rfl) (by kernel_rfl) (fun _ _ _ h => h) (Or.inl ⟨by rfl, ?_⟩) hH ?_
  rotate_left
  · (intro v hS; obtain ⟨s0, s1, s2, s3, s4⟩ := hS; go_simp; try with_reducible rfl)
  simp only [Act.put, List.setIfInBounds_toArray, List.set_cons_zero, List.set_cons_succ, List.getElem_toArray, List.getElem_cons_succ, List.getElem_cons_zero]
  refine wpAnyH_ready (rs := [4]) (by kernel_rfl) (by simp) ?_
  refine AllReadyH.cons rfl (fun K hK => ?_) AllReadyH.nil
  go_simp
  obtain ⟨G3, z3, b7, hc3, o1, o2, hr1⟩ := BB.out
  refine (signedT w00 u4 g a0 n0 cap0 zs hr1 HZ.out hn0 hc3).mono ?_
  rintro e u5 ⟨x, rfl, -, hk5⟩
  obtain ⟨q1, q2, q3⟩ := N2.out
  have z5 := (hk5.2.block p2 (lt_of_block z3) (by simp; omega)).trans z3
  have HH := hH.kept hk5.2 (by simp; omega)
  have o15 := o1.cur hc3 (by decide) hk5.2
  have o25 := o2.cur hc3 (by decide) hk5.2
  have G5 := grown_into G3 hk5.2 (by omega)
  obtain ⟨d1, k5⟩ := fill5 (.slice av n c) (.int .i64 half) (.int .i64 low) (.int .i64 next) (.slice bv m d) z5
  have FIN : Hid _ := And.intro (grown_into G5 k5 (by omega)) (And.intro (o15.past z5 (by decide) k5).reads (And.intro (o25.past z5 (by decide) k5).reads PO.out))
  have D1 : Hid _ := d1
  have HX : Hid _ := HH.kept k5 (by simp; omega)
  obtain ⟨⟨y0, y1, y2, y3, y4⟩, f0, f1, f2, f3, f4⟩ := five z5
  clear BB PO G3 z3 b7 hc3 o1 o2 hr1 hk5 q1 q2 q3 z5 o15 o25 G5 d1 k5 hH HZ
  refine hK.out _ _ HH (fun hH => ?_)
  clear hK K HH
  simp only [Act.put, List.setIfInBounds_toArray, List.set_cons_zero, List.set_cons_succ, List.getElem_toArray, List.getElem_cons_succ, List.getElem_cons_zero]
  refine wpAnyH_ready (rs := [5]) (by kernel_rfl) (by simp) ?_
  refine AllReadyH.cons rfl (fun K hK => ?_) AllReadyH.nil
  go_simp
  clear hH
  refine hK.out _ _ HX.out (fun hH => ?_)
  clear hK K HX
  simp only [Act.put, List.setIfInBounds_toArray, List.set_cons_zero, List.set_cons_succ, List.getElem_toArray, List.getElem_cons_succ, List.getElem_cons_zero]
  refine wpAnyH_take (i := 6) (v := ?_) rfl (by kernel_rfl) (by kernel_rfl) (by kernel_rfl) (fun _ _ _ h => h) (Or.inl ⟨by rfl, ?_⟩) hH ?_
  rotate_left
  · (intro v hS; obtain ⟨s0, s1, s2, s3, s4⟩ := hS; go_simp; try with_reducible rfl)
  simp only [Act.put, List.setIfInBounds_toArray, List.set_cons_zero, List.set_cons_succ, List.getElem_toArray, List.getElem_cons_succ, List.getElem_cons_zero]
  refine wpAnyH_take (i := 7) (v := ?_) rfl (by kernel_rfl) (by kernel_rfl) (by kernel_rfl) (fun _ _ _ h => h) (Or.inl ⟨by rfl, ?_⟩) hH ?_
  rotate_left
  · (intro v hS; obtain ⟨s0, s1, s2, s3, s4⟩ := hS; go_simp; try with_reducible rfl)
  simp only [Act.put, List.setIfInBounds_toArray, List.set_cons_zero, List.set_cons_succ, List.getElem_toArray, List.getElem_cons_succ, List.getElem_cons_zero]
  refine wpAnyH_take (i := 8) (v := ?_) rfl (by kernel_rfl) (by kernel_rfl) (by kernel_rfl) (fun _ _ _ h => h) (Or.inl ⟨by rfl, ?_⟩) hH ?_
  rotate_left
  · (intro v hS; obtain ⟨s0, s1, s2, s3, s4⟩ := hS; go_simp; try with_reducible rfl)
  simp only [Act.put, List.setIfInBounds_toArray, List.set_cons_zero, List.set_cons_succ, List.getElem_toArray, List.getElem_cons_succ, List.getElem_cons_zero]
  refine wpAnyH_done (by kernel_rfl) ?_ _
  go_wp2
  (try simp only [Exit.inBlock, Exit.then])
  refine bodyPost_ret (results_cell4 (P := Tryd.prog) Tryd.results14 _ _ p2 _ _ _ _ rfl D1.out Tryd.underlying26 rfl (by kernel_rfl)) rfl ?_
  exact ⟨av, n, c, half, low, next, bv, m, d, ws, ls, t, o, x, rfl, FIN.out⟩
end Go.Proofs.YtonmcndedbmbfaaDoor.By
