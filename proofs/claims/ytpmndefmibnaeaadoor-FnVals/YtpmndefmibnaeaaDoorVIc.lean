/-
  The closure that looks at one part. No statement is proved here.
-/
import Derived.Test.YtpmndefmibnaeaaDoorVIb
import Derived.Deep.DeepCutAuto
namespace Go.Proofs.YtpmndefmibnaeaaDoor.By
open Go.RowKit
set_option linter.unusedVariables false
set_option linter.unusedSimpArgs false

set_option maxRecDepth 8000 in
set_option maxHeartbeats 2000000 in
theorem partT (W0 : World) (cells : V) (x : RVal) (ca : Option Addr) (cl cc p5 p3 : Nat) (w : World) (hW : Below W0.heap.size W0 w) (hclo : Clo W0 w cells x ca cl cc p5 p3) (hC : SlVal W0 ca cl cells) (hcc : cl ≤ cc) (i : Nat) (hi : i < (prt cells x).len) (hok : okN (prt cells x)) :
    Calls Tryd.prog 32 #[.int .i64 i, .pointer (some ⟨p5, 0, none⟩), .pointer (some ⟨p3, 0, none⟩)] w fun e u => ∃ f1 m1 g1 q5 q3, e = .returned (LkV ((prt cells x).nth i) f1 m1 g1 (prt cells ((prt cells x).nth i)).len q5 q3) ∧ w.grownBy u none ∧ Clo W0 u cells ((prt cells x).nth i) ca cl cc q5 q3 ∧ RdB W0 f1 m1 ((prt cells x).nth i).text ∧ m1 ≤ g1 := by
  obtain ⟨⟨pa, pc, k5, hs⟩, k3⟩ := hclo
  generalize prt cells x = P at *
  rcases hs.cases with ⟨e0, -⟩ | ⟨b, o, rfl, hin, -⟩
  · omega
  have hl := hs.2.1
  obtain ⟨f1, m1, g1, f2, m2, g2, ⟨y0, y1, y2, y3⟩, hle, hr⟩ := InVal.nth P i hin hi
  have kk := cle_belowV hW
  replace y0 := kk _ _ y0
  replace y1 := kk _ _ y1
  replace y2 := kk _ _ y2
  replace y3 := kk _ _ y3
  have hyn := (V.nth_ok P i hok).1
  obtain ⟨q5, -⟩ := one_cell k5
  obtain ⟨q3, -⟩ := one_cell k3
  have HT : Hid (∀ u, w.grownBy u none → (u.cell? ⟨p5, 0, none⟩ = some (.slice (some ⟨b, o, none⟩) P.len pc) ∧ u.cell? ⟨p3, 0, none⟩ = some (.slice ca cl cc) ∧ u.cell? ⟨b, o + i * 4, none⟩ = some (.int .i64 (P.nth i).k) ∧ u.cell? ⟨b, o + i * 4 + 1, none⟩ = some (.int .i64 (P.nth i).n) ∧ u.cell? ⟨b, o + i * 4 + 2, none⟩ = some (.slice f1 m1 g1) ∧ u.cell? ⟨b, o + i * 4 + 3, none⟩ = some (.slice f2 m2 g2))) := fun u hu => ⟨hu.cell q5 (by simp), hu.cell q3 (by simp), hu.cell y0 (by simp), hu.cell y1 (by simp), hu.cell y2 (by simp), hu.cell y3 (by simp)⟩
  have LC : Hid (∀ u, _) := fun u => lookT W0 cells (P.nth i) f1 m1 g1 f2 m2 g2 ca cl cc u hC hcc hr.2 hyn
  have HR : Hid (RdB W0 f1 m1 (P.nth i).text ∧ m1 ≤ g1) := ⟨hr.1, hle⟩
  have g0 := World.grownBy_alloc w (.cells #[.int .i64 0, .int .i64 0, .slice none 0 0, .int .i64 0, .nilFunc] 48) none
  have b0 := heap_alloc_new w (.cells #[.int .i64 0, .int .i64 0, .slice none 0 0, .int .i64 0, .nilFunc] 48)
  have AL : Hid (w.grownBy (w.alloc (.cells #[.int .i64 0, .int .i64 0, .slice none 0 0, .int .i64 0, .nilFunc] 48)).drew none ∧ (w.alloc (.cells #[.int .i64 0, .int .i64 0, .slice none 0 0, .int .i64 0, .nilFunc] 48)).drew.heap[w.heap.size]? = some (Obj.cells #[.int .i64 0, .int .i64 0, .slice none 0 0, .int .i64 0, .nilFunc] 48 (0, 0))) := ⟨grown_drew g0, b0⟩
  have hiL : (i : Int) < (P.len : Int) := by omega
  clear hin hr hs hC y0 y1 y2 y3 q5 q3 k5 k3 kk g0 b0 hW hok
  generalize P.nth i = y at *
  go_enter Tryd.func32, Tryd.ntmps32
  go_upto_region 1 with fail
  refine wp_region_held_drew (S := (fun u => u.cell? ⟨p5, 0, none⟩ = some (.slice (some ⟨b, o, none⟩) P.len pc) ∧ u.cell? ⟨p3, 0, none⟩ = some (.slice ca cl cc) ∧ u.cell? ⟨b, o + i * 4, none⟩ = some (.int .i64 y.k) ∧ u.cell? ⟨b, o + i * 4 + 1, none⟩ = some (.int .i64 y.n) ∧ u.cell? ⟨b, o + i * 4 + 2, none⟩ = some (.slice f1 m1 g1) ∧ u.cell? ⟨b, o + i * 4 + 3, none⟩ = some (.slice f2 m2 g2))) (by kernel_rfl) (HT.out _ AL.out.1) (fun hH => ?_)
  generalize (w.alloc (.cells #[.int .i64 0, .int .i64 0, .slice none 0 0, .int .i64 0, .nilFunc] 48)).drew = u at *
  generalize ep : w.heap.size = p4 at *
  simp only [List.size_toArray, List.length_cons, List.length_nil, Nat.reduceAdd, Array.replicate, List.replicate]
  refine wpAnyH_take (i := 0) (v := ?_) rfl (by kernel_rfl) (by kernel_rfl) (by kernel_rfl) (fun _ _ _ h => h) (Or.inl ⟨by rfl, ?_⟩) hH ?_
  rotate_left
  · (intro v hS; obtain ⟨s0, s1, s2, s3, s4, s5⟩ := hS; go_simp; try with_reducible rfl)
  simp only [Act.put, List.setIfInBounds_toArray, List.set_cons_zero, List.set_cons_succ, List.getElem_toArray, List.getElem_cons_succ, List.getElem_cons_zero]
  refine wpAnyH_take (i := 1) (v := ?_) rfl (by kernel_rfl) (by kernel_rfl) (by kernel_rfl) (fun _ _ _ h => h) (Or.inl ⟨by rfl, ?_⟩) hH ?_
  rotate_left
  · (intro v hS; obtain ⟨s0, s1, s2, s3, s4, s5⟩ := hS; go_simp; try with_reducible rfl)
  simp only [Act.put, List.setIfInBounds_toArray, List.set_cons_zero, List.set_cons_succ, List.getElem_toArray, List.getElem_cons_succ, List.getElem_cons_zero]
  refine wpAnyH_take (i := 2) (v := ?_) rfl (by kernel_rfl) (by kernel_rfl) (by kernel_rfl) (fun _ _ _ h => h) (Or.inl ⟨by rfl, ?_⟩) hH ?_
  rotate_left
  · (intro v hS; obtain ⟨s0, s1, s2, s3, s4, s5⟩ := hS; go_simp; try with_reducible rfl)
  simp only [Act.put, List.setIfInBounds_toArray, List.set_cons_zero, List.set_cons_succ, List.getElem_toArray, List.getElem_cons_succ, List.getElem_cons_zero]
  refine wpAnyH_take (i := 3) (v := ?_) rfl (by kernel_rfl) (by kernel_rfl) (by kernel_rfl) (fun _ _ _ h => h) (Or.inl ⟨by rfl, ?_⟩) hH ?_
  rotate_left
  · (intro v hS; obtain ⟨s0, s1, s2, s3, s4, s5⟩ := hS; go_simp; try with_reducible rfl)
  simp only [Act.put, List.setIfInBounds_toArray, List.set_cons_zero, List.set_cons_succ, List.getElem_toArray, List.getElem_cons_succ, List.getElem_cons_zero]
  refine wpAnyH_take (i := 4) (v := ?_) rfl (by kernel_rfl) (by kernel_rfl) (by kernel_rfl) (fun _ _ _ h => h) (Or.inl ⟨by rfl, ?_⟩) hH ?_
  rotate_left
  · (intro v hS; obtain ⟨s0, s1, s2, s3, s4, s5⟩ := hS; go_simp; try with_reducible rfl)
  simp only [Act.put, List.setIfInBounds_toArray, List.set_cons_zero, List.set_cons_succ, List.getElem_toArray, List.getElem_cons_succ, List.getElem_cons_zero]
  refine wpAnyH_ready (rs := [5]) (by kernel_rfl) (by simp) ?_
  refine AllReadyH.cons rfl (fun K hK => ?_) AllReadyH.nil
  go_simp
  refine Calls.mono (LC.out u) ?_
  rintro e z ⟨q5, q3, he, hg, hclo⟩
  unfold LkV at he
  subst he
  have AN : Hid (w.grownBy z none ∧ z.heap[p4]? = some (Obj.cells #[.int .i64 0, .int .i64 0, .slice none 0 0, .int .i64 0, .nilFunc] 48 (0, 0)) ∧ Clo W0 z cells y ca cl cc q5 q3) := ⟨grown_trans AL.out.1 hg, (hg.block _ (lt_of_block AL.out.2) (by simp)).trans AL.out.2, hclo⟩
  clear AL hg hclo LC
  refine hK.out _ _ (HT.out _ AN.out.1) (fun hH2 => ?_)
  clear hK K hH
  have hH := hH2
  clear hH2
  simp only [Act.put, List.setIfInBounds_toArray, List.set_cons_zero, List.set_cons_succ, List.getElem_toArray, List.getElem_cons_succ, List.getElem_cons_zero]
  obtain ⟨⟨z0, z1, z2, z3, z4⟩, hfz⟩ := blkLook AN.out.2.1
  have fz0 := hfz 0
  have fz1 := hfz 1
  have fz2 := hfz 2
  have fz3 := hfz 3
  have fz4 := hfz 4
  obtain ⟨mf, kf⟩ := fillLook (.int .i64 y.k) (.int .i64 y.n) (.slice f1 m1 g1) (.int .i64 ((prt cells y).len : Nat)) (.func (Fn.func 32) #[] #[.pointer (some ⟨q5, 0, none⟩), .pointer (some ⟨q3, 0, none⟩)]) AN.out.2.1
  have GF := grown_into AN.out.1 kf (by omega)
  have FQ : Hid _ := And.intro mf (And.intro GF (AN.out.2.2.of (u' := _) (fun j v hj => (kf.block j (lt_of_block hj) (by
    intro e
    obtain rfl : j = p4 := by simpa using e
    have := AN.out.2.1
    rw [hj] at this
    injection this with this
    injection this with _ h2
    exact absurd h2 (by decide))).trans hj)))
  have hHf := HT.out _ GF
  clear mf kf hfz AN GF
  refine wpAnyH_ready (rs := [6]) (by kernel_rfl) (by simp) ?_
  refine AllReadyH.cons rfl (fun K hK => ?_) AllReadyH.nil
  go_simp
  refine hK.out _ _ hHf (fun hH2 => ?_)
  clear hK K hH hH2 hHf
  simp only [Act.put, List.setIfInBounds_toArray, List.set_cons_zero, List.set_cons_succ, List.getElem_toArray, List.getElem_cons_succ, List.getElem_cons_zero]
  refine wpAnyH_done (by kernel_rfl) ?_ _
  clear z0 z1 z2 z3 z4 fz0 fz1 fz2 fz3 fz4
  go_wp2
  (try simp only [Exit.inBlock, Exit.then])
  refine bodyPost_ret (results_cell_row (P := Tryd.prog) Tryd.results32 _ _ p4 _ _ _ _ rfl FQ.out.1 Tryd.underlying48 rfl (by kernel_rfl)) rfl ?_
  exact ⟨f1, m1, g1, q5, q3, rfl, FQ.out.2.1, FQ.out.2.2, HR.out.1, HR.out.2⟩
end Go.Proofs.YtpmndefmibnaeaaDoor.By
