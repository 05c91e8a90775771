/-
  slices.Insert of one entry, where there is no room: a new row. No statement is proved here.
-/
import Derived.Test.YtccnninmkfhejaaYIn
import Derived.Laws.NewBlocks
namespace Go.Proofs.Ytccnninmkfhejaa.By
open Go.RowKit Go.Lib
set_option linter.unusedVariables false
set_option linter.unusedSimpArgs false

set_option maxRecDepth 100000 in
set_option maxHeartbeats 8000000 in
theorem insertGrowT (V : List Value) (A C : Int) (B vb g : Nat) (k n c : Nat) (u : World) (ho : u.ownsRow B 66 2 (.slice (some ⟨g, 0, none⟩) n c) n V) (h1 : ∀ v ∈ V, v.oneCell' = true) (hv : u.heap[vb]? = some (.cells #[.int .i64 A, .int .i64 C] 66 (0, 0))) (hk : k < n) (hc : c < n + 1) (hn : n ≤ 20) (hB : B ≤ u.heap.size) :
    Calls Try.prog 80 #[.slice (some ⟨g, 0, none⟩) n c, .int .i64 k, .slice (some ⟨vb, 0, none⟩) 1 1] u fun e z => ∃ d' c', e = .returned (.slice d' (n + 1) c') ∧ z.ownsRow B 66 2 (.slice d' (n + 1) c') (n + 1) (insC V k A C) ∧ u.grownBy z none := by
  obtain ⟨i0, hi, hz0, hz1, hz2⟩ := info_parts infoYe
  obtain ⟨hVl, ho2⟩ := ho
  rcases ho2 with ⟨e, -⟩ | ⟨g', cap, cur, e, hb, hg, hnc, hcm, hsz, ht⟩
  · cases e
  cases e
  have hVg : ∀ j, j < n * 2 → cur[j]? = V[j]? := fun j hj => by
    rw [← ht, List.getElem?_take, if_pos hj, Array.getElem?_toList]
  have hgl := lt_of_block hg
  have hvl := lt_of_block hv
  have hc63 : c ≤ 9223372036854775807 := by unfold maxLen at hcm; omega
  have hdl : (V.drop (k * 2)).length = (n - k) * 2 := by rw [List.length_drop, hVl]; omega
  have htl : (V.take (k * 2)).length = k * 2 := by rw [List.length_take]; omega
  have hik : k + (n + 1 - k) = n + 1 := by omega
  have hkk : (n : Int) + 1 - (k : Int) = ((n + 1 - k : Nat) : Int) := by omega
  have hold : (Builtin.firstCells i0.size k (.slice (some ⟨g, 0, none⟩) k c)).run Try.prog u.drew = .ok (V.take (k * 2)).toArray u.drew := by
    rw [hz1]
    exact run_firstCells_some (w := u.drew) 2 k ⟨g, 0, none⟩ k c (V.take (k * 2)) htl (fun j v hj => by
      rw [Go.WideShapes.add_plain, Nat.zero_add, show u.drew.cell? ⟨g, j, none⟩ = cur[j]? from cell_of_row u g _ cur 66 (0, 0) hg]
      have hjl := (List.getElem?_eq_some_iff.1 hj).1
      rw [hVg _ (by omega)]
      rw [List.getElem?_take, if_pos (by omega)] at hj
      exact hj)
  obtain ⟨G, hG⟩ : ∃ G, G = grownCap u (n + 1) c 66 := ⟨_, rfl⟩
  have hGn : n + 1 ≤ G := by rw [hG]; exact grownCap_ge u _ _ _
  have hGm : G ≤ maxLen := by rw [hG]; exact grownCap_le_maxLen u (n + 1) c 66 (by unfold maxLen; omega)
  have hG63 : G ≤ 9223372036854775807 := by unfold maxLen at hGm; omega
  obtain ⟨ROW, hROW⟩ : ∃ ROW : Array Value, ROW = (V.take (k * 2)).toArray ++ Builtin.zeroCells (Value.agg #[.int .i64 0, .int .i64 0]).cells (n + 1 - k) ++ Builtin.zeroCells (Value.agg #[.int .i64 0, .int .i64 0]).cells (G - (n + 1)) := ⟨_, rfl⟩
  have hrz : ∀ ty, (Builtin.append_ #[24, 3] ty #[.slice (some ⟨g, 0, none⟩) k c, .int .i64 ((n : Int) + 1 - (k : Int))]).run Try.prog u = .ok (.slice (some ⟨u.heap.size, 0, none⟩) (n + 1) G) (u.drew.alloc (.cells ROW 66)) := fun ty => by
    have h := Lib.run_append_grow_zeros u 24 3 ty 66 i0 _ .i64 .i64 Try.underlying24 Try.underlying3 hi hz0 (some ⟨g, 0, none⟩) k c (V.take (k * 2)) hold (n + 1 - k) (by omega) (by omega) (by omega) (by omega) (by rw [hz2]; omega) (by rw [hz2, hik]; exact growslice_fits hc (by omega))
    rw [hik, ← hG, ← hROW] at h
    rw [hkk]
    exact h
  have hRs : ROW.size = G * 2 := by
    rw [hROW]
    simp [Builtin.zeroCells, Value.cells, htl]
    omega
  have hRt : ∀ j, j < k * 2 → ROW[j]? = V[j]? := fun j hj => by
    rw [hROW, Array.append_assoc, Array.getElem?_append_left (by simp [htl]; omega)]
    rw [List.getElem?_toArray, List.getElem?_take, if_pos hj]
  obtain ⟨W1, hW1⟩ : ∃ W1, W1 = u.drew.alloc (.cells ROW 66) := ⟨_, rfl⟩
  rw [← hW1] at hrz
  have g0 : u.grownBy W1 none := by rw [hW1]; exact grown_alloc (grown_drew (World.grownBy.refl u none)) _
  have r0 : W1.heap[u.heap.size]? = some (.cells ROW 66 (0, 0)) := by rw [hW1]; exact heap_alloc_new u.drew _
  have hv1 : W1.heap[vb]? = some (.cells #[.int .i64 A, .int .i64 C] 66 (0, 0)) := (g0.block _ hvl (by simp)).trans hv
  have hg1 : W1.heap[g]? = some (.cells cur 66 (0, 0)) := (g0.block _ hgl (by simp)).trans hg
  obtain ⟨cur1, e1, s1, m1, o1⟩ := setCells_row u.heap.size ([.int .i64 A, .int .i64 C] : List Value) (k * 2) W1 ROW 66 r0 (by simp; omega)
  obtain ⟨W2, hW2⟩ : ∃ W2, W2 = W1.setCells u.heap.size (k * 2) [.int .i64 A, .int .i64 C] := ⟨_, rfl⟩
  rw [← hW2] at e1
  have g1 : W1.grownBy W2 (some u.heap.size) := by rw [hW2]; exact setCells_grown _ _ _ _
  have hg2 : W2.heap[g]? = some (.cells cur 66 (0, 0)) := (g1.block _ (by have := g0.size; omega) (by simp; omega)).trans hg1
  obtain ⟨cur2, e2, s2, m2, o2⟩ := setCells_row u.heap.size (V.drop (k * 2)) ((k + 1) * 2) W2.drew cur1 66 e1 (by omega)
  have hcpA : ∀ (W : World), W.heap = W1.heap → ∀ ty dc, (Builtin.copy_ #[24, 24] ty #[.slice (some ⟨u.heap.size, k * 2, none⟩) (n + 1 - k) dc, .slice (some ⟨vb, 0, none⟩) 1 1]).run Try.prog W = .ok (goInt (1 : Nat)) (W.setCells u.heap.size (k * 2) [.int .i64 A, .int .i64 C]) := fun W hW ty dc =>
    run_copy_much W _ _ ty 66 i0 2 u.heap.size (k * 2) _ dc ⟨vb, 0, none⟩ 1 1 1 _ Try.underlying24 hi hz1 (by simp only [Nat.min_def]; split <;> omega) rfl
      (fun j v hj => two_get hj (by rw [hW]; exact hv1))
      (fun j hj => by rw [cell_of_row W u.heap.size _ ROW 66 (0, 0) (by rw [hW]; exact r0), Array.getElem?_eq_getElem (by simp at hj; omega)]; rfl)
      (fun j _ => frozen_of_row W u.heap.size _ ROW _ (by rw [hW]; exact r0)) two_one
  have hcpB : ∀ (W : World), W.heap = W2.heap → ∀ ty dc sc, (Builtin.copy_ #[24, 24] ty #[.slice (some ⟨u.heap.size, (k + 1) * 2, none⟩) (n - k) dc, .slice (some ⟨g, k * 2, none⟩) (n - k) sc]).run Try.prog W = .ok (goInt (n - k : Nat)) (W.setCells u.heap.size ((k + 1) * 2) (V.drop (k * 2))) := fun W hW ty dc sc =>
    run_copy_much W _ _ ty 66 i0 2 u.heap.size ((k + 1) * 2) _ dc ⟨g, k * 2, none⟩ _ sc (n - k) _ Try.underlying24 hi hz1 (by simp only [Nat.min_def]; split <;> omega) hdl
      (fun j v hj => by
        rw [Go.WideShapes.add_plain, cell_of_row W g _ cur 66 (0, 0) (by rw [hW]; exact hg2)]
        have hjl := (List.getElem?_eq_some_iff.1 hj).1
        rw [hVg _ (by omega), ← List.getElem?_drop]; exact hj)
      (fun j hj => by rw [cell_of_row W u.heap.size _ cur1 66 (0, 0) (by rw [hW]; exact e1), Array.getElem?_eq_getElem (by omega)]; rfl)
      (fun j _ => frozen_of_row W u.heap.size _ cur1 _ (by rw [hW]; exact e1)) (fun v hvv => h1 v (List.mem_of_mem_drop hvv))
  have FIN : Hid ((W2.drew.setCells u.heap.size ((k + 1) * 2) (V.drop (k * 2))).ownsRow B 66 2 (.slice (some ⟨u.heap.size, 0, none⟩) (n + 1) G) (n + 1) (insC V k A C) ∧ u.grownBy (W2.drew.setCells u.heap.size ((k + 1) * 2) (V.drop (k * 2))) none) := by
    refine ⟨row_of hB e2 hGn hGm (by omega) (insC_len hVl (by omega) A C) (fun j hj => ?_), grown_into (grown_drew (grown_into g0 g1 (Nat.le_refl _))) (setCells_grown _ _ _ _) (Nat.le_refl _)⟩
    rw [insC_get hVl (by omega)]
    by_cases q1 : j < k * 2
    · rw [if_pos q1, o2 j (.inl (by omega)), o1 j (.inl q1), hRt j q1]
    · rw [if_neg q1]
      by_cases q2 : j < k * 2 + 2
      · have := m1 (j - k * 2) (by simp; omega)
        rw [if_pos q2, o2 j (.inl (by omega)), ← this, show k * 2 + (j - k * 2) = j by omega]
      · rw [if_neg q2]
        have := m2 (j - (k * 2 + 2)) (by omega)
        rw [← this, show (k + 1) * 2 + (j - (k * 2 + 2)) = j by omega]
  clear hVg ht m1 o1 m2 o2 e1 e2 g0 g1 hv1 hg1 hg2 s1 s2 hdl htl hVl hz0 hz1 hz2 hi h1 hsz hcm hg hv r0 hRs hRt hold hik hkk hROW hG hGm
  have hw1 : IntKind.i64.wrap ((k : Int) + 1) = (k : Int) + 1 := IntWalk.i64_in _ ⟨by omega, by omega⟩
  have hw2 : IntKind.i64.wrap ((n : Int) + 1) = (n : Int) + 1 := IntWalk.i64_in _ ⟨by omega, by omega⟩
  have hw3 : IntKind.i64.wrap ((n : Int) + 1 - (k : Int)) = (n : Int) + 1 - (k : Int) := IntWalk.i64_in _ ⟨by omega, by omega⟩
  have hb1 : (0 : Int) ≤ (k : Int) + 1 := by omega
  have htn : ((k : Int) + 1).toNat = k + 1 := by omega
  have hb2 : ¬ (G = k + 1) := by omega
  have hb3 : ¬ (c = k) := by omega
  have hb6 : ¬ (G = k) := by omega
  have hz2' : ¬ ((k : Int) = (n : Int)) := by omega
  have hkn : (k : Int) ≤ (n : Int) := by omega
  have hnc' : (c : Int) < (n : Int) + 1 := by omega
  have hb4 : (k : Int) ≤ (n : Int) + 1 := by omega
  have hb5 : (k : Int) + 1 ≤ (n : Int) + 1 := by omega
  go_enter Try.func80, Try.ntmps80
  go_wp2_with (at_builtin; go_must (refine Lib.wpList_append_run _ rfl (.tmp 34) (.tmp 39) 24 3 rfl _ _ rfl rfl _ _ (hrz _) ?_))
  refine wp_region_held_drew (S := (fun _ => True)) (by kernel_rfl) trivial (fun hH => ?_)
  simp only [List.size_toArray, List.length_cons, List.length_nil, Nat.reduceAdd, Array.replicate, List.replicate]
  refine wpAnyH_take (i := 0) (v := ?_) rfl (by kernel_rfl) (by kernel_rfl) (by kernel_rfl) (fun _ _ _ h => h) (Or.inl ⟨by rfl, ?_⟩) hH ?_
  rotate_left
  · (intro v hS; go_simp; try with_reducible rfl)
  simp only [Act.put, List.setIfInBounds_toArray, List.set_cons_zero, List.set_cons_succ, List.getElem_toArray, List.getElem_cons_succ, List.getElem_cons_zero]
  refine wpAnyH_take (i := 1) (v := ?_) rfl (by kernel_rfl) (by kernel_rfl) (by kernel_rfl) (fun _ _ _ h => h) (Or.inl ⟨by rfl, ?_⟩) hH ?_
  rotate_left
  · (intro v hS; go_simp; try with_reducible rfl)
  simp only [Act.put, List.setIfInBounds_toArray, List.set_cons_zero, List.set_cons_succ, List.getElem_toArray, List.getElem_cons_succ, List.getElem_cons_zero]
  refine wpAnyH_take (i := 2) (v := ?_) rfl (by kernel_rfl) (by kernel_rfl) (by kernel_rfl) (fun _ _ _ h => h) (Or.inl ⟨by rfl, ?_⟩) hH ?_
  rotate_left
  · (intro v hS; go_simp; try with_reducible rfl)
  simp only [Act.put, List.setIfInBounds_toArray, List.set_cons_zero, List.set_cons_succ, List.getElem_toArray, List.getElem_cons_succ, List.getElem_cons_zero]
  refine wpAnyH_take (i := 3) (v := ?_) rfl (by kernel_rfl) (by kernel_rfl) (by kernel_rfl) (fun _ _ _ h => h) (Or.inl ⟨by rfl, ?_⟩) hH ?_
  rotate_left
  · (intro v hS; go_simp; try with_reducible rfl)
  simp only [Act.put, List.setIfInBounds_toArray, List.set_cons_zero, List.set_cons_succ, List.getElem_toArray, List.getElem_cons_succ, List.getElem_cons_zero]
  refine wpAnyH_take (i := 4) (v := ?_) rfl (by kernel_rfl) (by kernel_rfl) (by kernel_rfl) (fun _ _ _ h => h) (Or.inl ⟨by rfl, ?_⟩) hH ?_
  rotate_left
  · (intro v hS; go_simp; try with_reducible rfl)
  simp only [Act.put, List.setIfInBounds_toArray, List.set_cons_zero, List.set_cons_succ, List.getElem_toArray, List.getElem_cons_succ, List.getElem_cons_zero]
  refine wpAnyH_take (i := 5) (v := ?_) rfl (by kernel_rfl) (by kernel_rfl) (by kernel_rfl) (fun _ _ _ h => h) (Or.inl ⟨by rfl, ?_⟩) hH ?_
  rotate_left
  · (intro v hS; go_simp; try with_reducible rfl)
  simp only [Act.put, List.setIfInBounds_toArray, List.set_cons_zero, List.set_cons_succ, List.getElem_toArray, List.getElem_cons_succ, List.getElem_cons_zero]
  refine wpAnyH_take (i := 6) (v := ?_) rfl (by kernel_rfl) (by kernel_rfl) (by kernel_rfl) (fun _ _ _ h => h) (Or.inl ⟨by rfl, ?_⟩) hH ?_
  rotate_left
  · (intro v hS; go_simp; try with_reducible rfl)
  simp only [Act.put, List.setIfInBounds_toArray, List.set_cons_zero, List.set_cons_succ, List.getElem_toArray, List.getElem_cons_succ, List.getElem_cons_zero]
  refine wpAnyH_take (i := 7) (v := ?_) rfl (by kernel_rfl) (by kernel_rfl) (by kernel_rfl) (fun _ _ _ h => h) (Or.inl ⟨by rfl, ?_⟩) hH ?_
  rotate_left
  · (intro v hS; go_simp; try with_reducible rfl)
  simp only [Act.put, List.setIfInBounds_toArray, List.set_cons_zero, List.set_cons_succ, List.getElem_toArray, List.getElem_cons_succ, List.getElem_cons_zero]
  refine wpAnyH_ready (rs := [8]) (by kernel_rfl) (by simp) ?_
  refine AllReadyH.cons rfl (fun K hK => ?_) AllReadyH.nil
  refine step_ofY rfl (wp_copy_much _ (.tmp 50) (.tmp 53) 24 24 rfl _ _ rfl rfl (hcpB _ (by rw [hW2, hW1]; rfl) 3 (G - (k + 1)) (c - k)) ?_)
  refine hK.out _ _ trivial (fun hH2 => ?_)
  clear hK K hH
  simp only [Act.put, List.setIfInBounds_toArray, List.set_cons_zero, List.set_cons_succ, List.getElem_toArray, List.getElem_cons_succ, List.getElem_cons_zero]
  refine wpAnyH_done (by kernel_rfl) ?_ _
  go_wp2
  go_ret
  refine ⟨_, _, rfl, ?_⟩
  subst hW2
  subst hW1
  exact FIN.out
end Go.Proofs.Ytccnninmkfhejaa.By
