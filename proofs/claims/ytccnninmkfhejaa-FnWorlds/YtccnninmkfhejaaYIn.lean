/-
  slices.Insert of one entry, by its contract: the library's own text is walked. No statement is proved here.
-/
import Derived.Test.YtccnninmkfhejaaYCpAlso
import Derived.Test.YtccnninmkfhejaaYTi
import Derived.Deep.DeepCutAuto
namespace Go.Proofs.Ytccnninmkfhejaa.By
open Go.RowKit Go.Lib
set_option linter.unusedVariables false
set_option linter.unusedSimpArgs false

set_option maxRecDepth 100000 in
set_option maxHeartbeats 4000000 in
theorem insertEndT (V : List Value) (A C : Int) (B vb : Nat) (d : Option Addr) (n c : Nat) (u : World) (ho : u.ownsRow B 66 2 (.slice d n c) n V) (hv : u.heap[vb]? = some (.cells #[.int .i64 A, .int .i64 C] 66 (0, 0))) (hn : n ≤ 20) (hB : B ≤ u.heap.size) :
    Calls Try.prog 80 #[.slice d n c, .int .i64 n, .slice (some ⟨vb, 0, none⟩) 1 1] u fun e z => ∃ d' c', e = .returned (.slice d' (n + 1) c') ∧ z.ownsRow B 66 2 (.slice d' (n + 1) c') (n + 1) (V ++ [.int .i64 A, .int .i64 C]) ∧ u.grownBy z (Value.slice d n c).ownBlock := by
  obtain ⟨i0, hi, hz0, hz1, hz2⟩ := info_parts infoYe
  have HO : Hid _ := ho
  have HC : Hid (∀ j w, ([.int .i64 A, .int .i64 C] : List Value)[j]? = some w → u.cell? ((⟨vb, 0, none⟩ : Addr).add j) = some w) := fun j w hj => by
    rw [Go.WideShapes.add_plain, Nat.zero_add, cell_of_row u vb j _ 66 (0, 0) hv]
    match j, hj with
    | 0, hj => exact hj
    | 1, hj => exact hj
    | j + 2, hj => simp at hj
  have H1 : Hid (∀ w ∈ ([.int .i64 A, .int .i64 C] : List Value), w.oneCell' = true) := fun w hw => by
    simp only [List.mem_cons, List.not_mem_nil, or_false] at hw
    rcases hw with rfl | rfl <;> rfl
  have hcm : c ≤ 9223372036854775807 ∧ n ≤ c ∧ (d = none → n = 0 ∧ c = 0) := by
    rcases ho.2 with ⟨e, h0⟩ | ⟨g, cap, cur, e, hb, hg, hnc, hm, hs, ht⟩
    · cases e; exact ⟨by omega, by omega, fun _ => ⟨rfl, rfl⟩⟩
    · cases e; exact ⟨by unfold maxLen at hm; omega, hnc, fun h => by cases h⟩
  obtain ⟨hc1, hc2, hc3⟩ := hcm
  clear hv ho
  have fin : ∀ v' (z : World), z.ownsRow B 66 2 v' (n + 1) (V ++ [.int .i64 A, .int .i64 C]) → u.grownBy z (Value.slice d n c).ownBlock → ∃ d' c', Ending.returned v' = .returned (.slice d' (n + 1) c') ∧ z.ownsRow B 66 2 (.slice d' (n + 1) c') (n + 1) (V ++ [.int .i64 A, .int .i64 C]) ∧ u.grownBy z (Value.slice d n c).ownBlock := fun v' z h1 h2 => by
    obtain ⟨d', c', rfl⟩ := row_slice h1
    exact ⟨d', c', rfl, h1, h2⟩
  have FIN : Hid _ := fin
  clear fin
  cases d with
  | none =>
    obtain ⟨rfl, rfl⟩ := hc3 rfl
    go_enter Try.func80, Try.ntmps80
    go_wp2_with (at_builtin; go_must (refine wpList_append_own _ rfl (.tmp 23) (.tmp 24) 24 rfl B 66 i0 _ 2 16 Try.underlying24 hi hz0 hz1 hz2 rfl (by decide) (.slice none 0 0) 0 V rfl HO.out ⟨vb, 0, none⟩ 1 1 _ rfl rfl HC.out H1.out (by simp [maxLen]) (by omega) hB ?_))
    intro v w' h1 h2 _
    have FO : Hid _ := FIN.out v w' h1 h2
    clear h1 h2 FIN HO HC H1
    go_wp2
    go_ret
    exact FO.out
  | some ad =>
    obtain ⟨g, rfl⟩ : ∃ g, ad = ⟨g, 0, none⟩ := by
      rcases HO.out.2 with ⟨e, h0⟩ | ⟨g, cap, cur, e, _⟩
      · cases e
      · cases e; exact ⟨g, rfl⟩
    go_enter Try.func80, Try.ntmps80
    go_wp2_with (at_builtin; go_must (refine wpList_append_own _ rfl (.tmp 23) (.tmp 24) 24 rfl B 66 i0 _ 2 16 Try.underlying24 hi hz0 hz1 hz2 rfl (by decide) (.slice (some ⟨g, 0, none⟩) n c) n V rfl HO.out ⟨vb, 0, none⟩ 1 1 _ rfl rfl HC.out H1.out (by simp [maxLen]; omega) (by omega) hB ?_))
    all_goals
      intro v w' h1 h2 _
      have FO : Hid _ := FIN.out v w' h1 h2
      clear h1 h2 FIN HO HC H1
      go_wp2
      go_ret
      exact FO.out

theorem step_ofY {P : Program} {ops : Array Oper} {o : Oper} {ac : Act} {w : World} {K : Act → World → Prop} {Q : Exit → Act → World → Prop} {E : Prop} (hg : o.guard = none) (h : Oper.wp P o ac w K Q) : if Region.wanted o (yielded ops ac.tmps) = true then Oper.wp P o ac w K Q else E := by
  have hw : Region.wanted o (yielded ops ac.tmps) = true := by simp [Region.wanted, hg]
  rw [if_pos hw]
  exact h
theorem wp_copy_much {P : Program} (w : World) {o : Oper} {a : Act} {K : Act → World → Prop} {Q : Exit → Act → World → Prop} (d s : Operand) (t t' : TypeId)
    (ho : o.op = .call { callee := .builtin .copy, args := #[d, s], argTypes := #[t, t'] }) (v u : Value) (hd : a.eval d = v) (hs : a.eval s = u) {v' : Value} {w' : World}
    (hr : (Builtin.copy_ #[t, t'] o.type #[v, u]).run P w = .ok v' w') (h : K (a.put o.dst v') w') : o.wp P a w K Q := by
  unfold Oper.wp execOp
  simp only [ho, resolve, invoke, builtin, Sem.run_bind, Sem.run_pure, Result.andThen_ok, List.map_toArray, List.map_cons, List.map_nil, hd, hs, hr]
  exact h
theorem two_get {A C : Int} {j : Nat} {w : Value} (hj : ([.int .i64 A, .int .i64 C] : List Value)[j]? = some w) {u : World} {vb : Nat} (hv : u.heap[vb]? = some (.cells #[.int .i64 A, .int .i64 C] 66 (0, 0))) : u.cell? ((⟨vb, 0, none⟩ : Addr).add j) = some w := by
  rw [Go.WideShapes.add_plain, Nat.zero_add, cell_of_row u vb j _ 66 (0, 0) hv]
  match j, hj with
  | 0, hj => exact hj
  | 1, hj => exact hj
  | j + 2, hj => simp at hj
theorem two_one {A C : Int} : ∀ w ∈ ([.int .i64 A, .int .i64 C] : List Value), w.oneCell' = true := fun w hw => by
  simp only [List.mem_cons, List.not_mem_nil, or_false] at hw
  rcases hw with rfl | rfl <;> rfl

set_option maxRecDepth 100000 in
set_option maxHeartbeats 8000000 in
theorem insertRoomT (V : List Value) (A C : Int) (B vb g : Nat) (k n c : Nat) (u : World) (ho : u.ownsRow B 66 2 (.slice (some ⟨g, 0, none⟩) n c) n V) (h1 : ∀ v ∈ V, v.oneCell' = true) (hv : u.heap[vb]? = some (.cells #[.int .i64 A, .int .i64 C] 66 (0, 0))) (hvg : vb ≠ g) (hk : k < n) (hc : n + 1 ≤ c) (hn : n ≤ 20) :
    Calls Try.prog 80 #[.slice (some ⟨g, 0, none⟩) n c, .int .i64 k, .slice (some ⟨vb, 0, none⟩) 1 1] u fun e z => e = .returned (.slice (some ⟨g, 0, none⟩) (n + 1) c) ∧ z.ownsRow B 66 2 (.slice (some ⟨g, 0, none⟩) (n + 1) c) (n + 1) (insC V k A C) ∧ u.grownBy z (some g) := by
  obtain ⟨i0, hi, hz0, hz1, hz2⟩ := info_parts infoYe
  obtain ⟨hVl, ho2⟩ := ho
  rcases ho2 with ⟨e, -⟩ | ⟨g', cap, cur, e, hb, hg, hnc, hcm, hsz, ht⟩
  · cases e
  cases e
  have hVg : ∀ j, j < n * 2 → cur[j]? = V[j]? := fun j hj => by
    rw [← ht, List.getElem?_take, if_pos hj, Array.getElem?_toList]
  have hgl := lt_of_block hg
  have hc63 : c ≤ 9223372036854775807 := by unfold maxLen at hcm; omega
  -- the two copies, as stores of cells
  have hdl : (V.drop (k * 2)).length = (n - k) * 2 := by rw [List.length_drop, hVl]; omega
  obtain ⟨cur1, e1, s1, m1, o1⟩ := setCells_row g (V.drop (k * 2)) ((k + 1) * 2) u.drew cur 66 hg (by omega)
  obtain ⟨W1, hW1⟩ : ∃ W1, W1 = u.drew.setCells g ((k + 1) * 2) (V.drop (k * 2)) := ⟨_, rfl⟩
  rw [← hW1] at e1
  have g1 : u.grownBy W1 (some g) := by rw [hW1]; exact grown_trans (show u.grownBy u.drew (some g) from ⟨rfl, rfl, rfl, Nat.le_refl _, fun _ _ _ => rfl⟩) (setCells_grown g _ _ _)
  obtain ⟨cur2, e2, s2, m2, o2⟩ := setCells_row g ([.int .i64 A, .int .i64 C] : List Value) (k * 2) W1 cur1 66 e1 (by simp; omega)
  have g2 : u.grownBy (W1.setCells g (k * 2) [.int .i64 A, .int .i64 C]) (some g) := grown_trans g1 (setCells_grown g _ _ _)
  have hv1 : W1.heap[vb]? = some (.cells #[.int .i64 A, .int .i64 C] 66 (0, 0)) := (g1.block _ (lt_of_block hv) (by simp; omega)).trans hv
  have hcp1 : ∀ ty dc sc, (Builtin.copy_ #[24, 24] ty #[.slice (some ⟨g, (k + 1) * 2, none⟩) (n - k) dc, .slice (some ⟨g, k * 2, none⟩) (n + 1 - k) sc]).run Try.prog u.drew = .ok (goInt (n - k : Nat)) W1 := fun ty dc sc => by
    rw [hW1]
    exact run_copy_much u.drew _ _ ty 66 i0 2 g ((k + 1) * 2) _ dc ⟨g, k * 2, none⟩ _ sc (n - k) _ Try.underlying24 hi hz1 (by simp only [Nat.min_def]; split <;> omega) hdl
      (fun j v hj => by
        rw [Go.WideShapes.add_plain, show u.drew.cell? ⟨g, k * 2 + j, none⟩ = cur[k * 2 + j]? from cell_of_row u g _ cur 66 (0, 0) hg]
        have hjl := (List.getElem?_eq_some_iff.1 hj).1
        rw [hVg _ (by omega), ← List.getElem?_drop]; exact hj)
      (fun j hj => by rw [show u.drew.cell? ⟨g, (k + 1) * 2 + j, none⟩ = cur[(k + 1) * 2 + j]? from cell_of_row u g _ cur 66 (0, 0) hg, Array.getElem?_eq_getElem (by omega)]; rfl)
      (fun j _ => frozen_of_row u g _ cur _ hg) (fun v hvv => h1 v (List.mem_of_mem_drop hvv))
  have hcp2 : ∀ ty dc, (Builtin.copy_ #[24, 24] ty #[.slice (some ⟨g, k * 2, none⟩) (n + 1 - k) dc, .slice (some ⟨vb, 0, none⟩) 1 1]).run Try.prog W1 = .ok (goInt (1 : Nat)) (W1.setCells g (k * 2) [.int .i64 A, .int .i64 C]) := fun ty dc =>
    run_copy_much W1 _ _ ty 66 i0 2 g (k * 2) _ dc ⟨vb, 0, none⟩ 1 1 1 _ Try.underlying24 hi hz1 (by simp only [Nat.min_def]; split <;> omega) rfl
      (fun j v hj => two_get hj hv1)
      (fun j hj => by rw [cell_of_row W1 g _ cur1 66 (0, 0) e1, Array.getElem?_eq_getElem (by simp at hj; omega)]; rfl)
      (fun j _ => frozen_of_row W1 g _ cur1 _ e1) two_one
  have hov : ∀ lb cb, (callFunc 81 #[.slice (some ⟨vb, 0, none⟩) 1 1, .slice (some ⟨g, (k + 1) * 2, none⟩) lb cb]).run Try.prog u = .ok (.value (.bool false)) u := fun lb cb => by
    have hsa : u.shape? vb = some (66, 2) := by unfold World.shape?; rw [hv]; rfl
    have hsb : u.shape? g = some (66, cur.size) := by unfold World.shape?; rw [hg]
    have hzz : ∀ w, (Go.sizeOf 66).run Try.prog w = .ok 2 w := fun w => by simp [sizeOf, typeInfo, hi, hz1]
    rw [run_callFunc_extern Try.func81 (by kernel_rfl) (by kernel_rfl) (by kernel_rfl) (e := Extern.SlicesOverlaps.overlaps #[24, 24] #[4]) (by kernel_rfl),
      Lib.run_overlaps_apart u 24 4 66 Try.underlying24 2 hzz ⟨vb, 0, none⟩ ⟨g, (k + 1) * 2, none⟩ 1 1 lb cb hvg 66 66 2 cur.size hsa hsb (by omega) (frozen_of_row u vb _ _ _ hv) (frozen_of_row u vb _ _ _ hv)]
    rfl
  have FIN : Hid (W1.heap.size = W1.heap.size ∧ (W1.setCells g (k * 2) [.int .i64 A, .int .i64 C]).ownsRow B 66 2 (.slice (some ⟨g, 0, none⟩) (n + 1) c) (n + 1) (insC V k A C) ∧ u.grownBy (W1.setCells g (k * 2) [.int .i64 A, .int .i64 C]) (some g)) := by
    refine ⟨rfl, row_of hb e2 hc hcm (by omega) (insC_len hVl (by omega) A C) (fun j hj => ?_), g2⟩
    rw [insC_get hVl (by omega)]
    by_cases q1 : j < k * 2
    · rw [if_pos q1, o2 j (.inl q1), o1 j (.inl (by omega)), hVg j (by omega)]
    · rw [if_neg q1]
      by_cases q2 : j < k * 2 + 2
      · have := m2 (j - k * 2) (by simp; omega)
        rw [if_pos q2, ← this, show k * 2 + (j - k * 2) = j by omega]
      · rw [if_neg q2, o2 j (.inr (by simp; omega))]
        have := m1 (j - (k * 2 + 2)) (by omega)
        rw [← this, show (k + 1) * 2 + (j - (k * 2 + 2)) = j by omega]
  clear hVg ht m1 o1 m2 o2 e1 e2 g1 g2 hv1 s1 s2 hdl hVl hz0 hz1 hz2 hi h1 hsz hcm hg hv
  have hw1 : IntKind.i64.wrap ((k : Int) + 1) = (k : Int) + 1 := IntWalk.i64_in _ ⟨by omega, by omega⟩
  have hw2 : IntKind.i64.wrap ((n : Int) + 1) = (n : Int) + 1 := IntWalk.i64_in _ ⟨by omega, by omega⟩
  have hb1 : (0 : Int) ≤ (k : Int) + 1 := by omega
  have htn : ((k : Int) + 1).toNat = k + 1 := by omega
  have htm : ((n : Int) + 1).toNat = n + 1 := by omega
  have hb2 : ¬ (c = k + 1) := by omega
  have hb3 : ¬ (c = k) := by omega
  have hz2' : ¬ ((k : Int) = (n : Int)) := by omega
  have hkn : (k : Int) ≤ (n : Int) := by omega
  have hnc' : ¬ ((c : Int) < (n : Int) + 1) := by omega
  have hb4 : (k : Int) ≤ (n : Int) + 1 := by omega
  have hb5 : (k : Int) + 1 ≤ (n : Int) + 1 := by omega
  clear hW1
  go_enter Try.func80, Try.ntmps80
  go_wp2_with (simp only [hov])
  refine wp_region_held_drew (S := (fun _ => True)) (by kernel_rfl) trivial (fun hH => ?_)
  simp only [List.size_toArray, List.length_cons, List.length_nil, Nat.reduceAdd, Array.replicate, List.replicate]
  refine wpAnyH_take (i := 0) (v := ?_) rfl (by kernel_rfl) (by kernel_rfl) (by kernel_rfl) (fun _ _ _ h => h) (Or.inl ⟨by rfl, ?_⟩) hH ?_
  rotate_left
  · (intro v hS; go_simp; try with_reducible rfl)
  simp only [Act.put, List.setIfInBounds_toArray, List.set_cons_zero, List.set_cons_succ, List.getElem_toArray, List.getElem_cons_succ, List.getElem_cons_zero]
  refine wpAnyH_take (i := 1) (v := ?_) rfl (by kernel_rfl) (by kernel_rfl) (by kernel_rfl) (fun _ _ _ h => h) (Or.inl ⟨by rfl, ?_⟩) hH ?_
  rotate_left
  · (intro v hS; go_simp; try with_reducible rfl)
  simp only [Act.put, List.setIfInBounds_toArray, List.set_cons_zero, List.set_cons_succ, List.getElem_toArray, List.getElem_cons_succ, List.getElem_cons_zero]
  refine wpAnyH_take (i := 2) (v := ?_) rfl (by kernel_rfl) (by kernel_rfl) (by kernel_rfl) (fun _ _ _ h => h) (Or.inl ⟨by rfl, ?_⟩) hH ?_
  rotate_left
  · (intro v hS; go_simp; try with_reducible rfl)
  simp only [Act.put, List.setIfInBounds_toArray, List.set_cons_zero, List.set_cons_succ, List.getElem_toArray, List.getElem_cons_succ, List.getElem_cons_zero]
  refine wpAnyH_take (i := 3) (v := ?_) rfl (by kernel_rfl) (by kernel_rfl) (by kernel_rfl) (fun _ _ _ h => h) (Or.inl ⟨by rfl, ?_⟩) hH ?_
  rotate_left
  · (intro v hS; go_simp; try with_reducible rfl)
  simp only [Act.put, List.setIfInBounds_toArray, List.set_cons_zero, List.set_cons_succ, List.getElem_toArray, List.getElem_cons_succ, List.getElem_cons_zero]
  refine wpAnyH_take (i := 4) (v := ?_) rfl (by kernel_rfl) (by kernel_rfl) (by kernel_rfl) (fun _ _ _ h => h) (Or.inl ⟨by rfl, ?_⟩) hH ?_
  rotate_left
  · (intro v hS; go_simp; try with_reducible rfl)
  simp only [Act.put, List.setIfInBounds_toArray, List.set_cons_zero, List.set_cons_succ, List.getElem_toArray, List.getElem_cons_succ, List.getElem_cons_zero]
  refine wpAnyH_take (i := 5) (v := ?_) rfl (by kernel_rfl) (by kernel_rfl) (by kernel_rfl) (fun _ _ _ h => h) (Or.inl ⟨by rfl, ?_⟩) hH ?_
  rotate_left
  · (intro v hS; go_simp; try with_reducible rfl)
  simp only [Act.put, List.setIfInBounds_toArray, List.set_cons_zero, List.set_cons_succ, List.getElem_toArray, List.getElem_cons_succ, List.getElem_cons_zero]
  refine wpAnyH_take (i := 6) (v := ?_) rfl (by kernel_rfl) (by kernel_rfl) (by kernel_rfl) (fun _ _ _ h => h) (Or.inl ⟨by rfl, ?_⟩) hH ?_
  rotate_left
  · (intro v hS; go_simp; try with_reducible rfl)
  simp only [Act.put, List.setIfInBounds_toArray, List.set_cons_zero, List.set_cons_succ, List.getElem_toArray, List.getElem_cons_succ, List.getElem_cons_zero]
  refine wpAnyH_take (i := 7) (v := ?_) rfl (by kernel_rfl) (by kernel_rfl) (by kernel_rfl) (fun _ _ _ h => h) (Or.inl ⟨by rfl, ?_⟩) hH ?_
  rotate_left
  · (intro v hS; go_simp; try with_reducible rfl)
  simp only [Act.put, List.setIfInBounds_toArray, List.set_cons_zero, List.set_cons_succ, List.getElem_toArray, List.getElem_cons_succ, List.getElem_cons_zero]
  refine wpAnyH_ready (rs := [8]) (by kernel_rfl) (by simp) ?_
  refine AllReadyH.cons rfl (fun K hK => ?_) AllReadyH.nil
  refine step_ofY rfl (wp_copy_much _ (.tmp 73) (.tmp 76) 24 24 rfl _ _ rfl rfl (hcp1 3 (c - (k + 1)) (c - k)) ?_)
  refine hK.out _ _ trivial (fun hH2 => ?_)
  clear hK K hH
  simp only [Act.put, List.setIfInBounds_toArray, List.set_cons_zero, List.set_cons_succ, List.getElem_toArray, List.getElem_cons_succ, List.getElem_cons_zero]
  refine wpAnyH_done (by kernel_rfl) ?_ _
  go_wp2_with (refine wpList_copy_much _ rfl (.tmp 80) (.tmp 81) 24 24 rfl _ _ rfl rfl (hcp2 3 (c - k)) ?_)
  go_ret
  exact ⟨rfl, FIN.out.2.1, FIN.out.2.2⟩
end Go.Proofs.Ytccnninmkfhejaa.By
