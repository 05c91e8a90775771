/-
  The document's copy of a world, by its contract. No statement is proved here.
-/
import Derived.Test.YtccnninmkfhejaaYFo
import Derived.Deep.DeepCutAuto
namespace Go.Proofs.Ytccnninmkfhejaa.By
open Go.RowKit
set_option linter.unusedVariables false
set_option linter.unusedSimpArgs false

theorem appZ {P : Program} {w : World} (t ty e : TypeId) (i : TypeInfo) (ht : P.underlying t = some (.slice e)) (hi : P.info? e = some i) (g : Nat) (a : Option Addr) (c : Nat) :
    (Builtin.append_ #[t, t] ty #[.slice (some ⟨g, 0, none⟩) 0 0, .slice a 0 c]).run P w = .ok (.slice (some ⟨g, 0, none⟩) 0 0) w := by
  cases a <;> simp [Builtin.append_, run_underlying ht, sizeOf, typeInfo, hi, Builtin.lenOf, Builtin.firstCells, loadCells, loadCellsFrom, storeCells]
/-- What comes behind an empty row of our own: in a region, and in a plain list of operations. -/
theorem wp_appE {P : Program} {w : World} {o : Oper} {ac : Act} {K : Act → World → Prop} {Q : Exit → Act → World → Prop} (s x : Operand) (t : TypeId) (ho : o.op = .call { callee := .builtin .append, args := #[s, x], argTypes := #[t, t] })
    (B : Nat) (e : TypeId) (i : TypeInfo) (z : Value) (size bytes : Nat) (ht : P.underlying t = some (.slice e)) (hi : P.info? e = some i) (hz : i.zero = some z) (hsize : i.size = size) (hby : i.bytes = bytes) (hzs : z.cells.size = size) (hsz : 0 < size)
    (g : Nat) (hs : ac.eval s = .slice (some ⟨g, 0, none⟩) 0 0) (hg : w.heap[g]? = some (.cells #[] e (0, 0))) (hBg : B ≤ g) (a : Option Addr) (l c : Nat) (vs : List Value) (hx : ac.eval x = .slice a l c) (hl : vs.length = l * size) (hr : Lies w a l vs) (h1 : ∀ u ∈ vs, u.oneCell' = true) (hn : l ≤ maxLen) (hb : l * bytes ≤ 140737488355328)
    (H : ∀ d k w', w'.ownsRow B e size (.slice d l k) l vs → w.grownBy w' (some g) → K (ac.put o.dst (.slice d l k)) w') : Oper.wp P o ac w K Q := by
  have hB : B ≤ w.heap.size := by have := lt_of_block hg; omega
  have ow : w.ownsRow B e size (.slice (some ⟨g, 0, none⟩) 0 0) 0 [] := ⟨by simp, .inr ⟨g, 0, #[], rfl, hBg, hg, Nat.le_refl _, by unfold maxLen; omega, by simp, by simp⟩⟩
  rcases hr with rfl | ⟨b, oo, rfl, hc⟩
  · obtain rfl : vs = [] := List.eq_nil_of_length_eq_zero (by simpa using hl)
    have hrun := appZ (P := P) (w := w) t o.type e i ht hi g a c
    unfold Oper.wp
    simp [execOp, ho, resolve, invoke, builtin, hs, hx, hrun, Result.andThen]
    exact H _ _ _ ow (World.grownBy.refl _ _)
  · refine wp_append_own w s x t ho B e i z size bytes ht hi hz hsize hby hzs hsz (.slice (some ⟨g, 0, none⟩) 0 0) 0 [] hs ow ⟨b, oo, none⟩ l c vs hx hl (fun j u hj => by rw [Go.WideShapes.add_plain]; exact hc j u hj) h1 (by simpa using hn) (by simpa using hb) hB (fun v' w' h2 h3 _ => ?_)
    have h2' : w'.ownsRow B e size v' l vs := by simpa using h2
    obtain ⟨d, k, rfl⟩ := row_slice h2'
    exact H d k w' h2' (by simpa [Value.ownBlock] using h3)
theorem wpList_appE {P : Program} {w : World} {ops : Array Oper} {rest : List Oper} {o : Oper} {ac : Act} {Q : Exit → Act → World → Prop} (hgd : o.guard = none) (s x : Operand) (t : TypeId) (ho : o.op = .call { callee := .builtin .append, args := #[s, x], argTypes := #[t, t] })
    (B : Nat) (e : TypeId) (i : TypeInfo) (z : Value) (size bytes : Nat) (ht : P.underlying t = some (.slice e)) (hi : P.info? e = some i) (hz : i.zero = some z) (hsize : i.size = size) (hby : i.bytes = bytes) (hzs : z.cells.size = size) (hsz : 0 < size)
    (g : Nat) (hs : ac.eval s = .slice (some ⟨g, 0, none⟩) 0 0) (hg : w.heap[g]? = some (.cells #[] e (0, 0))) (hBg : B ≤ g) (a : Option Addr) (l c : Nat) (vs : List Value) (hx : ac.eval x = .slice a l c) (hl : vs.length = l * size) (hr : Lies w a l vs) (h1 : ∀ u ∈ vs, u.oneCell' = true) (hn : l ≤ maxLen) (hb : l * bytes ≤ 140737488355328)
    (H : ∀ d k w', w'.ownsRow B e size (.slice d l k) l vs → w.grownBy w' (some g) → wpList P ops Q rest (ac.put o.dst (.slice d l k)) w') : wpList P ops Q (o :: rest) ac w :=
  wpList_plain hgd fun K hK => wp_appE s x t ho B e i z size bytes ht hi hz hsize hby hzs hsz g hs hg hBg a l c vs hx hl hr h1 hn hb fun d k w' h2 h3 => hK _ _ (H d k w' h2 h3)
theorem ty_ne {w : World} {g q : Nat} {c c' : Array Value} {t t' : TypeId} (h : w.heap[g]? = some (.cells c t (0, 0))) (h' : w.heap[q]? = some (.cells c' t' (0, 0))) (ht : t ≠ t') : g ≠ q := fun e => by
  subst e; rw [h] at h'; cases h'; exact ht rfl

set_option maxRecDepth 8000 in
set_option maxHeartbeats 8000000 in
theorem copyWT (x : RWorld) (a1 : Option Addr) (l1 c1 : Nat) (a2 : Option Addr) (l2 c2 : Nat) (a3 : Option Addr) (l3 c3 : Nat) (w : World) (h : RdWorld w x a1 l1 a2 l2 a3 l3) (hb1 : l1 ≤ 1048576) (hb2 : l2 ≤ 1048576) (hb3 : l3 ≤ 1048576) (hlit : ∀ y ∈ x.trace, y.lit.length ≤ 1048576) :
    Calls Try.prog 37 #[.agg #[.int .i64 x.ticks, .slice a1 l1 c1, .slice a2 l2 c2, .slice a3 l3 c3]] w fun e u => ∃ d1 k1 d2 k2 d3 k3 vs hi, e = .returned (.agg #[.int .i64 x.ticks, .slice d1 l1 k1, .slice d2 l2 k2, .slice d3 l3 k3]) ∧ OwW u w.heap.size x d1 l1 d2 l2 k2 d3 l3 k3 vs hi ∧ w.grownBy u none ∧ l1 ≤ k1 ∧ k1 ≤ 9223372036854775807 := by
  have e1 := h.1.1.1
  have e2 := h.2.1.1
  have e3 := h.2.2.1
  obtain ⟨r0, r1, rsz⟩ := alloc2_blocks w (.cells #[.int .i64 x.ticks, .slice a1 l1 c1, .slice a2 l2 c2, .slice a3 l3 c3] 27) (.cells #[.int .i64 0, .slice none 0 0, .slice none 0 0, .slice none 0 0] 27)
  have g0 := grown_alloc (grown_alloc (World.grownBy.refl w none) (.cells #[.int .i64 x.ticks, .slice a1 l1 c1, .slice a2 l2 c2, .slice a3 l3 c3] 27)) (.cells #[.int .i64 0, .slice none 0 0, .slice none 0 0, .slice none 0 0] 27)
  have HR : Hid (RdWorld w x a1 l1 a2 l2 a3 l3 ∧ (∀ y ∈ x.trace, y.lit.length ≤ 1048576)) := ⟨h, hlit⟩
  have EL : Hid (x.draws.length = l1 ∧ x.store.length = l2 ∧ x.trace.length = l3) := ⟨e1, e2, e3⟩
  have AL0 : Hid (w.grownBy _ none ∧ _ = some (Obj.cells #[.int .i64 x.ticks, .slice a1 l1 c1, .slice a2 l2 c2, .slice a3 l3 c3] 27) ∧ _ = some (Obj.cells #[.int .i64 0, .slice none 0 0, .slice none 0 0, .slice none 0 0] 27) ∧ _ = w.heap.size + 1 + 1) := ⟨g0, r0, r1, rsz⟩
  clear h hlit g0 r0 r1 rsz e1 e2 e3
  go_enter Try.func37, Try.ntmps37
  go_wp2
  generalize (w.alloc (.cells #[.int .i64 x.ticks, .slice a1 l1 c1, .slice a2 l2 c2, .slice a3 l3 c3] 27)).alloc (.cells #[.int .i64 0, .slice none 0 0, .slice none 0 0, .slice none 0 0] 27) = W0 at *
  go_cut [3] (fun s wx => ∃ (q3 : Nat) (d1 : Option Addr) (k1 : Nat) (d2 : Option Addr) (k2 : Nat), s = .pointer (some ⟨q3, 0, none⟩) ∧ Hid (w.grownBy wx none ∧ wx.heap[w.heap.size]? = some (Obj.cells #[.int .i64 x.ticks, .slice a1 l1 c1, .slice a2 l2 c2, .slice a3 l3 c3] 27) ∧ wx.heap[w.heap.size + 1]? = some (Obj.cells #[.int .i64 0, .slice none 0 0, .slice none 0 0, .slice none 0 0] 27) ∧ wx.heap[q3]? = some (Obj.cells #[.int .i64 x.ticks, .slice d1 l1 k1, .slice d2 l2 k2, .slice none 0 0] 27) ∧ w.heap.size + 2 ≤ q3 ∧ wx.ownsRow (w.heap.size + 2) 3 1 (.slice d1 l1 k1) l1 (vI x.draws) ∧ wx.ownsRow (w.heap.size + 2) 66 2 (.slice d2 l2 k2) l2 (vE x.store)))
  case first =>
    have AL : Hid (w.grownBy W0.drew none ∧ W0.drew.heap[w.heap.size]? = some (Obj.cells #[.int .i64 x.ticks, .slice a1 l1 c1, .slice a2 l2 c2, .slice a3 l3 c3] 27) ∧ W0.drew.heap[w.heap.size + 1]? = some (Obj.cells #[.int .i64 0, .slice none 0 0, .slice none 0 0, .slice none 0 0] 27) ∧ w.heap.size + 2 ≤ W0.drew.heap.size) := ⟨grown_drew AL0.out.1, AL0.out.2.1, AL0.out.2.2.1, by rw [show W0.drew.heap.size = W0.heap.size from rfl, AL0.out.2.2.2]; omega⟩
    go_wp2_with fail
    refine wp_region_held_drew (S := (fun u => u.cell? ⟨w.heap.size, 0, none⟩ = some (.int .i64 x.ticks) ∧ u.cell? ⟨w.heap.size, 1, none⟩ = some (.slice a1 l1 c1) ∧ u.cell? ⟨w.heap.size, 2, none⟩ = some (.slice a2 l2 c2))) (by kernel_rfl) ⟨(blkWorld AL.out.2.1).1.1, (blkWorld AL.out.2.1).1.2.1, (blkWorld AL.out.2.1).1.2.2.1⟩ (fun hH => ?_)
    generalize W0.drew = u at *
    clear AL0
    simp only [List.size_toArray, List.length_cons, List.length_nil, Nat.reduceAdd, Array.replicate, List.replicate]
    refine wpAnyH_take (i := 0) (v := ?_) rfl (by kernel_rfl) (by kernel_rfl) (by kernel_rfl) (fun _ _ _ h => h) (Or.inl ⟨by rfl, ?_⟩) hH ?_
    rotate_left
    · (intro v hS; obtain ⟨s0, s1, s2⟩ := hS; go_simp; try with_reducible rfl)
    simp only [Act.put, List.setIfInBounds_toArray, List.set_cons_zero, List.set_cons_succ, List.getElem_toArray, List.getElem_cons_succ, List.getElem_cons_zero]
    refine wpAnyH_take (i := 1) (v := ?_) rfl (by kernel_rfl) (by kernel_rfl) (by kernel_rfl) (fun _ _ _ h => h) (Or.inl ⟨by rfl, ?_⟩) hH ?_
    rotate_left
    · (intro v hS; obtain ⟨s0, s1, s2⟩ := hS; go_simp; try with_reducible rfl)
    simp only [Act.put, List.setIfInBounds_toArray, List.set_cons_zero, List.set_cons_succ, List.getElem_toArray, List.getElem_cons_succ, List.getElem_cons_zero]
    refine wpAnyH_take (i := 3) (v := ?_) rfl (by kernel_rfl) (by kernel_rfl) (by kernel_rfl) (fun _ _ _ h => h) (Or.inl ⟨by rfl, ?_⟩) hH ?_
    rotate_left
    · (intro v hS; obtain ⟨s0, s1, s2⟩ := hS; go_simp; try with_reducible rfl)
    simp only [Act.put, List.setIfInBounds_toArray, List.set_cons_zero, List.set_cons_succ, List.getElem_toArray, List.getElem_cons_succ, List.getElem_cons_zero]
    refine wpAnyH_take (i := 4) (v := ?_) rfl (by kernel_rfl) (by kernel_rfl) (by kernel_rfl) (fun _ _ _ h => h) (Or.inl ⟨by rfl, ?_⟩) hH ?_
    rotate_left
    · (intro v hS; obtain ⟨s0, s1, s2⟩ := hS; go_simp; try with_reducible rfl)
    simp only [Act.put, List.setIfInBounds_toArray, List.set_cons_zero, List.set_cons_succ, List.getElem_toArray, List.getElem_cons_succ, List.getElem_cons_zero]
    refine wpAnyH_take (i := 7) (v := ?_) rfl (by kernel_rfl) (by kernel_rfl) (by kernel_rfl) (fun _ _ _ h => h) (Or.inl ⟨by rfl, ?_⟩) hH ?_
    rotate_left
    · (intro v hS; obtain ⟨s0, s1, s2⟩ := hS; go_simp; try with_reducible rfl)
    simp only [Act.put, List.setIfInBounds_toArray, List.set_cons_zero, List.set_cons_succ, List.getElem_toArray, List.getElem_cons_succ, List.getElem_cons_zero]
    refine wpAnyH_take (i := 8) (v := ?_) rfl (by kernel_rfl) (by kernel_rfl) (by kernel_rfl) (fun _ _ _ h => h) (Or.inl ⟨by rfl, ?_⟩) hH ?_
    rotate_left
    · (intro v hS; obtain ⟨s0, s1, s2⟩ := hS; go_simp; try with_reducible rfl)
    simp only [Act.put, List.setIfInBounds_toArray, List.set_cons_zero, List.set_cons_succ, List.getElem_toArray, List.getElem_cons_succ, List.getElem_cons_zero]
    refine wpAnyH_ready (rs := [2, 6, 11]) (by kernel_rfl) (by simp) ?_
    refine AllReadyH.cons rfl (fun K hK => ?_) ?_
    · skip
      go_simp
      have ga := World.grownBy_alloc u (.cells #[] 3) none
      have X2 := heap_alloc_new u (.cells #[] 3)
      have AN : Hid _ := And.intro (grown_trans AL.out.1 ga) (And.intro ((ga.block _ (lt_of_block AL.out.2.1) (by simp)).trans AL.out.2.1) (And.intro ((ga.block _ (lt_of_block AL.out.2.2.1) (by simp)).trans AL.out.2.2.1) (Nat.le_trans AL.out.2.2.2 ga.size)))
      have B2 := AL.out.2.2.2
      clear AL ga hH
      generalize u.alloc (.cells #[] 3) = u' at *
      generalize u.heap.size = q2 at *
      clear u
      rename World => u
      have AL := AN
      clear AN
      refine hK.out _ _ ⟨(blkWorld AL.out.2.1).1.1, (blkWorld AL.out.2.1).1.2.1, (blkWorld AL.out.2.1).1.2.2.1⟩ (fun hH => ?_)
      clear hK K
      simp only [Act.put, List.setIfInBounds_toArray, List.set_cons_zero, List.set_cons_succ, List.getElem_toArray, List.getElem_cons_succ, List.getElem_cons_zero]
      refine wpAnyH_ready (rs := [5, 6, 11]) (by kernel_rfl) (by simp) ?_
      refine AllReadyH.cons rfl (fun K hK => ?_) ?_
      · skip
        obtain ⟨i0, hi, hz0, hz1, hz2⟩ := info_parts infoYi
        refine step_ofY rfl (wp_appE (.tmp 8) (.tmp 10) 23 rfl (w.heap.size + 2) 3 i0 _ 1 8 Try.underlying23 hi hz0 hz1 hz2 rfl (by decide) q2 rfl X2 B2 a1 l1 c1 (vI x.draws) rfl (by rw [vI_len, EL.out.1]; omega) ((HR.out.1.1.none AL.out.1).lies) (vI_one _) (by unfold maxLen; omega) (by omega) ?_)
        intro d1 k1 u' W5 kg
        have nb1 : q2 ≠ w.heap.size := by omega
        have nb2 : q2 ≠ w.heap.size + 1 := by omega
        have AN : Hid _ := And.intro (grown_into AL.out.1 kg (by omega)) (And.intro ((kg.block _ (lt_of_block AL.out.2.1) (by simp; omega)).trans AL.out.2.1) (And.intro ((kg.block _ (lt_of_block AL.out.2.2.1) (by simp; omega)).trans AL.out.2.2.1) (Nat.le_trans AL.out.2.2.2 kg.size)))
        clear AL kg hH X2 i0 hi hz0 hz1 hz2
        clear u
        rename World => u
        have AL := AN
        clear AN
        refine hK.out _ _ ⟨(blkWorld AL.out.2.1).1.1, (blkWorld AL.out.2.1).1.2.1, (blkWorld AL.out.2.1).1.2.2.1⟩ (fun hH => ?_)
        clear hK K
        simp only [Act.put, List.setIfInBounds_toArray, List.set_cons_zero, List.set_cons_succ, List.getElem_toArray, List.getElem_cons_succ, List.getElem_cons_zero]
        refine wpAnyH_ready (rs := [6, 11]) (by kernel_rfl) (by simp) ?_
        refine AllReadyH.cons rfl (fun K hK => ?_) ?_
        · skip
          go_simp
          have ga := World.grownBy_alloc u (.cells #[] 66) none
          have X6 := heap_alloc_new u (.cells #[] 66)
          have AN : Hid _ := And.intro (grown_trans AL.out.1 ga) (And.intro ((ga.block _ (lt_of_block AL.out.2.1) (by simp)).trans AL.out.2.1) (And.intro ((ga.block _ (lt_of_block AL.out.2.2.1) (by simp)).trans AL.out.2.2.1) (Nat.le_trans AL.out.2.2.2 ga.size)))
          have B6 := AL.out.2.2.2
          replace W5 := W5.kept ga (Classical.em _)
          clear AL ga hH
          generalize u.alloc (.cells #[] 66) = u' at *
          generalize u.heap.size = q6 at *
          clear u
          rename World => u
          have AL := AN
          clear AN
          refine hK.out _ _ ⟨(blkWorld AL.out.2.1).1.1, (blkWorld AL.out.2.1).1.2.1, (blkWorld AL.out.2.1).1.2.2.1⟩ (fun hH => ?_)
          clear hK K
          simp only [Act.put, List.setIfInBounds_toArray, List.set_cons_zero, List.set_cons_succ, List.getElem_toArray, List.getElem_cons_succ, List.getElem_cons_zero]
          refine wpAnyH_ready (rs := [9, 11]) (by kernel_rfl) (by simp) ?_
          refine AllReadyH.cons rfl (fun K hK => ?_) ?_
          · skip
            obtain ⟨i0, hi, hz0, hz1, hz2⟩ := info_parts infoYe
            refine step_ofY rfl (wp_appE (.tmp 12) (.tmp 14) 24 rfl (w.heap.size + 2) 66 i0 _ 2 16 Try.underlying24 hi hz0 hz1 hz2 rfl (by decide) q6 rfl X6 B6 a2 l2 c2 (vE x.store) rfl (by rw [vE_len, EL.out.2.1]) ((HR.out.1.2.1.none AL.out.1).lies) (vE_one _) (by unfold maxLen; omega) (by omega) ?_)
            intro d2 k2 u' W9 kg
            have nb1 : q6 ≠ w.heap.size := by omega
            have nb2 : q6 ≠ w.heap.size + 1 := by omega
            have AN : Hid _ := And.intro (grown_into AL.out.1 kg (by omega)) (And.intro ((kg.block _ (lt_of_block AL.out.2.1) (by simp; omega)).trans AL.out.2.1) (And.intro ((kg.block _ (lt_of_block AL.out.2.2.1) (by simp; omega)).trans AL.out.2.2.1) (Nat.le_trans AL.out.2.2.2 kg.size)))
            replace W5 := W5.kept kg (row_ne W5 X6 (by decide))
            clear AL kg hH X6 i0 hi hz0 hz1 hz2
            clear u
            rename World => u
            have AL := AN
            clear AN
            refine hK.out _ _ ⟨(blkWorld AL.out.2.1).1.1, (blkWorld AL.out.2.1).1.2.1, (blkWorld AL.out.2.1).1.2.2.1⟩ (fun hH => ?_)
            clear hK K
            simp only [Act.put, List.setIfInBounds_toArray, List.set_cons_zero, List.set_cons_succ, List.getElem_toArray, List.getElem_cons_succ, List.getElem_cons_zero]
            refine wpAnyH_take (i := 10) (v := ?_) rfl (by kernel_rfl) (by kernel_rfl) (by kernel_rfl) (fun _ _ _ h => h) (Or.inl ⟨by rfl, ?_⟩) hH ?_
            rotate_left
            · (intro v hS; go_simp; try with_reducible rfl)
            simp only [Act.put, List.setIfInBounds_toArray, List.set_cons_zero, List.set_cons_succ, List.getElem_toArray, List.getElem_cons_succ, List.getElem_cons_zero]
            refine wpAnyH_ready (rs := [11]) (by kernel_rfl) (by simp) ?_
            refine AllReadyH.cons rfl (fun K hK => ?_) ?_
            · skip
              go_simp
              have ga := World.grownBy_alloc u (.cells #[.int .i64 0, .slice none 0 0, .slice none 0 0, .slice none 0 0] 27) none
              have X11 := heap_alloc_new u (.cells #[.int .i64 0, .slice none 0 0, .slice none 0 0, .slice none 0 0] 27)
              have AN : Hid _ := And.intro (grown_trans AL.out.1 ga) (And.intro ((ga.block _ (lt_of_block AL.out.2.1) (by simp)).trans AL.out.2.1) (And.intro ((ga.block _ (lt_of_block AL.out.2.2.1) (by simp)).trans AL.out.2.2.1) (Nat.le_trans AL.out.2.2.2 ga.size)))
              have B11 := AL.out.2.2.2
              replace W5 := W5.kept ga (Classical.em _)
              replace W9 := W9.kept ga (Classical.em _)
              clear AL ga hH
              generalize u.alloc (.cells #[.int .i64 0, .slice none 0 0, .slice none 0 0, .slice none 0 0] 27) = u' at *
              generalize u.heap.size = q11 at *
              clear u
              rename World => u
              have AL := AN
              clear AN
              refine hK.out _ _ ⟨(blkWorld AL.out.2.1).1.1, (blkWorld AL.out.2.1).1.2.1, (blkWorld AL.out.2.1).1.2.2.1⟩ (fun hH => ?_)
              clear hK K
              simp only [Act.put, List.setIfInBounds_toArray, List.set_cons_zero, List.set_cons_succ, List.getElem_toArray, List.getElem_cons_succ, List.getElem_cons_zero]
              have zb := blkWorld X11
              obtain ⟨x0, x1, x2, x3⟩ := zb.1
              have fx0 := zb.2 0
              have fx1 := zb.2 1
              have fx2 := zb.2 2
              have fx3 := zb.2 3
              obtain ⟨mf, kf⟩ := fillWorld (.int .i64 x.ticks) (.slice d1 l1 k1) (.slice d2 l2 k2) (.slice none 0 0) X11
              have nb1 : q11 ≠ w.heap.size := by omega
              have nb2 : q11 ≠ w.heap.size + 1 := by omega
              have FF : Hid _ := And.intro (grown_into AL.out.1 kf (by omega)) (And.intro ((kf.block _ (lt_of_block AL.out.2.1) (by simp; omega)).trans AL.out.2.1) (And.intro ((kf.block _ (lt_of_block AL.out.2.2.1) (by simp; omega)).trans AL.out.2.2.1) (And.intro mf (And.intro B11 (And.intro (W5.kept kf (row_ne W5 X11 (by decide))) (W9.kept kf (row_ne W9 X11 (by decide))))))))
              clear zb mf kf X11 W5 W9 hH
              refine wpAnyH_ready (rs := [12]) (by kernel_rfl) (by simp) ?_
              refine AllReadyH.cons rfl (fun K hK => ?_) AllReadyH.nil
              go_simp
              refine hK.out _ _ ⟨(blkWorld FF.out.2.1).1.1, (blkWorld FF.out.2.1).1.2.1, (blkWorld FF.out.2.1).1.2.2.1⟩ (fun hH => ?_)
              clear hK K hH AL x0 x1 x2 x3 fx0 fx1 fx2 fx3
              simp only [Act.put, List.setIfInBounds_toArray, List.set_cons_zero, List.set_cons_succ, List.getElem_toArray, List.getElem_cons_succ, List.getElem_cons_zero]
              refine wpAnyH_done (by kernel_rfl) ?_ _
              go_wp2
              go_meet
              case rel => exact ⟨q11, d1, k1, d2, k2, rfl, FF.out⟩
            exact AllReadyH.nil
          refine AllReadyH.cons rfl (fun K hK => ?_) ?_
          · skip
            go_simp
            have ga := World.grownBy_alloc u (.cells #[.int .i64 0, .slice none 0 0, .slice none 0 0, .slice none 0 0] 27) none
            have X11 := heap_alloc_new u (.cells #[.int .i64 0, .slice none 0 0, .slice none 0 0, .slice none 0 0] 27)
            have AN : Hid _ := And.intro (grown_trans AL.out.1 ga) (And.intro ((ga.block _ (lt_of_block AL.out.2.1) (by simp)).trans AL.out.2.1) (And.intro ((ga.block _ (lt_of_block AL.out.2.2.1) (by simp)).trans AL.out.2.2.1) (Nat.le_trans AL.out.2.2.2 ga.size)))
            have B11 := AL.out.2.2.2
            replace X6 := (ga.block _ (lt_of_block X6) (by simp)).trans X6
            replace W5 := W5.kept ga (Classical.em _)
            clear AL ga hH
            generalize u.alloc (.cells #[.int .i64 0, .slice none 0 0, .slice none 0 0, .slice none 0 0] 27) = u' at *
            generalize u.heap.size = q11 at *
            clear u
            rename World => u
            have AL := AN
            clear AN
            refine hK.out _ _ ⟨(blkWorld AL.out.2.1).1.1, (blkWorld AL.out.2.1).1.2.1, (blkWorld AL.out.2.1).1.2.2.1⟩ (fun hH => ?_)
            clear hK K
            simp only [Act.put, List.setIfInBounds_toArray, List.set_cons_zero, List.set_cons_succ, List.getElem_toArray, List.getElem_cons_succ, List.getElem_cons_zero]
            refine wpAnyH_ready (rs := [9]) (by kernel_rfl) (by simp) ?_
            refine AllReadyH.cons rfl (fun K hK => ?_) ?_
            · skip
              obtain ⟨i0, hi, hz0, hz1, hz2⟩ := info_parts infoYe
              refine step_ofY rfl (wp_appE (.tmp 12) (.tmp 14) 24 rfl (w.heap.size + 2) 66 i0 _ 2 16 Try.underlying24 hi hz0 hz1 hz2 rfl (by decide) q6 rfl X6 B6 a2 l2 c2 (vE x.store) rfl (by rw [vE_len, EL.out.2.1]) ((HR.out.1.2.1.none AL.out.1).lies) (vE_one _) (by unfold maxLen; omega) (by omega) ?_)
              intro d2 k2 u' W9 kg
              have nb1 : q6 ≠ w.heap.size := by omega
              have nb2 : q6 ≠ w.heap.size + 1 := by omega
              have AN : Hid _ := And.intro (grown_into AL.out.1 kg (by omega)) (And.intro ((kg.block _ (lt_of_block AL.out.2.1) (by simp; omega)).trans AL.out.2.1) (And.intro ((kg.block _ (lt_of_block AL.out.2.2.1) (by simp; omega)).trans AL.out.2.2.1) (Nat.le_trans AL.out.2.2.2 kg.size)))
              replace X11 := (kg.block _ (lt_of_block X11) (by have := ty_ne X11 X6 (by decide); simp; omega)).trans X11
              replace W5 := W5.kept kg (row_ne W5 X6 (by decide))
              clear AL kg hH X6 i0 hi hz0 hz1 hz2
              clear u
              rename World => u
              have AL := AN
              clear AN
              refine hK.out _ _ ⟨(blkWorld AL.out.2.1).1.1, (blkWorld AL.out.2.1).1.2.1, (blkWorld AL.out.2.1).1.2.2.1⟩ (fun hH => ?_)
              clear hK K
              simp only [Act.put, List.setIfInBounds_toArray, List.set_cons_zero, List.set_cons_succ, List.getElem_toArray, List.getElem_cons_succ, List.getElem_cons_zero]
              refine wpAnyH_take (i := 10) (v := ?_) rfl (by kernel_rfl) (by kernel_rfl) (by kernel_rfl) (fun _ _ _ h => h) (Or.inl ⟨by rfl, ?_⟩) hH ?_
              rotate_left
              · (intro v hS; go_simp; try with_reducible rfl)
              simp only [Act.put, List.setIfInBounds_toArray, List.set_cons_zero, List.set_cons_succ, List.getElem_toArray, List.getElem_cons_succ, List.getElem_cons_zero]
              have zb := blkWorld X11
              obtain ⟨x0, x1, x2, x3⟩ := zb.1
              have fx0 := zb.2 0
              have fx1 := zb.2 1
              have fx2 := zb.2 2
              have fx3 := zb.2 3
              obtain ⟨mf, kf⟩ := fillWorld (.int .i64 x.ticks) (.slice d1 l1 k1) (.slice d2 l2 k2) (.slice none 0 0) X11
              have nb1 : q11 ≠ w.heap.size := by omega
              have nb2 : q11 ≠ w.heap.size + 1 := by omega
              have FF : Hid _ := And.intro (grown_into AL.out.1 kf (by omega)) (And.intro ((kf.block _ (lt_of_block AL.out.2.1) (by simp; omega)).trans AL.out.2.1) (And.intro ((kf.block _ (lt_of_block AL.out.2.2.1) (by simp; omega)).trans AL.out.2.2.1) (And.intro mf (And.intro B11 (And.intro (W5.kept kf (row_ne W5 X11 (by decide))) (W9.kept kf (row_ne W9 X11 (by decide))))))))
              clear zb mf kf X11 W5 W9 hH
              refine wpAnyH_ready (rs := [12]) (by kernel_rfl) (by simp) ?_
              refine AllReadyH.cons rfl (fun K hK => ?_) AllReadyH.nil
              go_simp
              refine hK.out _ _ ⟨(blkWorld FF.out.2.1).1.1, (blkWorld FF.out.2.1).1.2.1, (blkWorld FF.out.2.1).1.2.2.1⟩ (fun hH => ?_)
              clear hK K hH AL x0 x1 x2 x3 fx0 fx1 fx2 fx3
              simp only [Act.put, List.setIfInBounds_toArray, List.set_cons_zero, List.set_cons_succ, List.getElem_toArray, List.getElem_cons_succ, List.getElem_cons_zero]
              refine wpAnyH_done (by kernel_rfl) ?_ _
              go_wp2
              go_meet
              case rel => exact ⟨q11, d1, k1, d2, k2, rfl, FF.out⟩
            exact AllReadyH.nil
          exact AllReadyH.nil
        refine AllReadyH.cons rfl (fun K hK => ?_) ?_
        · skip
          go_simp
          have ga := World.grownBy_alloc u (.cells #[.int .i64 0, .slice none 0 0, .slice none 0 0, .slice none 0 0] 27) none
          have X11 := heap_alloc_new u (.cells #[.int .i64 0, .slice none 0 0, .slice none 0 0, .slice none 0 0] 27)
          have AN : Hid _ := And.intro (grown_trans AL.out.1 ga) (And.intro ((ga.block _ (lt_of_block AL.out.2.1) (by simp)).trans AL.out.2.1) (And.intro ((ga.block _ (lt_of_block AL.out.2.2.1) (by simp)).trans AL.out.2.2.1) (Nat.le_trans AL.out.2.2.2 ga.size)))
          have B11 := AL.out.2.2.2
          replace W5 := W5.kept ga (Classical.em _)
          clear AL ga hH
          generalize u.alloc (.cells #[.int .i64 0, .slice none 0 0, .slice none 0 0, .slice none 0 0] 27) = u' at *
          generalize u.heap.size = q11 at *
          clear u
          rename World => u
          have AL := AN
          clear AN
          refine hK.out _ _ ⟨(blkWorld AL.out.2.1).1.1, (blkWorld AL.out.2.1).1.2.1, (blkWorld AL.out.2.1).1.2.2.1⟩ (fun hH => ?_)
          clear hK K
          simp only [Act.put, List.setIfInBounds_toArray, List.set_cons_zero, List.set_cons_succ, List.getElem_toArray, List.getElem_cons_succ, List.getElem_cons_zero]
          refine wpAnyH_ready (rs := [6]) (by kernel_rfl) (by simp) ?_
          refine AllReadyH.cons rfl (fun K hK => ?_) ?_
          · skip
            go_simp
            have ga := World.grownBy_alloc u (.cells #[] 66) none
            have X6 := heap_alloc_new u (.cells #[] 66)
            have AN : Hid _ := And.intro (grown_trans AL.out.1 ga) (And.intro ((ga.block _ (lt_of_block AL.out.2.1) (by simp)).trans AL.out.2.1) (And.intro ((ga.block _ (lt_of_block AL.out.2.2.1) (by simp)).trans AL.out.2.2.1) (Nat.le_trans AL.out.2.2.2 ga.size)))
            have B6 := AL.out.2.2.2
            replace X11 := (ga.block _ (lt_of_block X11) (by simp)).trans X11
            replace W5 := W5.kept ga (Classical.em _)
            clear AL ga hH
            generalize u.alloc (.cells #[] 66) = u' at *
            generalize u.heap.size = q6 at *
            clear u
            rename World => u
            have AL := AN
            clear AN
            refine hK.out _ _ ⟨(blkWorld AL.out.2.1).1.1, (blkWorld AL.out.2.1).1.2.1, (blkWorld AL.out.2.1).1.2.2.1⟩ (fun hH => ?_)
            clear hK K
            simp only [Act.put, List.setIfInBounds_toArray, List.set_cons_zero, List.set_cons_succ, List.getElem_toArray, List.getElem_cons_succ, List.getElem_cons_zero]
            refine wpAnyH_ready (rs := [9]) (by kernel_rfl) (by simp) ?_
            refine AllReadyH.cons rfl (fun K hK => ?_) ?_
            · skip
              obtain ⟨i0, hi, hz0, hz1, hz2⟩ := info_parts infoYe
              refine step_ofY rfl (wp_appE (.tmp 12) (.tmp 14) 24 rfl (w.heap.size + 2) 66 i0 _ 2 16 Try.underlying24 hi hz0 hz1 hz2 rfl (by decide) q6 rfl X6 B6 a2 l2 c2 (vE x.store) rfl (by rw [vE_len, EL.out.2.1]) ((HR.out.1.2.1.none AL.out.1).lies) (vE_one _) (by unfold maxLen; omega) (by omega) ?_)
              intro d2 k2 u' W9 kg
              have nb1 : q6 ≠ w.heap.size := by omega
              have nb2 : q6 ≠ w.heap.size + 1 := by omega
              have AN : Hid _ := And.intro (grown_into AL.out.1 kg (by omega)) (And.intro ((kg.block _ (lt_of_block AL.out.2.1) (by simp; omega)).trans AL.out.2.1) (And.intro ((kg.block _ (lt_of_block AL.out.2.2.1) (by simp; omega)).trans AL.out.2.2.1) (Nat.le_trans AL.out.2.2.2 kg.size)))
              replace X11 := (kg.block _ (lt_of_block X11) (by have := ty_ne X11 X6 (by decide); simp; omega)).trans X11
              replace W5 := W5.kept kg (row_ne W5 X6 (by decide))
              clear AL kg hH X6 i0 hi hz0 hz1 hz2
              clear u
              rename World => u
              have AL := AN
              clear AN
              refine hK.out _ _ ⟨(blkWorld AL.out.2.1).1.1, (blkWorld AL.out.2.1).1.2.1, (blkWorld AL.out.2.1).1.2.2.1⟩ (fun hH => ?_)
              clear hK K
              simp only [Act.put, List.setIfInBounds_toArray, List.set_cons_zero, List.set_cons_succ, List.getElem_toArray, List.getElem_cons_succ, List.getElem_cons_zero]
              refine wpAnyH_take (i := 10) (v := ?_) rfl (by kernel_rfl) (by kernel_rfl) (by kernel_rfl) (fun _ _ _ h => h) (Or.inl ⟨by rfl, ?_⟩) hH ?_
              rotate_left
              · (intro v hS; go_simp; try with_reducible rfl)
              simp only [Act.put, List.setIfInBounds_toArray, List.set_cons_zero, List.set_cons_succ, List.getElem_toArray, List.getElem_cons_succ, List.getElem_cons_zero]
              have zb := blkWorld X11
              obtain ⟨x0, x1, x2, x3⟩ := zb.1
              have fx0 := zb.2 0
              have fx1 := zb.2 1
              have fx2 := zb.2 2
              have fx3 := zb.2 3
              obtain ⟨mf, kf⟩ := fillWorld (.int .i64 x.ticks) (.slice d1 l1 k1) (.slice d2 l2 k2) (.slice none 0 0) X11
              have nb1 : q11 ≠ w.heap.size := by omega
              have nb2 : q11 ≠ w.heap.size + 1 := by omega
              have FF : Hid _ := And.intro (grown_into AL.out.1 kf (by omega)) (And.intro ((kf.block _ (lt_of_block AL.out.2.1) (by simp; omega)).trans AL.out.2.1) (And.intro ((kf.block _ (lt_of_block AL.out.2.2.1) (by simp; omega)).trans AL.out.2.2.1) (And.intro mf (And.intro B11 (And.intro (W5.kept kf (row_ne W5 X11 (by decide))) (W9.kept kf (row_ne W9 X11 (by decide))))))))
              clear zb mf kf X11 W5 W9 hH
              refine wpAnyH_ready (rs := [12]) (by kernel_rfl) (by simp) ?_
              refine AllReadyH.cons rfl (fun K hK => ?_) AllReadyH.nil
              go_simp
              refine hK.out _ _ ⟨(blkWorld FF.out.2.1).1.1, (blkWorld FF.out.2.1).1.2.1, (blkWorld FF.out.2.1).1.2.2.1⟩ (fun hH => ?_)
              clear hK K hH AL x0 x1 x2 x3 fx0 fx1 fx2 fx3
              simp only [Act.put, List.setIfInBounds_toArray, List.set_cons_zero, List.set_cons_succ, List.getElem_toArray, List.getElem_cons_succ, List.getElem_cons_zero]
              refine wpAnyH_done (by kernel_rfl) ?_ _
              go_wp2
              go_meet
              case rel => exact ⟨q11, d1, k1, d2, k2, rfl, FF.out⟩
            exact AllReadyH.nil
          exact AllReadyH.nil
        exact AllReadyH.nil
      refine AllReadyH.cons rfl (fun K hK => ?_) ?_
      · skip
        go_simp
        have ga := World.grownBy_alloc u (.cells #[] 66) none
        have X6 := heap_alloc_new u (.cells #[] 66)
        have AN : Hid _ := And.intro (grown_trans AL.out.1 ga) (And.intro ((ga.block _ (lt_of_block AL.out.2.1) (by simp)).trans AL.out.2.1) (And.intro ((ga.block _ (lt_of_block AL.out.2.2.1) (by simp)).trans AL.out.2.2.1) (Nat.le_trans AL.out.2.2.2 ga.size)))
        have B6 := AL.out.2.2.2
        replace X2 := (ga.block _ (lt_of_block X2) (by simp)).trans X2
        clear AL ga hH
        generalize u.alloc (.cells #[] 66) = u' at *
        generalize u.heap.size = q6 at *
        clear u
        rename World => u
        have AL := AN
        clear AN
        refine hK.out _ _ ⟨(blkWorld AL.out.2.1).1.1, (blkWorld AL.out.2.1).1.2.1, (blkWorld AL.out.2.1).1.2.2.1⟩ (fun hH => ?_)
        clear hK K
        simp only [Act.put, List.setIfInBounds_toArray, List.set_cons_zero, List.set_cons_succ, List.getElem_toArray, List.getElem_cons_succ, List.getElem_cons_zero]
        refine wpAnyH_ready (rs := [5, 11]) (by kernel_rfl) (by simp) ?_
        refine AllReadyH.cons rfl (fun K hK => ?_) ?_
        · skip
          obtain ⟨i0, hi, hz0, hz1, hz2⟩ := info_parts infoYi
          refine step_ofY rfl (wp_appE (.tmp 8) (.tmp 10) 23 rfl (w.heap.size + 2) 3 i0 _ 1 8 Try.underlying23 hi hz0 hz1 hz2 rfl (by decide) q2 rfl X2 B2 a1 l1 c1 (vI x.draws) rfl (by rw [vI_len, EL.out.1]; omega) ((HR.out.1.1.none AL.out.1).lies) (vI_one _) (by unfold maxLen; omega) (by omega) ?_)
          intro d1 k1 u' W5 kg
          have nb1 : q2 ≠ w.heap.size := by omega
          have nb2 : q2 ≠ w.heap.size + 1 := by omega
          have AN : Hid _ := And.intro (grown_into AL.out.1 kg (by omega)) (And.intro ((kg.block _ (lt_of_block AL.out.2.1) (by simp; omega)).trans AL.out.2.1) (And.intro ((kg.block _ (lt_of_block AL.out.2.2.1) (by simp; omega)).trans AL.out.2.2.1) (Nat.le_trans AL.out.2.2.2 kg.size)))
          replace X6 := (kg.block _ (lt_of_block X6) (by have := ty_ne X6 X2 (by decide); simp; omega)).trans X6
          clear AL kg hH X2 i0 hi hz0 hz1 hz2
          clear u
          rename World => u
          have AL := AN
          clear AN
          refine hK.out _ _ ⟨(blkWorld AL.out.2.1).1.1, (blkWorld AL.out.2.1).1.2.1, (blkWorld AL.out.2.1).1.2.2.1⟩ (fun hH => ?_)
          clear hK K
          simp only [Act.put, List.setIfInBounds_toArray, List.set_cons_zero, List.set_cons_succ, List.getElem_toArray, List.getElem_cons_succ, List.getElem_cons_zero]
          refine wpAnyH_ready (rs := [9, 11]) (by kernel_rfl) (by simp) ?_
          refine AllReadyH.cons rfl (fun K hK => ?_) ?_
          · skip
            obtain ⟨i0, hi, hz0, hz1, hz2⟩ := info_parts infoYe
            refine step_ofY rfl (wp_appE (.tmp 12) (.tmp 14) 24 rfl (w.heap.size + 2) 66 i0 _ 2 16 Try.underlying24 hi hz0 hz1 hz2 rfl (by decide) q6 rfl X6 B6 a2 l2 c2 (vE x.store) rfl (by rw [vE_len, EL.out.2.1]) ((HR.out.1.2.1.none AL.out.1).lies) (vE_one _) (by unfold maxLen; omega) (by omega) ?_)
            intro d2 k2 u' W9 kg
            have nb1 : q6 ≠ w.heap.size := by omega
            have nb2 : q6 ≠ w.heap.size + 1 := by omega
            have AN : Hid _ := And.intro (grown_into AL.out.1 kg (by omega)) (And.intro ((kg.block _ (lt_of_block AL.out.2.1) (by simp; omega)).trans AL.out.2.1) (And.intro ((kg.block _ (lt_of_block AL.out.2.2.1) (by simp; omega)).trans AL.out.2.2.1) (Nat.le_trans AL.out.2.2.2 kg.size)))
            replace W5 := W5.kept kg (row_ne W5 X6 (by decide))
            clear AL kg hH X6 i0 hi hz0 hz1 hz2
            clear u
            rename World => u
            have AL := AN
            clear AN
            refine hK.out _ _ ⟨(blkWorld AL.out.2.1).1.1, (blkWorld AL.out.2.1).1.2.1, (blkWorld AL.out.2.1).1.2.2.1⟩ (fun hH => ?_)
            clear hK K
            simp only [Act.put, List.setIfInBounds_toArray, List.set_cons_zero, List.set_cons_succ, List.getElem_toArray, List.getElem_cons_succ, List.getElem_cons_zero]
            refine wpAnyH_take (i := 10) (v := ?_) rfl (by kernel_rfl) (by kernel_rfl) (by kernel_rfl) (fun _ _ _ h => h) (Or.inl ⟨by rfl, ?_⟩) hH ?_
            rotate_left
            · (intro v hS; go_simp; try with_reducible rfl)
            simp only [Act.put, List.setIfInBounds_toArray, List.set_cons_zero, List.set_cons_succ, List.getElem_toArray, List.getElem_cons_succ, List.getElem_cons_zero]
            refine wpAnyH_ready (rs := [11]) (by kernel_rfl) (by simp) ?_
            refine AllReadyH.cons rfl (fun K hK => ?_) ?_
            · skip
              go_simp
              have ga := World.grownBy_alloc u (.cells #[.int .i64 0, .slice none 0 0, .slice none 0 0, .slice none 0 0] 27) none
              have X11 := heap_alloc_new u (.cells #[.int .i64 0, .slice none 0 0, .slice none 0 0, .slice none 0 0] 27)
              have AN : Hid _ := And.intro (grown_trans AL.out.1 ga) (And.intro ((ga.block _ (lt_of_block AL.out.2.1) (by simp)).trans AL.out.2.1) (And.intro ((ga.block _ (lt_of_block AL.out.2.2.1) (by simp)).trans AL.out.2.2.1) (Nat.le_trans AL.out.2.2.2 ga.size)))
              have B11 := AL.out.2.2.2
              replace W5 := W5.kept ga (Classical.em _)
              replace W9 := W9.kept ga (Classical.em _)
              clear AL ga hH
              generalize u.alloc (.cells #[.int .i64 0, .slice none 0 0, .slice none 0 0, .slice none 0 0] 27) = u' at *
              generalize u.heap.size = q11 at *
              clear u
              rename World => u
              have AL := AN
              clear AN
              refine hK.out _ _ ⟨(blkWorld AL.out.2.1).1.1, (blkWorld AL.out.2.1).1.2.1, (blkWorld AL.out.2.1).1.2.2.1⟩ (fun hH => ?_)
              clear hK K
              simp only [Act.put, List.setIfInBounds_toArray, List.set_cons_zero, List.set_cons_succ, List.getElem_toArray, List.getElem_cons_succ, List.getElem_cons_zero]
              have zb := blkWorld X11
              obtain ⟨x0, x1, x2, x3⟩ := zb.1
              have fx0 := zb.2 0
              have fx1 := zb.2 1
              have fx2 := zb.2 2
              have fx3 := zb.2 3
              obtain ⟨mf, kf⟩ := fillWorld (.int .i64 x.ticks) (.slice d1 l1 k1) (.slice d2 l2 k2) (.slice none 0 0) X11
              have nb1 : q11 ≠ w.heap.size := by omega
              have nb2 : q11 ≠ w.heap.size + 1 := by omega
              have FF : Hid _ := And.intro (grown_into AL.out.1 kf (by omega)) (And.intro ((kf.block _ (lt_of_block AL.out.2.1) (by simp; omega)).trans AL.out.2.1) (And.intro ((kf.block _ (lt_of_block AL.out.2.2.1) (by simp; omega)).trans AL.out.2.2.1) (And.intro mf (And.intro B11 (And.intro (W5.kept kf (row_ne W5 X11 (by decide))) (W9.kept kf (row_ne W9 X11 (by decide))))))))
              clear zb mf kf X11 W5 W9 hH
              refine wpAnyH_ready (rs := [12]) (by kernel_rfl) (by simp) ?_
              refine AllReadyH.cons rfl (fun K hK => ?_) AllReadyH.nil
              go_simp
              refine hK.out _ _ ⟨(blkWorld FF.out.2.1).1.1, (blkWorld FF.out.2.1).1.2.1, (blkWorld FF.out.2.1).1.2.2.1⟩ (fun hH => ?_)
              clear hK K hH AL x0 x1 x2 x3 fx0 fx1 fx2 fx3
              simp only [Act.put, List.setIfInBounds_toArray, List.set_cons_zero, List.set_cons_succ, List.getElem_toArray, List.getElem_cons_succ, List.getElem_cons_zero]
              refine wpAnyH_done (by kernel_rfl) ?_ _
              go_wp2
              go_meet
              case rel => exact ⟨q11, d1, k1, d2, k2, rfl, FF.out⟩
            exact AllReadyH.nil
          refine AllReadyH.cons rfl (fun K hK => ?_) ?_
          · skip
            go_simp
            have ga := World.grownBy_alloc u (.cells #[.int .i64 0, .slice none 0 0, .slice none 0 0, .slice none 0 0] 27) none
            have X11 := heap_alloc_new u (.cells #[.int .i64 0, .slice none 0 0, .slice none 0 0, .slice none 0 0] 27)
            have AN : Hid _ := And.intro (grown_trans AL.out.1 ga) (And.intro ((ga.block _ (lt_of_block AL.out.2.1) (by simp)).trans AL.out.2.1) (And.intro ((ga.block _ (lt_of_block AL.out.2.2.1) (by simp)).trans AL.out.2.2.1) (Nat.le_trans AL.out.2.2.2 ga.size)))
            have B11 := AL.out.2.2.2
            replace X6 := (ga.block _ (lt_of_block X6) (by simp)).trans X6
            replace W5 := W5.kept ga (Classical.em _)
            clear AL ga hH
            generalize u.alloc (.cells #[.int .i64 0, .slice none 0 0, .slice none 0 0, .slice none 0 0] 27) = u' at *
            generalize u.heap.size = q11 at *
            clear u
            rename World => u
            have AL := AN
            clear AN
            refine hK.out _ _ ⟨(blkWorld AL.out.2.1).1.1, (blkWorld AL.out.2.1).1.2.1, (blkWorld AL.out.2.1).1.2.2.1⟩ (fun hH => ?_)
            clear hK K
            simp only [Act.put, List.setIfInBounds_toArray, List.set_cons_zero, List.set_cons_succ, List.getElem_toArray, List.getElem_cons_succ, List.getElem_cons_zero]
            refine wpAnyH_ready (rs := [9]) (by kernel_rfl) (by simp) ?_
            refine AllReadyH.cons rfl (fun K hK => ?_) ?_
            · skip
              obtain ⟨i0, hi, hz0, hz1, hz2⟩ := info_parts infoYe
              refine step_ofY rfl (wp_appE (.tmp 12) (.tmp 14) 24 rfl (w.heap.size + 2) 66 i0 _ 2 16 Try.underlying24 hi hz0 hz1 hz2 rfl (by decide) q6 rfl X6 B6 a2 l2 c2 (vE x.store) rfl (by rw [vE_len, EL.out.2.1]) ((HR.out.1.2.1.none AL.out.1).lies) (vE_one _) (by unfold maxLen; omega) (by omega) ?_)
              intro d2 k2 u' W9 kg
              have nb1 : q6 ≠ w.heap.size := by omega
              have nb2 : q6 ≠ w.heap.size + 1 := by omega
              have AN : Hid _ := And.intro (grown_into AL.out.1 kg (by omega)) (And.intro ((kg.block _ (lt_of_block AL.out.2.1) (by simp; omega)).trans AL.out.2.1) (And.intro ((kg.block _ (lt_of_block AL.out.2.2.1) (by simp; omega)).trans AL.out.2.2.1) (Nat.le_trans AL.out.2.2.2 kg.size)))
              replace X11 := (kg.block _ (lt_of_block X11) (by have := ty_ne X11 X6 (by decide); simp; omega)).trans X11
              replace W5 := W5.kept kg (row_ne W5 X6 (by decide))
              clear AL kg hH X6 i0 hi hz0 hz1 hz2
              clear u
              rename World => u
              have AL := AN
              clear AN
              refine hK.out _ _ ⟨(blkWorld AL.out.2.1).1.1, (blkWorld AL.out.2.1).1.2.1, (blkWorld AL.out.2.1).1.2.2.1⟩ (fun hH => ?_)
              clear hK K
              simp only [Act.put, List.setIfInBounds_toArray, List.set_cons_zero, List.set_cons_succ, List.getElem_toArray, List.getElem_cons_succ, List.getElem_cons_zero]
              refine wpAnyH_take (i := 10) (v := ?_) rfl (by kernel_rfl) (by kernel_rfl) (by kernel_rfl) (fun _ _ _ h => h) (Or.inl ⟨by rfl, ?_⟩) hH ?_
              rotate_left
              · (intro v hS; go_simp; try with_reducible rfl)
              simp only [Act.put, List.setIfInBounds_toArray, List.set_cons_zero, List.set_cons_succ, List.getElem_toArray, List.getElem_cons_succ, List.getElem_cons_zero]
              have zb := blkWorld X11
              obtain ⟨x0, x1, x2, x3⟩ := zb.1
              have fx0 := zb.2 0
              have fx1 := zb.2 1
              have fx2 := zb.2 2
              have fx3 := zb.2 3
              obtain ⟨mf, kf⟩ := fillWorld (.int .i64 x.ticks) (.slice d1 l1 k1) (.slice d2 l2 k2) (.slice none 0 0) X11
              have nb1 : q11 ≠ w.heap.size := by omega
              have nb2 : q11 ≠ w.heap.size + 1 := by omega
              have FF : Hid _ := And.intro (grown_into AL.out.1 kf (by omega)) (And.intro ((kf.block _ (lt_of_block AL.out.2.1) (by simp; omega)).trans AL.out.2.1) (And.intro ((kf.block _ (lt_of_block AL.out.2.2.1) (by simp; omega)).trans AL.out.2.2.1) (And.intro mf (And.intro B11 (And.intro (W5.kept kf (row_ne W5 X11 (by decide))) (W9.kept kf (row_ne W9 X11 (by decide))))))))
              clear zb mf kf X11 W5 W9 hH
              refine wpAnyH_ready (rs := [12]) (by kernel_rfl) (by simp) ?_
              refine AllReadyH.cons rfl (fun K hK => ?_) AllReadyH.nil
              go_simp
              refine hK.out _ _ ⟨(blkWorld FF.out.2.1).1.1, (blkWorld FF.out.2.1).1.2.1, (blkWorld FF.out.2.1).1.2.2.1⟩ (fun hH => ?_)
              clear hK K hH AL x0 x1 x2 x3 fx0 fx1 fx2 fx3
              simp only [Act.put, List.setIfInBounds_toArray, List.set_cons_zero, List.set_cons_succ, List.getElem_toArray, List.getElem_cons_succ, List.getElem_cons_zero]
              refine wpAnyH_done (by kernel_rfl) ?_ _
              go_wp2
              go_meet
              case rel => exact ⟨q11, d1, k1, d2, k2, rfl, FF.out⟩
            exact AllReadyH.nil
          exact AllReadyH.nil
        refine AllReadyH.cons rfl (fun K hK => ?_) ?_
        · skip
          go_simp
          have ga := World.grownBy_alloc u (.cells #[.int .i64 0, .slice none 0 0, .slice none 0 0, .slice none 0 0] 27) none
          have X11 := heap_alloc_new u (.cells #[.int .i64 0, .slice none 0 0, .slice none 0 0, .slice none 0 0] 27)
          have AN : Hid _ := And.intro (grown_trans AL.out.1 ga) (And.intro ((ga.block _ (lt_of_block AL.out.2.1) (by simp)).trans AL.out.2.1) (And.intro ((ga.block _ (lt_of_block AL.out.2.2.1) (by simp)).trans AL.out.2.2.1) (Nat.le_trans AL.out.2.2.2 ga.size)))
          have B11 := AL.out.2.2.2
          replace X2 := (ga.block _ (lt_of_block X2) (by simp)).trans X2
          replace X6 := (ga.block _ (lt_of_block X6) (by simp)).trans X6
          clear AL ga hH
          generalize u.alloc (.cells #[.int .i64 0, .slice none 0 0, .slice none 0 0, .slice none 0 0] 27) = u' at *
          generalize u.heap.size = q11 at *
          clear u
          rename World => u
          have AL := AN
          clear AN
          refine hK.out _ _ ⟨(blkWorld AL.out.2.1).1.1, (blkWorld AL.out.2.1).1.2.1, (blkWorld AL.out.2.1).1.2.2.1⟩ (fun hH => ?_)
          clear hK K
          simp only [Act.put, List.setIfInBounds_toArray, List.set_cons_zero, List.set_cons_succ, List.getElem_toArray, List.getElem_cons_succ, List.getElem_cons_zero]
          refine wpAnyH_ready (rs := [5]) (by kernel_rfl) (by simp) ?_
          refine AllReadyH.cons rfl (fun K hK => ?_) ?_
          · skip
            obtain ⟨i0, hi, hz0, hz1, hz2⟩ := info_parts infoYi
            refine step_ofY rfl (wp_appE (.tmp 8) (.tmp 10) 23 rfl (w.heap.size + 2) 3 i0 _ 1 8 Try.underlying23 hi hz0 hz1 hz2 rfl (by decide) q2 rfl X2 B2 a1 l1 c1 (vI x.draws) rfl (by rw [vI_len, EL.out.1]; omega) ((HR.out.1.1.none AL.out.1).lies) (vI_one _) (by unfold maxLen; omega) (by omega) ?_)
            intro d1 k1 u' W5 kg
            have nb1 : q2 ≠ w.heap.size := by omega
            have nb2 : q2 ≠ w.heap.size + 1 := by omega
            have AN : Hid _ := And.intro (grown_into AL.out.1 kg (by omega)) (And.intro ((kg.block _ (lt_of_block AL.out.2.1) (by simp; omega)).trans AL.out.2.1) (And.intro ((kg.block _ (lt_of_block AL.out.2.2.1) (by simp; omega)).trans AL.out.2.2.1) (Nat.le_trans AL.out.2.2.2 kg.size)))
            replace X6 := (kg.block _ (lt_of_block X6) (by have := ty_ne X6 X2 (by decide); simp; omega)).trans X6
            replace X11 := (kg.block _ (lt_of_block X11) (by have := ty_ne X11 X2 (by decide); simp; omega)).trans X11
            clear AL kg hH X2 i0 hi hz0 hz1 hz2
            clear u
            rename World => u
            have AL := AN
            clear AN
            refine hK.out _ _ ⟨(blkWorld AL.out.2.1).1.1, (blkWorld AL.out.2.1).1.2.1, (blkWorld AL.out.2.1).1.2.2.1⟩ (fun hH => ?_)
            clear hK K
            simp only [Act.put, List.setIfInBounds_toArray, List.set_cons_zero, List.set_cons_succ, List.getElem_toArray, List.getElem_cons_succ, List.getElem_cons_zero]
            refine wpAnyH_ready (rs := [9]) (by kernel_rfl) (by simp) ?_
            refine AllReadyH.cons rfl (fun K hK => ?_) ?_
            · skip
              obtain ⟨i0, hi, hz0, hz1, hz2⟩ := info_parts infoYe
              refine step_ofY rfl (wp_appE (.tmp 12) (.tmp 14) 24 rfl (w.heap.size + 2) 66 i0 _ 2 16 Try.underlying24 hi hz0 hz1 hz2 rfl (by decide) q6 rfl X6 B6 a2 l2 c2 (vE x.store) rfl (by rw [vE_len, EL.out.2.1]) ((HR.out.1.2.1.none AL.out.1).lies) (vE_one _) (by unfold maxLen; omega) (by omega) ?_)
              intro d2 k2 u' W9 kg
              have nb1 : q6 ≠ w.heap.size := by omega
              have nb2 : q6 ≠ w.heap.size + 1 := by omega
              have AN : Hid _ := And.intro (grown_into AL.out.1 kg (by omega)) (And.intro ((kg.block _ (lt_of_block AL.out.2.1) (by simp; omega)).trans AL.out.2.1) (And.intro ((kg.block _ (lt_of_block AL.out.2.2.1) (by simp; omega)).trans AL.out.2.2.1) (Nat.le_trans AL.out.2.2.2 kg.size)))
              replace X11 := (kg.block _ (lt_of_block X11) (by have := ty_ne X11 X6 (by decide); simp; omega)).trans X11
              replace W5 := W5.kept kg (row_ne W5 X6 (by decide))
              clear AL kg hH X6 i0 hi hz0 hz1 hz2
              clear u
              rename World => u
              have AL := AN
              clear AN
              refine hK.out _ _ ⟨(blkWorld AL.out.2.1).1.1, (blkWorld AL.out.2.1).1.2.1, (blkWorld AL.out.2.1).1.2.2.1⟩ (fun hH => ?_)
              clear hK K
              simp only [Act.put, List.setIfInBounds_toArray, List.set_cons_zero, List.set_cons_succ, List.getElem_toArray, List.getElem_cons_succ, List.getElem_cons_zero]
              refine wpAnyH_take (i := 10) (v := ?_) rfl (by kernel_rfl) (by kernel_rfl) (by kernel_rfl) (fun _ _ _ h => h) (Or.inl ⟨by rfl, ?_⟩) hH ?_
              rotate_left
              · (intro v hS; go_simp; try with_reducible rfl)
              simp only [Act.put, List.setIfInBounds_toArray, List.set_cons_zero, List.set_cons_succ, List.getElem_toArray, List.getElem_cons_succ, List.getElem_cons_zero]
              have zb := blkWorld X11
              obtain ⟨x0, x1, x2, x3⟩ := zb.1
              have fx0 := zb.2 0
              have fx1 := zb.2 1
              have fx2 := zb.2 2
              have fx3 := zb.2 3
              obtain ⟨mf, kf⟩ := fillWorld (.int .i64 x.ticks) (.slice d1 l1 k1) (.slice d2 l2 k2) (.slice none 0 0) X11
              have nb1 : q11 ≠ w.heap.size := by omega
              have nb2 : q11 ≠ w.heap.size + 1 := by omega
              have FF : Hid _ := And.intro (grown_into AL.out.1 kf (by omega)) (And.intro ((kf.block _ (lt_of_block AL.out.2.1) (by simp; omega)).trans AL.out.2.1) (And.intro ((kf.block _ (lt_of_block AL.out.2.2.1) (by simp; omega)).trans AL.out.2.2.1) (And.intro mf (And.intro B11 (And.intro (W5.kept kf (row_ne W5 X11 (by decide))) (W9.kept kf (row_ne W9 X11 (by decide))))))))
              clear zb mf kf X11 W5 W9 hH
              refine wpAnyH_ready (rs := [12]) (by kernel_rfl) (by simp) ?_
              refine AllReadyH.cons rfl (fun K hK => ?_) AllReadyH.nil
              go_simp
              refine hK.out _ _ ⟨(blkWorld FF.out.2.1).1.1, (blkWorld FF.out.2.1).1.2.1, (blkWorld FF.out.2.1).1.2.2.1⟩ (fun hH => ?_)
              clear hK K hH AL x0 x1 x2 x3 fx0 fx1 fx2 fx3
              simp only [Act.put, List.setIfInBounds_toArray, List.set_cons_zero, List.set_cons_succ, List.getElem_toArray, List.getElem_cons_succ, List.getElem_cons_zero]
              refine wpAnyH_done (by kernel_rfl) ?_ _
              go_wp2
              go_meet
              case rel => exact ⟨q11, d1, k1, d2, k2, rfl, FF.out⟩
            exact AllReadyH.nil
          exact AllReadyH.nil
        exact AllReadyH.nil
      refine AllReadyH.cons rfl (fun K hK => ?_) ?_
      · skip
        go_simp
        have ga := World.grownBy_alloc u (.cells #[.int .i64 0, .slice none 0 0, .slice none 0 0, .slice none 0 0] 27) none
        have X11 := heap_alloc_new u (.cells #[.int .i64 0, .slice none 0 0, .slice none 0 0, .slice none 0 0] 27)
        have AN : Hid _ := And.intro (grown_trans AL.out.1 ga) (And.intro ((ga.block _ (lt_of_block AL.out.2.1) (by simp)).trans AL.out.2.1) (And.intro ((ga.block _ (lt_of_block AL.out.2.2.1) (by simp)).trans AL.out.2.2.1) (Nat.le_trans AL.out.2.2.2 ga.size)))
        have B11 := AL.out.2.2.2
        replace X2 := (ga.block _ (lt_of_block X2) (by simp)).trans X2
        clear AL ga hH
        generalize u.alloc (.cells #[.int .i64 0, .slice none 0 0, .slice none 0 0, .slice none 0 0] 27) = u' at *
        generalize u.heap.size = q11 at *
        clear u
        rename World => u
        have AL := AN
        clear AN
        refine hK.out _ _ ⟨(blkWorld AL.out.2.1).1.1, (blkWorld AL.out.2.1).1.2.1, (blkWorld AL.out.2.1).1.2.2.1⟩ (fun hH => ?_)
        clear hK K
        simp only [Act.put, List.setIfInBounds_toArray, List.set_cons_zero, List.set_cons_succ, List.getElem_toArray, List.getElem_cons_succ, List.getElem_cons_zero]
        refine wpAnyH_ready (rs := [5, 6]) (by kernel_rfl) (by simp) ?_
        refine AllReadyH.cons rfl (fun K hK => ?_) ?_
        · skip
          obtain ⟨i0, hi, hz0, hz1, hz2⟩ := info_parts infoYi
          refine step_ofY rfl (wp_appE (.tmp 8) (.tmp 10) 23 rfl (w.heap.size + 2) 3 i0 _ 1 8 Try.underlying23 hi hz0 hz1 hz2 rfl (by decide) q2 rfl X2 B2 a1 l1 c1 (vI x.draws) rfl (by rw [vI_len, EL.out.1]; omega) ((HR.out.1.1.none AL.out.1).lies) (vI_one _) (by unfold maxLen; omega) (by omega) ?_)
          intro d1 k1 u' W5 kg
          have nb1 : q2 ≠ w.heap.size := by omega
          have nb2 : q2 ≠ w.heap.size + 1 := by omega
          have AN : Hid _ := And.intro (grown_into AL.out.1 kg (by omega)) (And.intro ((kg.block _ (lt_of_block AL.out.2.1) (by simp; omega)).trans AL.out.2.1) (And.intro ((kg.block _ (lt_of_block AL.out.2.2.1) (by simp; omega)).trans AL.out.2.2.1) (Nat.le_trans AL.out.2.2.2 kg.size)))
          replace X11 := (kg.block _ (lt_of_block X11) (by have := ty_ne X11 X2 (by decide); simp; omega)).trans X11
          clear AL kg hH X2 i0 hi hz0 hz1 hz2
          clear u
          rename World => u
          have AL := AN
          clear AN
          refine hK.out _ _ ⟨(blkWorld AL.out.2.1).1.1, (blkWorld AL.out.2.1).1.2.1, (blkWorld AL.out.2.1).1.2.2.1⟩ (fun hH => ?_)
          clear hK K
          simp only [Act.put, List.setIfInBounds_toArray, List.set_cons_zero, List.set_cons_succ, List.getElem_toArray, List.getElem_cons_succ, List.getElem_cons_zero]
          refine wpAnyH_ready (rs := [6]) (by kernel_rfl) (by simp) ?_
          refine AllReadyH.cons rfl (fun K hK => ?_) ?_
          · skip
            go_simp
            have ga := World.grownBy_alloc u (.cells #[] 66) none
            have X6 := heap_alloc_new u (.cells #[] 66)
            have AN : Hid _ := And.intro (grown_trans AL.out.1 ga) (And.intro ((ga.block _ (lt_of_block AL.out.2.1) (by simp)).trans AL.out.2.1) (And.intro ((ga.block _ (lt_of_block AL.out.2.2.1) (by simp)).trans AL.out.2.2.1) (Nat.le_trans AL.out.2.2.2 ga.size)))
            have B6 := AL.out.2.2.2
            replace X11 := (ga.block _ (lt_of_block X11) (by simp)).trans X11
            replace W5 := W5.kept ga (Classical.em _)
            clear AL ga hH
            generalize u.alloc (.cells #[] 66) = u' at *
            generalize u.heap.size = q6 at *
            clear u
            rename World => u
            have AL := AN
            clear AN
            refine hK.out _ _ ⟨(blkWorld AL.out.2.1).1.1, (blkWorld AL.out.2.1).1.2.1, (blkWorld AL.out.2.1).1.2.2.1⟩ (fun hH => ?_)
            clear hK K
            simp only [Act.put, List.setIfInBounds_toArray, List.set_cons_zero, List.set_cons_succ, List.getElem_toArray, List.getElem_cons_succ, List.getElem_cons_zero]
            refine wpAnyH_ready (rs := [9]) (by kernel_rfl) (by simp) ?_
            refine AllReadyH.cons rfl (fun K hK => ?_) ?_
            · skip
              obtain ⟨i0, hi, hz0, hz1, hz2⟩ := info_parts infoYe
              refine step_ofY rfl (wp_appE (.tmp 12) (.tmp 14) 24 rfl (w.heap.size + 2) 66 i0 _ 2 16 Try.underlying24 hi hz0 hz1 hz2 rfl (by decide) q6 rfl X6 B6 a2 l2 c2 (vE x.store) rfl (by rw [vE_len, EL.out.2.1]) ((HR.out.1.2.1.none AL.out.1).lies) (vE_one _) (by unfold maxLen; omega) (by omega) ?_)
              intro d2 k2 u' W9 kg
              have nb1 : q6 ≠ w.heap.size := by omega
              have nb2 : q6 ≠ w.heap.size + 1 := by omega
              have AN : Hid _ := And.intro (grown_into AL.out.1 kg (by omega)) (And.intro ((kg.block _ (lt_of_block AL.out.2.1) (by simp; omega)).trans AL.out.2.1) (And.intro ((kg.block _ (lt_of_block AL.out.2.2.1) (by simp; omega)).trans AL.out.2.2.1) (Nat.le_trans AL.out.2.2.2 kg.size)))
              replace X11 := (kg.block _ (lt_of_block X11) (by have := ty_ne X11 X6 (by decide); simp; omega)).trans X11
              replace W5 := W5.kept kg (row_ne W5 X6 (by decide))
              clear AL kg hH X6 i0 hi hz0 hz1 hz2
              clear u
              rename World => u
              have AL := AN
              clear AN
              refine hK.out _ _ ⟨(blkWorld AL.out.2.1).1.1, (blkWorld AL.out.2.1).1.2.1, (blkWorld AL.out.2.1).1.2.2.1⟩ (fun hH => ?_)
              clear hK K
              simp only [Act.put, List.setIfInBounds_toArray, List.set_cons_zero, List.set_cons_succ, List.getElem_toArray, List.getElem_cons_succ, List.getElem_cons_zero]
              refine wpAnyH_take (i := 10) (v := ?_) rfl (by kernel_rfl) (by kernel_rfl) (by kernel_rfl) (fun _ _ _ h => h) (Or.inl ⟨by rfl, ?_⟩) hH ?_
              rotate_left
              · (intro v hS; go_simp; try with_reducible rfl)
              simp only [Act.put, List.setIfInBounds_toArray, List.set_cons_zero, List.set_cons_succ, List.getElem_toArray, List.getElem_cons_succ, List.getElem_cons_zero]
              have zb := blkWorld X11
              obtain ⟨x0, x1, x2, x3⟩ := zb.1
              have fx0 := zb.2 0
              have fx1 := zb.2 1
              have fx2 := zb.2 2
              have fx3 := zb.2 3
              obtain ⟨mf, kf⟩ := fillWorld (.int .i64 x.ticks) (.slice d1 l1 k1) (.slice d2 l2 k2) (.slice none 0 0) X11
              have nb1 : q11 ≠ w.heap.size := by omega
              have nb2 : q11 ≠ w.heap.size + 1 := by omega
              have FF : Hid _ := And.intro (grown_into AL.out.1 kf (by omega)) (And.intro ((kf.block _ (lt_of_block AL.out.2.1) (by simp; omega)).trans AL.out.2.1) (And.intro ((kf.block _ (lt_of_block AL.out.2.2.1) (by simp; omega)).trans AL.out.2.2.1) (And.intro mf (And.intro B11 (And.intro (W5.kept kf (row_ne W5 X11 (by decide))) (W9.kept kf (row_ne W9 X11 (by decide))))))))
              clear zb mf kf X11 W5 W9 hH
              refine wpAnyH_ready (rs := [12]) (by kernel_rfl) (by simp) ?_
              refine AllReadyH.cons rfl (fun K hK => ?_) AllReadyH.nil
              go_simp
              refine hK.out _ _ ⟨(blkWorld FF.out.2.1).1.1, (blkWorld FF.out.2.1).1.2.1, (blkWorld FF.out.2.1).1.2.2.1⟩ (fun hH => ?_)
              clear hK K hH AL x0 x1 x2 x3 fx0 fx1 fx2 fx3
              simp only [Act.put, List.setIfInBounds_toArray, List.set_cons_zero, List.set_cons_succ, List.getElem_toArray, List.getElem_cons_succ, List.getElem_cons_zero]
              refine wpAnyH_done (by kernel_rfl) ?_ _
              go_wp2
              go_meet
              case rel => exact ⟨q11, d1, k1, d2, k2, rfl, FF.out⟩
            exact AllReadyH.nil
          exact AllReadyH.nil
        refine AllReadyH.cons rfl (fun K hK => ?_) ?_
        · skip
          go_simp
          have ga := World.grownBy_alloc u (.cells #[] 66) none
          have X6 := heap_alloc_new u (.cells #[] 66)
          have AN : Hid _ := And.intro (grown_trans AL.out.1 ga) (And.intro ((ga.block _ (lt_of_block AL.out.2.1) (by simp)).trans AL.out.2.1) (And.intro ((ga.block _ (lt_of_block AL.out.2.2.1) (by simp)).trans AL.out.2.2.1) (Nat.le_trans AL.out.2.2.2 ga.size)))
          have B6 := AL.out.2.2.2
          replace X2 := (ga.block _ (lt_of_block X2) (by simp)).trans X2
          replace X11 := (ga.block _ (lt_of_block X11) (by simp)).trans X11
          clear AL ga hH
          generalize u.alloc (.cells #[] 66) = u' at *
          generalize u.heap.size = q6 at *
          clear u
          rename World => u
          have AL := AN
          clear AN
          refine hK.out _ _ ⟨(blkWorld AL.out.2.1).1.1, (blkWorld AL.out.2.1).1.2.1, (blkWorld AL.out.2.1).1.2.2.1⟩ (fun hH => ?_)
          clear hK K
          simp only [Act.put, List.setIfInBounds_toArray, List.set_cons_zero, List.set_cons_succ, List.getElem_toArray, List.getElem_cons_succ, List.getElem_cons_zero]
          refine wpAnyH_ready (rs := [5]) (by kernel_rfl) (by simp) ?_
          refine AllReadyH.cons rfl (fun K hK => ?_) ?_
          · skip
            obtain ⟨i0, hi, hz0, hz1, hz2⟩ := info_parts infoYi
            refine step_ofY rfl (wp_appE (.tmp 8) (.tmp 10) 23 rfl (w.heap.size + 2) 3 i0 _ 1 8 Try.underlying23 hi hz0 hz1 hz2 rfl (by decide) q2 rfl X2 B2 a1 l1 c1 (vI x.draws) rfl (by rw [vI_len, EL.out.1]; omega) ((HR.out.1.1.none AL.out.1).lies) (vI_one _) (by unfold maxLen; omega) (by omega) ?_)
            intro d1 k1 u' W5 kg
            have nb1 : q2 ≠ w.heap.size := by omega
            have nb2 : q2 ≠ w.heap.size + 1 := by omega
            have AN : Hid _ := And.intro (grown_into AL.out.1 kg (by omega)) (And.intro ((kg.block _ (lt_of_block AL.out.2.1) (by simp; omega)).trans AL.out.2.1) (And.intro ((kg.block _ (lt_of_block AL.out.2.2.1) (by simp; omega)).trans AL.out.2.2.1) (Nat.le_trans AL.out.2.2.2 kg.size)))
            replace X6 := (kg.block _ (lt_of_block X6) (by have := ty_ne X6 X2 (by decide); simp; omega)).trans X6
            replace X11 := (kg.block _ (lt_of_block X11) (by have := ty_ne X11 X2 (by decide); simp; omega)).trans X11
            clear AL kg hH X2 i0 hi hz0 hz1 hz2
            clear u
            rename World => u
            have AL := AN
            clear AN
            refine hK.out _ _ ⟨(blkWorld AL.out.2.1).1.1, (blkWorld AL.out.2.1).1.2.1, (blkWorld AL.out.2.1).1.2.2.1⟩ (fun hH => ?_)
            clear hK K
            simp only [Act.put, List.setIfInBounds_toArray, List.set_cons_zero, List.set_cons_succ, List.getElem_toArray, List.getElem_cons_succ, List.getElem_cons_zero]
            refine wpAnyH_ready (rs := [9]) (by kernel_rfl) (by simp) ?_
            refine AllReadyH.cons rfl (fun K hK => ?_) ?_
            · skip
              obtain ⟨i0, hi, hz0, hz1, hz2⟩ := info_parts infoYe
              refine step_ofY rfl (wp_appE (.tmp 12) (.tmp 14) 24 rfl (w.heap.size + 2) 66 i0 _ 2 16 Try.underlying24 hi hz0 hz1 hz2 rfl (by decide) q6 rfl X6 B6 a2 l2 c2 (vE x.store) rfl (by rw [vE_len, EL.out.2.1]) ((HR.out.1.2.1.none AL.out.1).lies) (vE_one _) (by unfold maxLen; omega) (by omega) ?_)
              intro d2 k2 u' W9 kg
              have nb1 : q6 ≠ w.heap.size := by omega
              have nb2 : q6 ≠ w.heap.size + 1 := by omega
              have AN : Hid _ := And.intro (grown_into AL.out.1 kg (by omega)) (And.intro ((kg.block _ (lt_of_block AL.out.2.1) (by simp; omega)).trans AL.out.2.1) (And.intro ((kg.block _ (lt_of_block AL.out.2.2.1) (by simp; omega)).trans AL.out.2.2.1) (Nat.le_trans AL.out.2.2.2 kg.size)))
              replace X11 := (kg.block _ (lt_of_block X11) (by have := ty_ne X11 X6 (by decide); simp; omega)).trans X11
              replace W5 := W5.kept kg (row_ne W5 X6 (by decide))
              clear AL kg hH X6 i0 hi hz0 hz1 hz2
              clear u
              rename World => u
              have AL := AN
              clear AN
              refine hK.out _ _ ⟨(blkWorld AL.out.2.1).1.1, (blkWorld AL.out.2.1).1.2.1, (blkWorld AL.out.2.1).1.2.2.1⟩ (fun hH => ?_)
              clear hK K
              simp only [Act.put, List.setIfInBounds_toArray, List.set_cons_zero, List.set_cons_succ, List.getElem_toArray, List.getElem_cons_succ, List.getElem_cons_zero]
              refine wpAnyH_take (i := 10) (v := ?_) rfl (by kernel_rfl) (by kernel_rfl) (by kernel_rfl) (fun _ _ _ h => h) (Or.inl ⟨by rfl, ?_⟩) hH ?_
              rotate_left
              · (intro v hS; go_simp; try with_reducible rfl)
              simp only [Act.put, List.setIfInBounds_toArray, List.set_cons_zero, List.set_cons_succ, List.getElem_toArray, List.getElem_cons_succ, List.getElem_cons_zero]
              have zb := blkWorld X11
              obtain ⟨x0, x1, x2, x3⟩ := zb.1
              have fx0 := zb.2 0
              have fx1 := zb.2 1
              have fx2 := zb.2 2
              have fx3 := zb.2 3
              obtain ⟨mf, kf⟩ := fillWorld (.int .i64 x.ticks) (.slice d1 l1 k1) (.slice d2 l2 k2) (.slice none 0 0) X11
              have nb1 : q11 ≠ w.heap.size := by omega
              have nb2 : q11 ≠ w.heap.size + 1 := by omega
              have FF : Hid _ := And.intro (grown_into AL.out.1 kf (by omega)) (And.intro ((kf.block _ (lt_of_block AL.out.2.1) (by simp; omega)).trans AL.out.2.1) (And.intro ((kf.block _ (lt_of_block AL.out.2.2.1) (by simp; omega)).trans AL.out.2.2.1) (And.intro mf (And.intro B11 (And.intro (W5.kept kf (row_ne W5 X11 (by decide))) (W9.kept kf (row_ne W9 X11 (by decide))))))))
              clear zb mf kf X11 W5 W9 hH
              refine wpAnyH_ready (rs := [12]) (by kernel_rfl) (by simp) ?_
              refine AllReadyH.cons rfl (fun K hK => ?_) AllReadyH.nil
              go_simp
              refine hK.out _ _ ⟨(blkWorld FF.out.2.1).1.1, (blkWorld FF.out.2.1).1.2.1, (blkWorld FF.out.2.1).1.2.2.1⟩ (fun hH => ?_)
              clear hK K hH AL x0 x1 x2 x3 fx0 fx1 fx2 fx3
              simp only [Act.put, List.setIfInBounds_toArray, List.set_cons_zero, List.set_cons_succ, List.getElem_toArray, List.getElem_cons_succ, List.getElem_cons_zero]
              refine wpAnyH_done (by kernel_rfl) ?_ _
              go_wp2
              go_meet
              case rel => exact ⟨q11, d1, k1, d2, k2, rfl, FF.out⟩
            exact AllReadyH.nil
          exact AllReadyH.nil
        exact AllReadyH.nil
      exact AllReadyH.nil
    refine AllReadyH.cons rfl (fun K hK => ?_) ?_
    · skip
      go_simp
      have ga := World.grownBy_alloc u (.cells #[] 66) none
      have X6 := heap_alloc_new u (.cells #[] 66)
      have AN : Hid _ := And.intro (grown_trans AL.out.1 ga) (And.intro ((ga.block _ (lt_of_block AL.out.2.1) (by simp)).trans AL.out.2.1) (And.intro ((ga.block _ (lt_of_block AL.out.2.2.1) (by simp)).trans AL.out.2.2.1) (Nat.le_trans AL.out.2.2.2 ga.size)))
      have B6 := AL.out.2.2.2
      clear AL ga hH
      generalize u.alloc (.cells #[] 66) = u' at *
      generalize u.heap.size = q6 at *
      clear u
      rename World => u
      have AL := AN
      clear AN
      refine hK.out _ _ ⟨(blkWorld AL.out.2.1).1.1, (blkWorld AL.out.2.1).1.2.1, (blkWorld AL.out.2.1).1.2.2.1⟩ (fun hH => ?_)
      clear hK K
      simp only [Act.put, List.setIfInBounds_toArray, List.set_cons_zero, List.set_cons_succ, List.getElem_toArray, List.getElem_cons_succ, List.getElem_cons_zero]
      refine wpAnyH_ready (rs := [2, 11]) (by kernel_rfl) (by simp) ?_
      refine AllReadyH.cons rfl (fun K hK => ?_) ?_
      · skip
        go_simp
        have ga := World.grownBy_alloc u (.cells #[] 3) none
        have X2 := heap_alloc_new u (.cells #[] 3)
        have AN : Hid _ := And.intro (grown_trans AL.out.1 ga) (And.intro ((ga.block _ (lt_of_block AL.out.2.1) (by simp)).trans AL.out.2.1) (And.intro ((ga.block _ (lt_of_block AL.out.2.2.1) (by simp)).trans AL.out.2.2.1) (Nat.le_trans AL.out.2.2.2 ga.size)))
        have B2 := AL.out.2.2.2
        replace X6 := (ga.block _ (lt_of_block X6) (by simp)).trans X6
        clear AL ga hH
        generalize u.alloc (.cells #[] 3) = u' at *
        generalize u.heap.size = q2 at *
        clear u
        rename World => u
        have AL := AN
        clear AN
        refine hK.out _ _ ⟨(blkWorld AL.out.2.1).1.1, (blkWorld AL.out.2.1).1.2.1, (blkWorld AL.out.2.1).1.2.2.1⟩ (fun hH => ?_)
        clear hK K
        simp only [Act.put, List.setIfInBounds_toArray, List.set_cons_zero, List.set_cons_succ, List.getElem_toArray, List.getElem_cons_succ, List.getElem_cons_zero]
        refine wpAnyH_ready (rs := [5, 11]) (by kernel_rfl) (by simp) ?_
        refine AllReadyH.cons rfl (fun K hK => ?_) ?_
        · skip
          obtain ⟨i0, hi, hz0, hz1, hz2⟩ := info_parts infoYi
          refine step_ofY rfl (wp_appE (.tmp 8) (.tmp 10) 23 rfl (w.heap.size + 2) 3 i0 _ 1 8 Try.underlying23 hi hz0 hz1 hz2 rfl (by decide) q2 rfl X2 B2 a1 l1 c1 (vI x.draws) rfl (by rw [vI_len, EL.out.1]; omega) ((HR.out.1.1.none AL.out.1).lies) (vI_one _) (by unfold maxLen; omega) (by omega) ?_)
          intro d1 k1 u' W5 kg
          have nb1 : q2 ≠ w.heap.size := by omega
          have nb2 : q2 ≠ w.heap.size + 1 := by omega
          have AN : Hid _ := And.intro (grown_into AL.out.1 kg (by omega)) (And.intro ((kg.block _ (lt_of_block AL.out.2.1) (by simp; omega)).trans AL.out.2.1) (And.intro ((kg.block _ (lt_of_block AL.out.2.2.1) (by simp; omega)).trans AL.out.2.2.1) (Nat.le_trans AL.out.2.2.2 kg.size)))
          replace X6 := (kg.block _ (lt_of_block X6) (by have := ty_ne X6 X2 (by decide); simp; omega)).trans X6
          clear AL kg hH X2 i0 hi hz0 hz1 hz2
          clear u
          rename World => u
          have AL := AN
          clear AN
          refine hK.out _ _ ⟨(blkWorld AL.out.2.1).1.1, (blkWorld AL.out.2.1).1.2.1, (blkWorld AL.out.2.1).1.2.2.1⟩ (fun hH => ?_)
          clear hK K
          simp only [Act.put, List.setIfInBounds_toArray, List.set_cons_zero, List.set_cons_succ, List.getElem_toArray, List.getElem_cons_succ, List.getElem_cons_zero]
          refine wpAnyH_ready (rs := [9, 11]) (by kernel_rfl) (by simp) ?_
          refine AllReadyH.cons rfl (fun K hK => ?_) ?_
          · skip
            obtain ⟨i0, hi, hz0, hz1, hz2⟩ := info_parts infoYe
            refine step_ofY rfl (wp_appE (.tmp 12) (.tmp 14) 24 rfl (w.heap.size + 2) 66 i0 _ 2 16 Try.underlying24 hi hz0 hz1 hz2 rfl (by decide) q6 rfl X6 B6 a2 l2 c2 (vE x.store) rfl (by rw [vE_len, EL.out.2.1]) ((HR.out.1.2.1.none AL.out.1).lies) (vE_one _) (by unfold maxLen; omega) (by omega) ?_)
            intro d2 k2 u' W9 kg
            have nb1 : q6 ≠ w.heap.size := by omega
            have nb2 : q6 ≠ w.heap.size + 1 := by omega
            have AN : Hid _ := And.intro (grown_into AL.out.1 kg (by omega)) (And.intro ((kg.block _ (lt_of_block AL.out.2.1) (by simp; omega)).trans AL.out.2.1) (And.intro ((kg.block _ (lt_of_block AL.out.2.2.1) (by simp; omega)).trans AL.out.2.2.1) (Nat.le_trans AL.out.2.2.2 kg.size)))
            replace W5 := W5.kept kg (row_ne W5 X6 (by decide))
            clear AL kg hH X6 i0 hi hz0 hz1 hz2
            clear u
            rename World => u
            have AL := AN
            clear AN
            refine hK.out _ _ ⟨(blkWorld AL.out.2.1).1.1, (blkWorld AL.out.2.1).1.2.1, (blkWorld AL.out.2.1).1.2.2.1⟩ (fun hH => ?_)
            clear hK K
            simp only [Act.put, List.setIfInBounds_toArray, List.set_cons_zero, List.set_cons_succ, List.getElem_toArray, List.getElem_cons_succ, List.getElem_cons_zero]
            refine wpAnyH_take (i := 10) (v := ?_) rfl (by kernel_rfl) (by kernel_rfl) (by kernel_rfl) (fun _ _ _ h => h) (Or.inl ⟨by rfl, ?_⟩) hH ?_
            rotate_left
            · (intro v hS; go_simp; try with_reducible rfl)
            simp only [Act.put, List.setIfInBounds_toArray, List.set_cons_zero, List.set_cons_succ, List.getElem_toArray, List.getElem_cons_succ, List.getElem_cons_zero]
            refine wpAnyH_ready (rs := [11]) (by kernel_rfl) (by simp) ?_
            refine AllReadyH.cons rfl (fun K hK => ?_) ?_
            · skip
              go_simp
              have ga := World.grownBy_alloc u (.cells #[.int .i64 0, .slice none 0 0, .slice none 0 0, .slice none 0 0] 27) none
              have X11 := heap_alloc_new u (.cells #[.int .i64 0, .slice none 0 0, .slice none 0 0, .slice none 0 0] 27)
              have AN : Hid _ := And.intro (grown_trans AL.out.1 ga) (And.intro ((ga.block _ (lt_of_block AL.out.2.1) (by simp)).trans AL.out.2.1) (And.intro ((ga.block _ (lt_of_block AL.out.2.2.1) (by simp)).trans AL.out.2.2.1) (Nat.le_trans AL.out.2.2.2 ga.size)))
              have B11 := AL.out.2.2.2
              replace W5 := W5.kept ga (Classical.em _)
              replace W9 := W9.kept ga (Classical.em _)
              clear AL ga hH
              generalize u.alloc (.cells #[.int .i64 0, .slice none 0 0, .slice none 0 0, .slice none 0 0] 27) = u' at *
              generalize u.heap.size = q11 at *
              clear u
              rename World => u
              have AL := AN
              clear AN
              refine hK.out _ _ ⟨(blkWorld AL.out.2.1).1.1, (blkWorld AL.out.2.1).1.2.1, (blkWorld AL.out.2.1).1.2.2.1⟩ (fun hH => ?_)
              clear hK K
              simp only [Act.put, List.setIfInBounds_toArray, List.set_cons_zero, List.set_cons_succ, List.getElem_toArray, List.getElem_cons_succ, List.getElem_cons_zero]
              have zb := blkWorld X11
              obtain ⟨x0, x1, x2, x3⟩ := zb.1
              have fx0 := zb.2 0
              have fx1 := zb.2 1
              have fx2 := zb.2 2
              have fx3 := zb.2 3
              obtain ⟨mf, kf⟩ := fillWorld (.int .i64 x.ticks) (.slice d1 l1 k1) (.slice d2 l2 k2) (.slice none 0 0) X11
              have nb1 : q11 ≠ w.heap.size := by omega
              have nb2 : q11 ≠ w.heap.size + 1 := by omega
              have FF : Hid _ := And.intro (grown_into AL.out.1 kf (by omega)) (And.intro ((kf.block _ (lt_of_block AL.out.2.1) (by simp; omega)).trans AL.out.2.1) (And.intro ((kf.block _ (lt_of_block AL.out.2.2.1) (by simp; omega)).trans AL.out.2.2.1) (And.intro mf (And.intro B11 (And.intro (W5.kept kf (row_ne W5 X11 (by decide))) (W9.kept kf (row_ne W9 X11 (by decide))))))))
              clear zb mf kf X11 W5 W9 hH
              refine wpAnyH_ready (rs := [12]) (by kernel_rfl) (by simp) ?_
              refine AllReadyH.cons rfl (fun K hK => ?_) AllReadyH.nil
              go_simp
              refine hK.out _ _ ⟨(blkWorld FF.out.2.1).1.1, (blkWorld FF.out.2.1).1.2.1, (blkWorld FF.out.2.1).1.2.2.1⟩ (fun hH => ?_)
              clear hK K hH AL x0 x1 x2 x3 fx0 fx1 fx2 fx3
              simp only [Act.put, List.setIfInBounds_toArray, List.set_cons_zero, List.set_cons_succ, List.getElem_toArray, List.getElem_cons_succ, List.getElem_cons_zero]
              refine wpAnyH_done (by kernel_rfl) ?_ _
              go_wp2
              go_meet
              case rel => exact ⟨q11, d1, k1, d2, k2, rfl, FF.out⟩
            exact AllReadyH.nil
          refine AllReadyH.cons rfl (fun K hK => ?_) ?_
          · skip
            go_simp
            have ga := World.grownBy_alloc u (.cells #[.int .i64 0, .slice none 0 0, .slice none 0 0, .slice none 0 0] 27) none
            have X11 := heap_alloc_new u (.cells #[.int .i64 0, .slice none 0 0, .slice none 0 0, .slice none 0 0] 27)
            have AN : Hid _ := And.intro (grown_trans AL.out.1 ga) (And.intro ((ga.block _ (lt_of_block AL.out.2.1) (by simp)).trans AL.out.2.1) (And.intro ((ga.block _ (lt_of_block AL.out.2.2.1) (by simp)).trans AL.out.2.2.1) (Nat.le_trans AL.out.2.2.2 ga.size)))
            have B11 := AL.out.2.2.2
            replace X6 := (ga.block _ (lt_of_block X6) (by simp)).trans X6
            replace W5 := W5.kept ga (Classical.em _)
            clear AL ga hH
            generalize u.alloc (.cells #[.int .i64 0, .slice none 0 0, .slice none 0 0, .slice none 0 0] 27) = u' at *
            generalize u.heap.size = q11 at *
            clear u
            rename World => u
            have AL := AN
            clear AN
            refine hK.out _ _ ⟨(blkWorld AL.out.2.1).1.1, (blkWorld AL.out.2.1).1.2.1, (blkWorld AL.out.2.1).1.2.2.1⟩ (fun hH => ?_)
            clear hK K
            simp only [Act.put, List.setIfInBounds_toArray, List.set_cons_zero, List.set_cons_succ, List.getElem_toArray, List.getElem_cons_succ, List.getElem_cons_zero]
            refine wpAnyH_ready (rs := [9]) (by kernel_rfl) (by simp) ?_
            refine AllReadyH.cons rfl (fun K hK => ?_) ?_
            · skip
              obtain ⟨i0, hi, hz0, hz1, hz2⟩ := info_parts infoYe
              refine step_ofY rfl (wp_appE (.tmp 12) (.tmp 14) 24 rfl (w.heap.size + 2) 66 i0 _ 2 16 Try.underlying24 hi hz0 hz1 hz2 rfl (by decide) q6 rfl X6 B6 a2 l2 c2 (vE x.store) rfl (by rw [vE_len, EL.out.2.1]) ((HR.out.1.2.1.none AL.out.1).lies) (vE_one _) (by unfold maxLen; omega) (by omega) ?_)
              intro d2 k2 u' W9 kg
              have nb1 : q6 ≠ w.heap.size := by omega
              have nb2 : q6 ≠ w.heap.size + 1 := by omega
              have AN : Hid _ := And.intro (grown_into AL.out.1 kg (by omega)) (And.intro ((kg.block _ (lt_of_block AL.out.2.1) (by simp; omega)).trans AL.out.2.1) (And.intro ((kg.block _ (lt_of_block AL.out.2.2.1) (by simp; omega)).trans AL.out.2.2.1) (Nat.le_trans AL.out.2.2.2 kg.size)))
              replace X11 := (kg.block _ (lt_of_block X11) (by have := ty_ne X11 X6 (by decide); simp; omega)).trans X11
              replace W5 := W5.kept kg (row_ne W5 X6 (by decide))
              clear AL kg hH X6 i0 hi hz0 hz1 hz2
              clear u
              rename World => u
              have AL := AN
              clear AN
              refine hK.out _ _ ⟨(blkWorld AL.out.2.1).1.1, (blkWorld AL.out.2.1).1.2.1, (blkWorld AL.out.2.1).1.2.2.1⟩ (fun hH => ?_)
              clear hK K
              simp only [Act.put, List.setIfInBounds_toArray, List.set_cons_zero, List.set_cons_succ, List.getElem_toArray, List.getElem_cons_succ, List.getElem_cons_zero]
              refine wpAnyH_take (i := 10) (v := ?_) rfl (by kernel_rfl) (by kernel_rfl) (by kernel_rfl) (fun _ _ _ h => h) (Or.inl ⟨by rfl, ?_⟩) hH ?_
              rotate_left
              · (intro v hS; go_simp; try with_reducible rfl)
              simp only [Act.put, List.setIfInBounds_toArray, List.set_cons_zero, List.set_cons_succ, List.getElem_toArray, List.getElem_cons_succ, List.getElem_cons_zero]
              have zb := blkWorld X11
              obtain ⟨x0, x1, x2, x3⟩ := zb.1
              have fx0 := zb.2 0
              have fx1 := zb.2 1
              have fx2 := zb.2 2
              have fx3 := zb.2 3
              obtain ⟨mf, kf⟩ := fillWorld (.int .i64 x.ticks) (.slice d1 l1 k1) (.slice d2 l2 k2) (.slice none 0 0) X11
              have nb1 : q11 ≠ w.heap.size := by omega
              have nb2 : q11 ≠ w.heap.size + 1 := by omega
              have FF : Hid _ := And.intro (grown_into AL.out.1 kf (by omega)) (And.intro ((kf.block _ (lt_of_block AL.out.2.1) (by simp; omega)).trans AL.out.2.1) (And.intro ((kf.block _ (lt_of_block AL.out.2.2.1) (by simp; omega)).trans AL.out.2.2.1) (And.intro mf (And.intro B11 (And.intro (W5.kept kf (row_ne W5 X11 (by decide))) (W9.kept kf (row_ne W9 X11 (by decide))))))))
              clear zb mf kf X11 W5 W9 hH
              refine wpAnyH_ready (rs := [12]) (by kernel_rfl) (by simp) ?_
              refine AllReadyH.cons rfl (fun K hK => ?_) AllReadyH.nil
              go_simp
              refine hK.out _ _ ⟨(blkWorld FF.out.2.1).1.1, (blkWorld FF.out.2.1).1.2.1, (blkWorld FF.out.2.1).1.2.2.1⟩ (fun hH => ?_)
              clear hK K hH AL x0 x1 x2 x3 fx0 fx1 fx2 fx3
              simp only [Act.put, List.setIfInBounds_toArray, List.set_cons_zero, List.set_cons_succ, List.getElem_toArray, List.getElem_cons_succ, List.getElem_cons_zero]
              refine wpAnyH_done (by kernel_rfl) ?_ _
              go_wp2
              go_meet
              case rel => exact ⟨q11, d1, k1, d2, k2, rfl, FF.out⟩
            exact AllReadyH.nil
          exact AllReadyH.nil
        refine AllReadyH.cons rfl (fun K hK => ?_) ?_
        · skip
          go_simp
          have ga := World.grownBy_alloc u (.cells #[.int .i64 0, .slice none 0 0, .slice none 0 0, .slice none 0 0] 27) none
          have X11 := heap_alloc_new u (.cells #[.int .i64 0, .slice none 0 0, .slice none 0 0, .slice none 0 0] 27)
          have AN : Hid _ := And.intro (grown_trans AL.out.1 ga) (And.intro ((ga.block _ (lt_of_block AL.out.2.1) (by simp)).trans AL.out.2.1) (And.intro ((ga.block _ (lt_of_block AL.out.2.2.1) (by simp)).trans AL.out.2.2.1) (Nat.le_trans AL.out.2.2.2 ga.size)))
          have B11 := AL.out.2.2.2
          replace X2 := (ga.block _ (lt_of_block X2) (by simp)).trans X2
          replace X6 := (ga.block _ (lt_of_block X6) (by simp)).trans X6
          clear AL ga hH
          generalize u.alloc (.cells #[.int .i64 0, .slice none 0 0, .slice none 0 0, .slice none 0 0] 27) = u' at *
          generalize u.heap.size = q11 at *
          clear u
          rename World => u
          have AL := AN
          clear AN
          refine hK.out _ _ ⟨(blkWorld AL.out.2.1).1.1, (blkWorld AL.out.2.1).1.2.1, (blkWorld AL.out.2.1).1.2.2.1⟩ (fun hH => ?_)
          clear hK K
          simp only [Act.put, List.setIfInBounds_toArray, List.set_cons_zero, List.set_cons_succ, List.getElem_toArray, List.getElem_cons_succ, List.getElem_cons_zero]
          refine wpAnyH_ready (rs := [5]) (by kernel_rfl) (by simp) ?_
          refine AllReadyH.cons rfl (fun K hK => ?_) ?_
          · skip
            obtain ⟨i0, hi, hz0, hz1, hz2⟩ := info_parts infoYi
            refine step_ofY rfl (wp_appE (.tmp 8) (.tmp 10) 23 rfl (w.heap.size + 2) 3 i0 _ 1 8 Try.underlying23 hi hz0 hz1 hz2 rfl (by decide) q2 rfl X2 B2 a1 l1 c1 (vI x.draws) rfl (by rw [vI_len, EL.out.1]; omega) ((HR.out.1.1.none AL.out.1).lies) (vI_one _) (by unfold maxLen; omega) (by omega) ?_)
            intro d1 k1 u' W5 kg
            have nb1 : q2 ≠ w.heap.size := by omega
            have nb2 : q2 ≠ w.heap.size + 1 := by omega
            have AN : Hid _ := And.intro (grown_into AL.out.1 kg (by omega)) (And.intro ((kg.block _ (lt_of_block AL.out.2.1) (by simp; omega)).trans AL.out.2.1) (And.intro ((kg.block _ (lt_of_block AL.out.2.2.1) (by simp; omega)).trans AL.out.2.2.1) (Nat.le_trans AL.out.2.2.2 kg.size)))
            replace X6 := (kg.block _ (lt_of_block X6) (by have := ty_ne X6 X2 (by decide); simp; omega)).trans X6
            replace X11 := (kg.block _ (lt_of_block X11) (by have := ty_ne X11 X2 (by decide); simp; omega)).trans X11
            clear AL kg hH X2 i0 hi hz0 hz1 hz2
            clear u
            rename World => u
            have AL := AN
            clear AN
            refine hK.out _ _ ⟨(blkWorld AL.out.2.1).1.1, (blkWorld AL.out.2.1).1.2.1, (blkWorld AL.out.2.1).1.2.2.1⟩ (fun hH => ?_)
            clear hK K
            simp only [Act.put, List.setIfInBounds_toArray, List.set_cons_zero, List.set_cons_succ, List.getElem_toArray, List.getElem_cons_succ, List.getElem_cons_zero]
            refine wpAnyH_ready (rs := [9]) (by kernel_rfl) (by simp) ?_
            refine AllReadyH.cons rfl (fun K hK => ?_) ?_
            · skip
              obtain ⟨i0, hi, hz0, hz1, hz2⟩ := info_parts infoYe
              refine step_ofY rfl (wp_appE (.tmp 12) (.tmp 14) 24 rfl (w.heap.size + 2) 66 i0 _ 2 16 Try.underlying24 hi hz0 hz1 hz2 rfl (by decide) q6 rfl X6 B6 a2 l2 c2 (vE x.store) rfl (by rw [vE_len, EL.out.2.1]) ((HR.out.1.2.1.none AL.out.1).lies) (vE_one _) (by unfold maxLen; omega) (by omega) ?_)
              intro d2 k2 u' W9 kg
              have nb1 : q6 ≠ w.heap.size := by omega
              have nb2 : q6 ≠ w.heap.size + 1 := by omega
              have AN : Hid _ := And.intro (grown_into AL.out.1 kg (by omega)) (And.intro ((kg.block _ (lt_of_block AL.out.2.1) (by simp; omega)).trans AL.out.2.1) (And.intro ((kg.block _ (lt_of_block AL.out.2.2.1) (by simp; omega)).trans AL.out.2.2.1) (Nat.le_trans AL.out.2.2.2 kg.size)))
              replace X11 := (kg.block _ (lt_of_block X11) (by have := ty_ne X11 X6 (by decide); simp; omega)).trans X11
              replace W5 := W5.kept kg (row_ne W5 X6 (by decide))
              clear AL kg hH X6 i0 hi hz0 hz1 hz2
              clear u
              rename World => u
              have AL := AN
              clear AN
              refine hK.out _ _ ⟨(blkWorld AL.out.2.1).1.1, (blkWorld AL.out.2.1).1.2.1, (blkWorld AL.out.2.1).1.2.2.1⟩ (fun hH => ?_)
              clear hK K
              simp only [Act.put, List.setIfInBounds_toArray, List.set_cons_zero, List.set_cons_succ, List.getElem_toArray, List.getElem_cons_succ, List.getElem_cons_zero]
              refine wpAnyH_take (i := 10) (v := ?_) rfl (by kernel_rfl) (by kernel_rfl) (by kernel_rfl) (fun _ _ _ h => h) (Or.inl ⟨by rfl, ?_⟩) hH ?_
              rotate_left
              · (intro v hS; go_simp; try with_reducible rfl)
              simp only [Act.put, List.setIfInBounds_toArray, List.set_cons_zero, List.set_cons_succ, List.getElem_toArray, List.getElem_cons_succ, List.getElem_cons_zero]
              have zb := blkWorld X11
              obtain ⟨x0, x1, x2, x3⟩ := zb.1
              have fx0 := zb.2 0
              have fx1 := zb.2 1
              have fx2 := zb.2 2
              have fx3 := zb.2 3
              obtain ⟨mf, kf⟩ := fillWorld (.int .i64 x.ticks) (.slice d1 l1 k1) (.slice d2 l2 k2) (.slice none 0 0) X11
              have nb1 : q11 ≠ w.heap.size := by omega
              have nb2 : q11 ≠ w.heap.size + 1 := by omega
              have FF : Hid _ := And.intro (grown_into AL.out.1 kf (by omega)) (And.intro ((kf.block _ (lt_of_block AL.out.2.1) (by simp; omega)).trans AL.out.2.1) (And.intro ((kf.block _ (lt_of_block AL.out.2.2.1) (by simp; omega)).trans AL.out.2.2.1) (And.intro mf (And.intro B11 (And.intro (W5.kept kf (row_ne W5 X11 (by decide))) (W9.kept kf (row_ne W9 X11 (by decide))))))))
              clear zb mf kf X11 W5 W9 hH
              refine wpAnyH_ready (rs := [12]) (by kernel_rfl) (by simp) ?_
              refine AllReadyH.cons rfl (fun K hK => ?_) AllReadyH.nil
              go_simp
              refine hK.out _ _ ⟨(blkWorld FF.out.2.1).1.1, (blkWorld FF.out.2.1).1.2.1, (blkWorld FF.out.2.1).1.2.2.1⟩ (fun hH => ?_)
              clear hK K hH AL x0 x1 x2 x3 fx0 fx1 fx2 fx3
              simp only [Act.put, List.setIfInBounds_toArray, List.set_cons_zero, List.set_cons_succ, List.getElem_toArray, List.getElem_cons_succ, List.getElem_cons_zero]
              refine wpAnyH_done (by kernel_rfl) ?_ _
              go_wp2
              go_meet
              case rel => exact ⟨q11, d1, k1, d2, k2, rfl, FF.out⟩
            exact AllReadyH.nil
          exact AllReadyH.nil
        exact AllReadyH.nil
      refine AllReadyH.cons rfl (fun K hK => ?_) ?_
      · skip
        go_simp
        have ga := World.grownBy_alloc u (.cells #[.int .i64 0, .slice none 0 0, .slice none 0 0, .slice none 0 0] 27) none
        have X11 := heap_alloc_new u (.cells #[.int .i64 0, .slice none 0 0, .slice none 0 0, .slice none 0 0] 27)
        have AN : Hid _ := And.intro (grown_trans AL.out.1 ga) (And.intro ((ga.block _ (lt_of_block AL.out.2.1) (by simp)).trans AL.out.2.1) (And.intro ((ga.block _ (lt_of_block AL.out.2.2.1) (by simp)).trans AL.out.2.2.1) (Nat.le_trans AL.out.2.2.2 ga.size)))
        have B11 := AL.out.2.2.2
        replace X6 := (ga.block _ (lt_of_block X6) (by simp)).trans X6
        clear AL ga hH
        generalize u.alloc (.cells #[.int .i64 0, .slice none 0 0, .slice none 0 0, .slice none 0 0] 27) = u' at *
        generalize u.heap.size = q11 at *
        clear u
        rename World => u
        have AL := AN
        clear AN
        refine hK.out _ _ ⟨(blkWorld AL.out.2.1).1.1, (blkWorld AL.out.2.1).1.2.1, (blkWorld AL.out.2.1).1.2.2.1⟩ (fun hH => ?_)
        clear hK K
        simp only [Act.put, List.setIfInBounds_toArray, List.set_cons_zero, List.set_cons_succ, List.getElem_toArray, List.getElem_cons_succ, List.getElem_cons_zero]
        refine wpAnyH_ready (rs := [2]) (by kernel_rfl) (by simp) ?_
        refine AllReadyH.cons rfl (fun K hK => ?_) ?_
        · skip
          go_simp
          have ga := World.grownBy_alloc u (.cells #[] 3) none
          have X2 := heap_alloc_new u (.cells #[] 3)
          have AN : Hid _ := And.intro (grown_trans AL.out.1 ga) (And.intro ((ga.block _ (lt_of_block AL.out.2.1) (by simp)).trans AL.out.2.1) (And.intro ((ga.block _ (lt_of_block AL.out.2.2.1) (by simp)).trans AL.out.2.2.1) (Nat.le_trans AL.out.2.2.2 ga.size)))
          have B2 := AL.out.2.2.2
          replace X6 := (ga.block _ (lt_of_block X6) (by simp)).trans X6
          replace X11 := (ga.block _ (lt_of_block X11) (by simp)).trans X11
          clear AL ga hH
          generalize u.alloc (.cells #[] 3) = u' at *
          generalize u.heap.size = q2 at *
          clear u
          rename World => u
          have AL := AN
          clear AN
          refine hK.out _ _ ⟨(blkWorld AL.out.2.1).1.1, (blkWorld AL.out.2.1).1.2.1, (blkWorld AL.out.2.1).1.2.2.1⟩ (fun hH => ?_)
          clear hK K
          simp only [Act.put, List.setIfInBounds_toArray, List.set_cons_zero, List.set_cons_succ, List.getElem_toArray, List.getElem_cons_succ, List.getElem_cons_zero]
          refine wpAnyH_ready (rs := [5]) (by kernel_rfl) (by simp) ?_
          refine AllReadyH.cons rfl (fun K hK => ?_) ?_
          · skip
            obtain ⟨i0, hi, hz0, hz1, hz2⟩ := info_parts infoYi
            refine step_ofY rfl (wp_appE (.tmp 8) (.tmp 10) 23 rfl (w.heap.size + 2) 3 i0 _ 1 8 Try.underlying23 hi hz0 hz1 hz2 rfl (by decide) q2 rfl X2 B2 a1 l1 c1 (vI x.draws) rfl (by rw [vI_len, EL.out.1]; omega) ((HR.out.1.1.none AL.out.1).lies) (vI_one _) (by unfold maxLen; omega) (by omega) ?_)
            intro d1 k1 u' W5 kg
            have nb1 : q2 ≠ w.heap.size := by omega
            have nb2 : q2 ≠ w.heap.size + 1 := by omega
            have AN : Hid _ := And.intro (grown_into AL.out.1 kg (by omega)) (And.intro ((kg.block _ (lt_of_block AL.out.2.1) (by simp; omega)).trans AL.out.2.1) (And.intro ((kg.block _ (lt_of_block AL.out.2.2.1) (by simp; omega)).trans AL.out.2.2.1) (Nat.le_trans AL.out.2.2.2 kg.size)))
            replace X6 := (kg.block _ (lt_of_block X6) (by have := ty_ne X6 X2 (by decide); simp; omega)).trans X6
            replace X11 := (kg.block _ (lt_of_block X11) (by have := ty_ne X11 X2 (by decide); simp; omega)).trans X11
            clear AL kg hH X2 i0 hi hz0 hz1 hz2
            clear u
            rename World => u
            have AL := AN
            clear AN
            refine hK.out _ _ ⟨(blkWorld AL.out.2.1).1.1, (blkWorld AL.out.2.1).1.2.1, (blkWorld AL.out.2.1).1.2.2.1⟩ (fun hH => ?_)
            clear hK K
            simp only [Act.put, List.setIfInBounds_toArray, List.set_cons_zero, List.set_cons_succ, List.getElem_toArray, List.getElem_cons_succ, List.getElem_cons_zero]
            refine wpAnyH_ready (rs := [9]) (by kernel_rfl) (by simp) ?_
            refine AllReadyH.cons rfl (fun K hK => ?_) ?_
            · skip
              obtain ⟨i0, hi, hz0, hz1, hz2⟩ := info_parts infoYe
              refine step_ofY rfl (wp_appE (.tmp 12) (.tmp 14) 24 rfl (w.heap.size + 2) 66 i0 _ 2 16 Try.underlying24 hi hz0 hz1 hz2 rfl (by decide) q6 rfl X6 B6 a2 l2 c2 (vE x.store) rfl (by rw [vE_len, EL.out.2.1]) ((HR.out.1.2.1.none AL.out.1).lies) (vE_one _) (by unfold maxLen; omega) (by omega) ?_)
              intro d2 k2 u' W9 kg
              have nb1 : q6 ≠ w.heap.size := by omega
              have nb2 : q6 ≠ w.heap.size + 1 := by omega
              have AN : Hid _ := And.intro (grown_into AL.out.1 kg (by omega)) (And.intro ((kg.block _ (lt_of_block AL.out.2.1) (by simp; omega)).trans AL.out.2.1) (And.intro ((kg.block _ (lt_of_block AL.out.2.2.1) (by simp; omega)).trans AL.out.2.2.1) (Nat.le_trans AL.out.2.2.2 kg.size)))
              replace X11 := (kg.block _ (lt_of_block X11) (by have := ty_ne X11 X6 (by decide); simp; omega)).trans X11
              replace W5 := W5.kept kg (row_ne W5 X6 (by decide))
              clear AL kg hH X6 i0 hi hz0 hz1 hz2
              clear u
              rename World => u
              have AL := AN
              clear AN
              refine hK.out _ _ ⟨(blkWorld AL.out.2.1).1.1, (blkWorld AL.out.2.1).1.2.1, (blkWorld AL.out.2.1).1.2.2.1⟩ (fun hH => ?_)
              clear hK K
              simp only [Act.put, List.setIfInBounds_toArray, List.set_cons_zero, List.set_cons_succ, List.getElem_toArray, List.getElem_cons_succ, List.getElem_cons_zero]
              refine wpAnyH_take (i := 10) (v := ?_) rfl (by kernel_rfl) (by kernel_rfl) (by kernel_rfl) (fun _ _ _ h => h) (Or.inl ⟨by rfl, ?_⟩) hH ?_
              rotate_left
              · (intro v hS; go_simp; try with_reducible rfl)
              simp only [Act.put, List.setIfInBounds_toArray, List.set_cons_zero, List.set_cons_succ, List.getElem_toArray, List.getElem_cons_succ, List.getElem_cons_zero]
              have zb := blkWorld X11
              obtain ⟨x0, x1, x2, x3⟩ := zb.1
              have fx0 := zb.2 0
              have fx1 := zb.2 1
              have fx2 := zb.2 2
              have fx3 := zb.2 3
              obtain ⟨mf, kf⟩ := fillWorld (.int .i64 x.ticks) (.slice d1 l1 k1) (.slice d2 l2 k2) (.slice none 0 0) X11
              have nb1 : q11 ≠ w.heap.size := by omega
              have nb2 : q11 ≠ w.heap.size + 1 := by omega
              have FF : Hid _ := And.intro (grown_into AL.out.1 kf (by omega)) (And.intro ((kf.block _ (lt_of_block AL.out.2.1) (by simp; omega)).trans AL.out.2.1) (And.intro ((kf.block _ (lt_of_block AL.out.2.2.1) (by simp; omega)).trans AL.out.2.2.1) (And.intro mf (And.intro B11 (And.intro (W5.kept kf (row_ne W5 X11 (by decide))) (W9.kept kf (row_ne W9 X11 (by decide))))))))
              clear zb mf kf X11 W5 W9 hH
              refine wpAnyH_ready (rs := [12]) (by kernel_rfl) (by simp) ?_
              refine AllReadyH.cons rfl (fun K hK => ?_) AllReadyH.nil
              go_simp
              refine hK.out _ _ ⟨(blkWorld FF.out.2.1).1.1, (blkWorld FF.out.2.1).1.2.1, (blkWorld FF.out.2.1).1.2.2.1⟩ (fun hH => ?_)
              clear hK K hH AL x0 x1 x2 x3 fx0 fx1 fx2 fx3
              simp only [Act.put, List.setIfInBounds_toArray, List.set_cons_zero, List.set_cons_succ, List.getElem_toArray, List.getElem_cons_succ, List.getElem_cons_zero]
              refine wpAnyH_done (by kernel_rfl) ?_ _
              go_wp2
              go_meet
              case rel => exact ⟨q11, d1, k1, d2, k2, rfl, FF.out⟩
            exact AllReadyH.nil
          exact AllReadyH.nil
        exact AllReadyH.nil
      exact AllReadyH.nil
    refine AllReadyH.cons rfl (fun K hK => ?_) ?_
    · skip
      go_simp
      have ga := World.grownBy_alloc u (.cells #[.int .i64 0, .slice none 0 0, .slice none 0 0, .slice none 0 0] 27) none
      have X11 := heap_alloc_new u (.cells #[.int .i64 0, .slice none 0 0, .slice none 0 0, .slice none 0 0] 27)
      have AN : Hid _ := And.intro (grown_trans AL.out.1 ga) (And.intro ((ga.block _ (lt_of_block AL.out.2.1) (by simp)).trans AL.out.2.1) (And.intro ((ga.block _ (lt_of_block AL.out.2.2.1) (by simp)).trans AL.out.2.2.1) (Nat.le_trans AL.out.2.2.2 ga.size)))
      have B11 := AL.out.2.2.2
      clear AL ga hH
      generalize u.alloc (.cells #[.int .i64 0, .slice none 0 0, .slice none 0 0, .slice none 0 0] 27) = u' at *
      generalize u.heap.size = q11 at *
      clear u
      rename World => u
      have AL := AN
      clear AN
      refine hK.out _ _ ⟨(blkWorld AL.out.2.1).1.1, (blkWorld AL.out.2.1).1.2.1, (blkWorld AL.out.2.1).1.2.2.1⟩ (fun hH => ?_)
      clear hK K
      simp only [Act.put, List.setIfInBounds_toArray, List.set_cons_zero, List.set_cons_succ, List.getElem_toArray, List.getElem_cons_succ, List.getElem_cons_zero]
      refine wpAnyH_ready (rs := [2, 6]) (by kernel_rfl) (by simp) ?_
      refine AllReadyH.cons rfl (fun K hK => ?_) ?_
      · skip
        go_simp
        have ga := World.grownBy_alloc u (.cells #[] 3) none
        have X2 := heap_alloc_new u (.cells #[] 3)
        have AN : Hid _ := And.intro (grown_trans AL.out.1 ga) (And.intro ((ga.block _ (lt_of_block AL.out.2.1) (by simp)).trans AL.out.2.1) (And.intro ((ga.block _ (lt_of_block AL.out.2.2.1) (by simp)).trans AL.out.2.2.1) (Nat.le_trans AL.out.2.2.2 ga.size)))
        have B2 := AL.out.2.2.2
        replace X11 := (ga.block _ (lt_of_block X11) (by simp)).trans X11
        clear AL ga hH
        generalize u.alloc (.cells #[] 3) = u' at *
        generalize u.heap.size = q2 at *
        clear u
        rename World => u
        have AL := AN
        clear AN
        refine hK.out _ _ ⟨(blkWorld AL.out.2.1).1.1, (blkWorld AL.out.2.1).1.2.1, (blkWorld AL.out.2.1).1.2.2.1⟩ (fun hH => ?_)
        clear hK K
        simp only [Act.put, List.setIfInBounds_toArray, List.set_cons_zero, List.set_cons_succ, List.getElem_toArray, List.getElem_cons_succ, List.getElem_cons_zero]
        refine wpAnyH_ready (rs := [5, 6]) (by kernel_rfl) (by simp) ?_
        refine AllReadyH.cons rfl (fun K hK => ?_) ?_
        · skip
          obtain ⟨i0, hi, hz0, hz1, hz2⟩ := info_parts infoYi
          refine step_ofY rfl (wp_appE (.tmp 8) (.tmp 10) 23 rfl (w.heap.size + 2) 3 i0 _ 1 8 Try.underlying23 hi hz0 hz1 hz2 rfl (by decide) q2 rfl X2 B2 a1 l1 c1 (vI x.draws) rfl (by rw [vI_len, EL.out.1]; omega) ((HR.out.1.1.none AL.out.1).lies) (vI_one _) (by unfold maxLen; omega) (by omega) ?_)
          intro d1 k1 u' W5 kg
          have nb1 : q2 ≠ w.heap.size := by omega
          have nb2 : q2 ≠ w.heap.size + 1 := by omega
          have AN : Hid _ := And.intro (grown_into AL.out.1 kg (by omega)) (And.intro ((kg.block _ (lt_of_block AL.out.2.1) (by simp; omega)).trans AL.out.2.1) (And.intro ((kg.block _ (lt_of_block AL.out.2.2.1) (by simp; omega)).trans AL.out.2.2.1) (Nat.le_trans AL.out.2.2.2 kg.size)))
          replace X11 := (kg.block _ (lt_of_block X11) (by have := ty_ne X11 X2 (by decide); simp; omega)).trans X11
          clear AL kg hH X2 i0 hi hz0 hz1 hz2
          clear u
          rename World => u
          have AL := AN
          clear AN
          refine hK.out _ _ ⟨(blkWorld AL.out.2.1).1.1, (blkWorld AL.out.2.1).1.2.1, (blkWorld AL.out.2.1).1.2.2.1⟩ (fun hH => ?_)
          clear hK K
          simp only [Act.put, List.setIfInBounds_toArray, List.set_cons_zero, List.set_cons_succ, List.getElem_toArray, List.getElem_cons_succ, List.getElem_cons_zero]
          refine wpAnyH_ready (rs := [6]) (by kernel_rfl) (by simp) ?_
          refine AllReadyH.cons rfl (fun K hK => ?_) ?_
          · skip
            go_simp
            have ga := World.grownBy_alloc u (.cells #[] 66) none
            have X6 := heap_alloc_new u (.cells #[] 66)
            have AN : Hid _ := And.intro (grown_trans AL.out.1 ga) (And.intro ((ga.block _ (lt_of_block AL.out.2.1) (by simp)).trans AL.out.2.1) (And.intro ((ga.block _ (lt_of_block AL.out.2.2.1) (by simp)).trans AL.out.2.2.1) (Nat.le_trans AL.out.2.2.2 ga.size)))
            have B6 := AL.out.2.2.2
            replace X11 := (ga.block _ (lt_of_block X11) (by simp)).trans X11
            replace W5 := W5.kept ga (Classical.em _)
            clear AL ga hH
            generalize u.alloc (.cells #[] 66) = u' at *
            generalize u.heap.size = q6 at *
            clear u
            rename World => u
            have AL := AN
            clear AN
            refine hK.out _ _ ⟨(blkWorld AL.out.2.1).1.1, (blkWorld AL.out.2.1).1.2.1, (blkWorld AL.out.2.1).1.2.2.1⟩ (fun hH => ?_)
            clear hK K
            simp only [Act.put, List.setIfInBounds_toArray, List.set_cons_zero, List.set_cons_succ, List.getElem_toArray, List.getElem_cons_succ, List.getElem_cons_zero]
            refine wpAnyH_ready (rs := [9]) (by kernel_rfl) (by simp) ?_
            refine AllReadyH.cons rfl (fun K hK => ?_) ?_
            · skip
              obtain ⟨i0, hi, hz0, hz1, hz2⟩ := info_parts infoYe
              refine step_ofY rfl (wp_appE (.tmp 12) (.tmp 14) 24 rfl (w.heap.size + 2) 66 i0 _ 2 16 Try.underlying24 hi hz0 hz1 hz2 rfl (by decide) q6 rfl X6 B6 a2 l2 c2 (vE x.store) rfl (by rw [vE_len, EL.out.2.1]) ((HR.out.1.2.1.none AL.out.1).lies) (vE_one _) (by unfold maxLen; omega) (by omega) ?_)
              intro d2 k2 u' W9 kg
              have nb1 : q6 ≠ w.heap.size := by omega
              have nb2 : q6 ≠ w.heap.size + 1 := by omega
              have AN : Hid _ := And.intro (grown_into AL.out.1 kg (by omega)) (And.intro ((kg.block _ (lt_of_block AL.out.2.1) (by simp; omega)).trans AL.out.2.1) (And.intro ((kg.block _ (lt_of_block AL.out.2.2.1) (by simp; omega)).trans AL.out.2.2.1) (Nat.le_trans AL.out.2.2.2 kg.size)))
              replace X11 := (kg.block _ (lt_of_block X11) (by have := ty_ne X11 X6 (by decide); simp; omega)).trans X11
              replace W5 := W5.kept kg (row_ne W5 X6 (by decide))
              clear AL kg hH X6 i0 hi hz0 hz1 hz2
              clear u
              rename World => u
              have AL := AN
              clear AN
              refine hK.out _ _ ⟨(blkWorld AL.out.2.1).1.1, (blkWorld AL.out.2.1).1.2.1, (blkWorld AL.out.2.1).1.2.2.1⟩ (fun hH => ?_)
              clear hK K
              simp only [Act.put, List.setIfInBounds_toArray, List.set_cons_zero, List.set_cons_succ, List.getElem_toArray, List.getElem_cons_succ, List.getElem_cons_zero]
              refine wpAnyH_take (i := 10) (v := ?_) rfl (by kernel_rfl) (by kernel_rfl) (by kernel_rfl) (fun _ _ _ h => h) (Or.inl ⟨by rfl, ?_⟩) hH ?_
              rotate_left
              · (intro v hS; go_simp; try with_reducible rfl)
              simp only [Act.put, List.setIfInBounds_toArray, List.set_cons_zero, List.set_cons_succ, List.getElem_toArray, List.getElem_cons_succ, List.getElem_cons_zero]
              have zb := blkWorld X11
              obtain ⟨x0, x1, x2, x3⟩ := zb.1
              have fx0 := zb.2 0
              have fx1 := zb.2 1
              have fx2 := zb.2 2
              have fx3 := zb.2 3
              obtain ⟨mf, kf⟩ := fillWorld (.int .i64 x.ticks) (.slice d1 l1 k1) (.slice d2 l2 k2) (.slice none 0 0) X11
              have nb1 : q11 ≠ w.heap.size := by omega
              have nb2 : q11 ≠ w.heap.size + 1 := by omega
              have FF : Hid _ := And.intro (grown_into AL.out.1 kf (by omega)) (And.intro ((kf.block _ (lt_of_block AL.out.2.1) (by simp; omega)).trans AL.out.2.1) (And.intro ((kf.block _ (lt_of_block AL.out.2.2.1) (by simp; omega)).trans AL.out.2.2.1) (And.intro mf (And.intro B11 (And.intro (W5.kept kf (row_ne W5 X11 (by decide))) (W9.kept kf (row_ne W9 X11 (by decide))))))))
              clear zb mf kf X11 W5 W9 hH
              refine wpAnyH_ready (rs := [12]) (by kernel_rfl) (by simp) ?_
              refine AllReadyH.cons rfl (fun K hK => ?_) AllReadyH.nil
              go_simp
              refine hK.out _ _ ⟨(blkWorld FF.out.2.1).1.1, (blkWorld FF.out.2.1).1.2.1, (blkWorld FF.out.2.1).1.2.2.1⟩ (fun hH => ?_)
              clear hK K hH AL x0 x1 x2 x3 fx0 fx1 fx2 fx3
              simp only [Act.put, List.setIfInBounds_toArray, List.set_cons_zero, List.set_cons_succ, List.getElem_toArray, List.getElem_cons_succ, List.getElem_cons_zero]
              refine wpAnyH_done (by kernel_rfl) ?_ _
              go_wp2
              go_meet
              case rel => exact ⟨q11, d1, k1, d2, k2, rfl, FF.out⟩
            exact AllReadyH.nil
          exact AllReadyH.nil
        refine AllReadyH.cons rfl (fun K hK => ?_) ?_
        · skip
          go_simp
          have ga := World.grownBy_alloc u (.cells #[] 66) none
          have X6 := heap_alloc_new u (.cells #[] 66)
          have AN : Hid _ := And.intro (grown_trans AL.out.1 ga) (And.intro ((ga.block _ (lt_of_block AL.out.2.1) (by simp)).trans AL.out.2.1) (And.intro ((ga.block _ (lt_of_block AL.out.2.2.1) (by simp)).trans AL.out.2.2.1) (Nat.le_trans AL.out.2.2.2 ga.size)))
          have B6 := AL.out.2.2.2
          replace X2 := (ga.block _ (lt_of_block X2) (by simp)).trans X2
          replace X11 := (ga.block _ (lt_of_block X11) (by simp)).trans X11
          clear AL ga hH
          generalize u.alloc (.cells #[] 66) = u' at *
          generalize u.heap.size = q6 at *
          clear u
          rename World => u
          have AL := AN
          clear AN
          refine hK.out _ _ ⟨(blkWorld AL.out.2.1).1.1, (blkWorld AL.out.2.1).1.2.1, (blkWorld AL.out.2.1).1.2.2.1⟩ (fun hH => ?_)
          clear hK K
          simp only [Act.put, List.setIfInBounds_toArray, List.set_cons_zero, List.set_cons_succ, List.getElem_toArray, List.getElem_cons_succ, List.getElem_cons_zero]
          refine wpAnyH_ready (rs := [5]) (by kernel_rfl) (by simp) ?_
          refine AllReadyH.cons rfl (fun K hK => ?_) ?_
          · skip
            obtain ⟨i0, hi, hz0, hz1, hz2⟩ := info_parts infoYi
            refine step_ofY rfl (wp_appE (.tmp 8) (.tmp 10) 23 rfl (w.heap.size + 2) 3 i0 _ 1 8 Try.underlying23 hi hz0 hz1 hz2 rfl (by decide) q2 rfl X2 B2 a1 l1 c1 (vI x.draws) rfl (by rw [vI_len, EL.out.1]; omega) ((HR.out.1.1.none AL.out.1).lies) (vI_one _) (by unfold maxLen; omega) (by omega) ?_)
            intro d1 k1 u' W5 kg
            have nb1 : q2 ≠ w.heap.size := by omega
            have nb2 : q2 ≠ w.heap.size + 1 := by omega
            have AN : Hid _ := And.intro (grown_into AL.out.1 kg (by omega)) (And.intro ((kg.block _ (lt_of_block AL.out.2.1) (by simp; omega)).trans AL.out.2.1) (And.intro ((kg.block _ (lt_of_block AL.out.2.2.1) (by simp; omega)).trans AL.out.2.2.1) (Nat.le_trans AL.out.2.2.2 kg.size)))
            replace X6 := (kg.block _ (lt_of_block X6) (by have := ty_ne X6 X2 (by decide); simp; omega)).trans X6
            replace X11 := (kg.block _ (lt_of_block X11) (by have := ty_ne X11 X2 (by decide); simp; omega)).trans X11
            clear AL kg hH X2 i0 hi hz0 hz1 hz2
            clear u
            rename World => u
            have AL := AN
            clear AN
            refine hK.out _ _ ⟨(blkWorld AL.out.2.1).1.1, (blkWorld AL.out.2.1).1.2.1, (blkWorld AL.out.2.1).1.2.2.1⟩ (fun hH => ?_)
            clear hK K
            simp only [Act.put, List.setIfInBounds_toArray, List.set_cons_zero, List.set_cons_succ, List.getElem_toArray, List.getElem_cons_succ, List.getElem_cons_zero]
            refine wpAnyH_ready (rs := [9]) (by kernel_rfl) (by simp) ?_
            refine AllReadyH.cons rfl (fun K hK => ?_) ?_
            · skip
              obtain ⟨i0, hi, hz0, hz1, hz2⟩ := info_parts infoYe
              refine step_ofY rfl (wp_appE (.tmp 12) (.tmp 14) 24 rfl (w.heap.size + 2) 66 i0 _ 2 16 Try.underlying24 hi hz0 hz1 hz2 rfl (by decide) q6 rfl X6 B6 a2 l2 c2 (vE x.store) rfl (by rw [vE_len, EL.out.2.1]) ((HR.out.1.2.1.none AL.out.1).lies) (vE_one _) (by unfold maxLen; omega) (by omega) ?_)
              intro d2 k2 u' W9 kg
              have nb1 : q6 ≠ w.heap.size := by omega
              have nb2 : q6 ≠ w.heap.size + 1 := by omega
              have AN : Hid _ := And.intro (grown_into AL.out.1 kg (by omega)) (And.intro ((kg.block _ (lt_of_block AL.out.2.1) (by simp; omega)).trans AL.out.2.1) (And.intro ((kg.block _ (lt_of_block AL.out.2.2.1) (by simp; omega)).trans AL.out.2.2.1) (Nat.le_trans AL.out.2.2.2 kg.size)))
              replace X11 := (kg.block _ (lt_of_block X11) (by have := ty_ne X11 X6 (by decide); simp; omega)).trans X11
              replace W5 := W5.kept kg (row_ne W5 X6 (by decide))
              clear AL kg hH X6 i0 hi hz0 hz1 hz2
              clear u
              rename World => u
              have AL := AN
              clear AN
              refine hK.out _ _ ⟨(blkWorld AL.out.2.1).1.1, (blkWorld AL.out.2.1).1.2.1, (blkWorld AL.out.2.1).1.2.2.1⟩ (fun hH => ?_)
              clear hK K
              simp only [Act.put, List.setIfInBounds_toArray, List.set_cons_zero, List.set_cons_succ, List.getElem_toArray, List.getElem_cons_succ, List.getElem_cons_zero]
              refine wpAnyH_take (i := 10) (v := ?_) rfl (by kernel_rfl) (by kernel_rfl) (by kernel_rfl) (fun _ _ _ h => h) (Or.inl ⟨by rfl, ?_⟩) hH ?_
              rotate_left
              · (intro v hS; go_simp; try with_reducible rfl)
              simp only [Act.put, List.setIfInBounds_toArray, List.set_cons_zero, List.set_cons_succ, List.getElem_toArray, List.getElem_cons_succ, List.getElem_cons_zero]
              have zb := blkWorld X11
              obtain ⟨x0, x1, x2, x3⟩ := zb.1
              have fx0 := zb.2 0
              have fx1 := zb.2 1
              have fx2 := zb.2 2
              have fx3 := zb.2 3
              obtain ⟨mf, kf⟩ := fillWorld (.int .i64 x.ticks) (.slice d1 l1 k1) (.slice d2 l2 k2) (.slice none 0 0) X11
              have nb1 : q11 ≠ w.heap.size := by omega
              have nb2 : q11 ≠ w.heap.size + 1 := by omega
              have FF : Hid _ := And.intro (grown_into AL.out.1 kf (by omega)) (And.intro ((kf.block _ (lt_of_block AL.out.2.1) (by simp; omega)).trans AL.out.2.1) (And.intro ((kf.block _ (lt_of_block AL.out.2.2.1) (by simp; omega)).trans AL.out.2.2.1) (And.intro mf (And.intro B11 (And.intro (W5.kept kf (row_ne W5 X11 (by decide))) (W9.kept kf (row_ne W9 X11 (by decide))))))))
              clear zb mf kf X11 W5 W9 hH
              refine wpAnyH_ready (rs := [12]) (by kernel_rfl) (by simp) ?_
              refine AllReadyH.cons rfl (fun K hK => ?_) AllReadyH.nil
              go_simp
              refine hK.out _ _ ⟨(blkWorld FF.out.2.1).1.1, (blkWorld FF.out.2.1).1.2.1, (blkWorld FF.out.2.1).1.2.2.1⟩ (fun hH => ?_)
              clear hK K hH AL x0 x1 x2 x3 fx0 fx1 fx2 fx3
              simp only [Act.put, List.setIfInBounds_toArray, List.set_cons_zero, List.set_cons_succ, List.getElem_toArray, List.getElem_cons_succ, List.getElem_cons_zero]
              refine wpAnyH_done (by kernel_rfl) ?_ _
              go_wp2
              go_meet
              case rel => exact ⟨q11, d1, k1, d2, k2, rfl, FF.out⟩
            exact AllReadyH.nil
          exact AllReadyH.nil
        exact AllReadyH.nil
      refine AllReadyH.cons rfl (fun K hK => ?_) ?_
      · skip
        go_simp
        have ga := World.grownBy_alloc u (.cells #[] 66) none
        have X6 := heap_alloc_new u (.cells #[] 66)
        have AN : Hid _ := And.intro (grown_trans AL.out.1 ga) (And.intro ((ga.block _ (lt_of_block AL.out.2.1) (by simp)).trans AL.out.2.1) (And.intro ((ga.block _ (lt_of_block AL.out.2.2.1) (by simp)).trans AL.out.2.2.1) (Nat.le_trans AL.out.2.2.2 ga.size)))
        have B6 := AL.out.2.2.2
        replace X11 := (ga.block _ (lt_of_block X11) (by simp)).trans X11
        clear AL ga hH
        generalize u.alloc (.cells #[] 66) = u' at *
        generalize u.heap.size = q6 at *
        clear u
        rename World => u
        have AL := AN
        clear AN
        refine hK.out _ _ ⟨(blkWorld AL.out.2.1).1.1, (blkWorld AL.out.2.1).1.2.1, (blkWorld AL.out.2.1).1.2.2.1⟩ (fun hH => ?_)
        clear hK K
        simp only [Act.put, List.setIfInBounds_toArray, List.set_cons_zero, List.set_cons_succ, List.getElem_toArray, List.getElem_cons_succ, List.getElem_cons_zero]
        refine wpAnyH_ready (rs := [2]) (by kernel_rfl) (by simp) ?_
        refine AllReadyH.cons rfl (fun K hK => ?_) ?_
        · skip
          go_simp
          have ga := World.grownBy_alloc u (.cells #[] 3) none
          have X2 := heap_alloc_new u (.cells #[] 3)
          have AN : Hid _ := And.intro (grown_trans AL.out.1 ga) (And.intro ((ga.block _ (lt_of_block AL.out.2.1) (by simp)).trans AL.out.2.1) (And.intro ((ga.block _ (lt_of_block AL.out.2.2.1) (by simp)).trans AL.out.2.2.1) (Nat.le_trans AL.out.2.2.2 ga.size)))
          have B2 := AL.out.2.2.2
          replace X6 := (ga.block _ (lt_of_block X6) (by simp)).trans X6
          replace X11 := (ga.block _ (lt_of_block X11) (by simp)).trans X11
          clear AL ga hH
          generalize u.alloc (.cells #[] 3) = u' at *
          generalize u.heap.size = q2 at *
          clear u
          rename World => u
          have AL := AN
          clear AN
          refine hK.out _ _ ⟨(blkWorld AL.out.2.1).1.1, (blkWorld AL.out.2.1).1.2.1, (blkWorld AL.out.2.1).1.2.2.1⟩ (fun hH => ?_)
          clear hK K
          simp only [Act.put, List.setIfInBounds_toArray, List.set_cons_zero, List.set_cons_succ, List.getElem_toArray, List.getElem_cons_succ, List.getElem_cons_zero]
          refine wpAnyH_ready (rs := [5]) (by kernel_rfl) (by simp) ?_
          refine AllReadyH.cons rfl (fun K hK => ?_) ?_
          · skip
            obtain ⟨i0, hi, hz0, hz1, hz2⟩ := info_parts infoYi
            refine step_ofY rfl (wp_appE (.tmp 8) (.tmp 10) 23 rfl (w.heap.size + 2) 3 i0 _ 1 8 Try.underlying23 hi hz0 hz1 hz2 rfl (by decide) q2 rfl X2 B2 a1 l1 c1 (vI x.draws) rfl (by rw [vI_len, EL.out.1]; omega) ((HR.out.1.1.none AL.out.1).lies) (vI_one _) (by unfold maxLen; omega) (by omega) ?_)
            intro d1 k1 u' W5 kg
            have nb1 : q2 ≠ w.heap.size := by omega
            have nb2 : q2 ≠ w.heap.size + 1 := by omega
            have AN : Hid _ := And.intro (grown_into AL.out.1 kg (by omega)) (And.intro ((kg.block _ (lt_of_block AL.out.2.1) (by simp; omega)).trans AL.out.2.1) (And.intro ((kg.block _ (lt_of_block AL.out.2.2.1) (by simp; omega)).trans AL.out.2.2.1) (Nat.le_trans AL.out.2.2.2 kg.size)))
            replace X6 := (kg.block _ (lt_of_block X6) (by have := ty_ne X6 X2 (by decide); simp; omega)).trans X6
            replace X11 := (kg.block _ (lt_of_block X11) (by have := ty_ne X11 X2 (by decide); simp; omega)).trans X11
            clear AL kg hH X2 i0 hi hz0 hz1 hz2
            clear u
            rename World => u
            have AL := AN
            clear AN
            refine hK.out _ _ ⟨(blkWorld AL.out.2.1).1.1, (blkWorld AL.out.2.1).1.2.1, (blkWorld AL.out.2.1).1.2.2.1⟩ (fun hH => ?_)
            clear hK K
            simp only [Act.put, List.setIfInBounds_toArray, List.set_cons_zero, List.set_cons_succ, List.getElem_toArray, List.getElem_cons_succ, List.getElem_cons_zero]
            refine wpAnyH_ready (rs := [9]) (by kernel_rfl) (by simp) ?_
            refine AllReadyH.cons rfl (fun K hK => ?_) ?_
            · skip
              obtain ⟨i0, hi, hz0, hz1, hz2⟩ := info_parts infoYe
              refine step_ofY rfl (wp_appE (.tmp 12) (.tmp 14) 24 rfl (w.heap.size + 2) 66 i0 _ 2 16 Try.underlying24 hi hz0 hz1 hz2 rfl (by decide) q6 rfl X6 B6 a2 l2 c2 (vE x.store) rfl (by rw [vE_len, EL.out.2.1]) ((HR.out.1.2.1.none AL.out.1).lies) (vE_one _) (by unfold maxLen; omega) (by omega) ?_)
              intro d2 k2 u' W9 kg
              have nb1 : q6 ≠ w.heap.size := by omega
              have nb2 : q6 ≠ w.heap.size + 1 := by omega
              have AN : Hid _ := And.intro (grown_into AL.out.1 kg (by omega)) (And.intro ((kg.block _ (lt_of_block AL.out.2.1) (by simp; omega)).trans AL.out.2.1) (And.intro ((kg.block _ (lt_of_block AL.out.2.2.1) (by simp; omega)).trans AL.out.2.2.1) (Nat.le_trans AL.out.2.2.2 kg.size)))
              replace X11 := (kg.block _ (lt_of_block X11) (by have := ty_ne X11 X6 (by decide); simp; omega)).trans X11
              replace W5 := W5.kept kg (row_ne W5 X6 (by decide))
              clear AL kg hH X6 i0 hi hz0 hz1 hz2
              clear u
              rename World => u
              have AL := AN
              clear AN
              refine hK.out _ _ ⟨(blkWorld AL.out.2.1).1.1, (blkWorld AL.out.2.1).1.2.1, (blkWorld AL.out.2.1).1.2.2.1⟩ (fun hH => ?_)
              clear hK K
              simp only [Act.put, List.setIfInBounds_toArray, List.set_cons_zero, List.set_cons_succ, List.getElem_toArray, List.getElem_cons_succ, List.getElem_cons_zero]
              refine wpAnyH_take (i := 10) (v := ?_) rfl (by kernel_rfl) (by kernel_rfl) (by kernel_rfl) (fun _ _ _ h => h) (Or.inl ⟨by rfl, ?_⟩) hH ?_
              rotate_left
              · (intro v hS; go_simp; try with_reducible rfl)
              simp only [Act.put, List.setIfInBounds_toArray, List.set_cons_zero, List.set_cons_succ, List.getElem_toArray, List.getElem_cons_succ, List.getElem_cons_zero]
              have zb := blkWorld X11
              obtain ⟨x0, x1, x2, x3⟩ := zb.1
              have fx0 := zb.2 0
              have fx1 := zb.2 1
              have fx2 := zb.2 2
              have fx3 := zb.2 3
              obtain ⟨mf, kf⟩ := fillWorld (.int .i64 x.ticks) (.slice d1 l1 k1) (.slice d2 l2 k2) (.slice none 0 0) X11
              have nb1 : q11 ≠ w.heap.size := by omega
              have nb2 : q11 ≠ w.heap.size + 1 := by omega
              have FF : Hid _ := And.intro (grown_into AL.out.1 kf (by omega)) (And.intro ((kf.block _ (lt_of_block AL.out.2.1) (by simp; omega)).trans AL.out.2.1) (And.intro ((kf.block _ (lt_of_block AL.out.2.2.1) (by simp; omega)).trans AL.out.2.2.1) (And.intro mf (And.intro B11 (And.intro (W5.kept kf (row_ne W5 X11 (by decide))) (W9.kept kf (row_ne W9 X11 (by decide))))))))
              clear zb mf kf X11 W5 W9 hH
              refine wpAnyH_ready (rs := [12]) (by kernel_rfl) (by simp) ?_
              refine AllReadyH.cons rfl (fun K hK => ?_) AllReadyH.nil
              go_simp
              refine hK.out _ _ ⟨(blkWorld FF.out.2.1).1.1, (blkWorld FF.out.2.1).1.2.1, (blkWorld FF.out.2.1).1.2.2.1⟩ (fun hH => ?_)
              clear hK K hH AL x0 x1 x2 x3 fx0 fx1 fx2 fx3
              simp only [Act.put, List.setIfInBounds_toArray, List.set_cons_zero, List.set_cons_succ, List.getElem_toArray, List.getElem_cons_succ, List.getElem_cons_zero]
              refine wpAnyH_done (by kernel_rfl) ?_ _
              go_wp2
              go_meet
              case rel => exact ⟨q11, d1, k1, d2, k2, rfl, FF.out⟩
            exact AllReadyH.nil
          exact AllReadyH.nil
        exact AllReadyH.nil
      exact AllReadyH.nil
    exact AllReadyH.nil
  case rest =>
  obtain ⟨q3, d1, k1, d2, k2, rfl, FF⟩ := hcut
  obtain ⟨vs0, hvr, hvl⟩ := HR.out.1.2.2.lies
  have HV : Hid (EvR w x.trace vs0 ∧ Lies w a3 l3 vs0) := ⟨hvr, hvl⟩
  have HQ : Hid (w.heap.size + 2 ≤ q3) := FF.out.2.2.2.2.1
  have L0 : Hid (w.grownBy wc none ∧ wc.heap[w.heap.size]? = some (.cells #[.int .i64 x.ticks, .slice a1 l1 c1, .slice a2 l2 c2, .slice a3 l3 c3] 27 (0, 0)) ∧ wc.heap[w.heap.size + 1]? = some (.cells #[.int .i64 0, .slice none 0 0, .slice none 0 0, .slice none 0 0] 27 (0, 0)) ∧ Mine wc (w.heap.size + 2) q3 ⟨x.ticks, x.draws, x.store, []⟩ d1 l1 k1 d2 l2 k2 none 0 0 [] (w.heap.size + 2)) := by
    obtain ⟨g, r0, r1, rq, hq, o1, o2⟩ := FF.out
    exact ⟨g, r0, r1, rq, OwI0.of o1 (by omega), o2, World.ownsRow_nil _ _ _ _, ⟨rfl, Nat.le_refl _⟩, by have := lt_of_block rq; omega⟩
  have K1 : Hid (l1 ≤ k1 ∧ k1 ≤ 9223372036854775807) := by
    rcases FF.out.2.2.2.2.2.1.2 with ⟨e, h0⟩ | ⟨g, cap, cur, e, hb, hh, hnc, hm, hs, ht⟩
    · cases e; exact ⟨by omega, by omega⟩
    · cases e; unfold maxLen at hm; exact ⟨by omega, by omega⟩
  clear hvr hvl AL0 FF
  go_wp2
  go_loopw [4] (fun i wr => ∃ (j : Nat) (P R : List REvent) (V : List Value) (d3 : Option Addr) (k3 : Nat) (vs : List Value) (hi : Nat), j ≤ l3 ∧ i = .int .i64 j ∧ Hid (w.grownBy wr none ∧ wr.heap[w.heap.size]? = some (.cells #[.int .i64 x.ticks, .slice a1 l1 c1, .slice a2 l2 c2, .slice a3 l3 c3] 27 (0, 0)) ∧ wr.heap[w.heap.size + 1]? = some (.cells #[.int .i64 0, .slice none 0 0, .slice none 0 0, .slice none 0 0] 27 (0, 0)) ∧ Mine wr (w.heap.size + 2) q3 ⟨x.ticks, x.draws, x.store, P⟩ d1 l1 k1 d2 l2 k2 d3 j k3 vs hi ∧ P ++ R = x.trace ∧ P.length = j ∧ vs0.drop (j * 5) = V ∧ EvR w R V)) (fun i _ => l3 - (intOf i).toNat)
  case atStart =>
    exact ⟨0, [], x.trace, vs0, none, 0, [], w.heap.size + 2, Nat.zero_le _, rfl, L0.out.1, L0.out.2.1, L0.out.2.2.1, L0.out.2.2.2, rfl, rfl, rfl, HV.out.1⟩
  case round =>
    obtain ⟨j, P, R, V, d3, k3, vs, hi, hj, rfl, HL⟩ := hrel
    clear L0
    by_cases hlt : j < l3
    · obtain ⟨gw, r0, r1, M, hx, hPl, hV, hR⟩ := HL.out
      clear HL
      obtain ⟨y, r, rfl⟩ : ∃ y r, R = y :: r := by
        cases R with
        | nil => have := congrArg List.length hx; have := EL.out.2.2; simp at *; omega
        | cons y r => exact ⟨y, r, rfl⟩
      obtain ⟨a, l, c, V', rfl, hb, hR'⟩ := hR
      obtain ⟨b, o, rfl, hc⟩ : ∃ b o, a3 = some ⟨b, o, none⟩ ∧ ∀ i v, vs0[i]? = some v → w.cell? ⟨b, o + i, none⟩ = some v := by
        rcases HV.out.2 with h0 | ⟨b, o, e, hc⟩
        · omega
        · exact ⟨b, o, e, hc⟩
      have ge : ∀ i, vs0[j * 5 + i]? = ([Value.int .i64 y.cap, .int .i64 y.a, .int .i64 y.b, .slice a l c, .int .i64 y.res] ++ V')[i]? := fun i => by rw [← hV, List.getElem?_drop]
      have k0' : wr.cell? ⟨b, o + j * 5, none⟩ = some (.int .i64 y.cap) := gw.cell (by have := hc (j * 5) _ (ge 0); exact this) (by simp)
      have k1' : wr.cell? ⟨b, o + j * 5 + 1, none⟩ = some (.int .i64 y.a) := gw.cell (by have := hc (j * 5 + 1) _ (ge 1); rw [← Nat.add_assoc] at this; exact this) (by simp)
      have k2' : wr.cell? ⟨b, o + j * 5 + 2, none⟩ = some (.int .i64 y.b) := gw.cell (by have := hc (j * 5 + 2) _ (ge 2); rw [← Nat.add_assoc] at this; exact this) (by simp)
      have k3' : wr.cell? ⟨b, o + j * 5 + 3, none⟩ = some (.slice a l c) := gw.cell (by have := hc (j * 5 + 3) _ (ge 3); rw [← Nat.add_assoc] at this; exact this) (by simp)
      have k4' : wr.cell? ⟨b, o + j * 5 + 4, none⟩ = some (.int .i64 y.res) := gw.cell (by have := hc (j * 5 + 4) _ (ge 4); rw [← Nat.add_assoc] at this; exact this) (by simp)
      have s3 := (blkWorld r0).1.2.2.2
      have ga := World.grownBy_alloc wr (.cells #[.int .i64 y.cap, .int .i64 y.a, .int .i64 y.b, .slice a l c, .int .i64 y.res] 36) none
      have ba := heap_alloc_new wr (.cells #[.int .i64 y.cap, .int .i64 y.a, .int .i64 y.b, .slice a l c, .int .i64 y.res] 36)
      have hym : y ∈ x.trace := by rw [← hx]; simp
      have hly : l ≤ 1048576 := by have h1 := HR.out.2 y hym; have h2 := hb.1.1; omega
      have L1 : Hid _ := And.intro ((ga.block _ (lt_of_block r0) (by simp)).trans r0) (And.intro ((ga.block _ (lt_of_block r1) (by simp)).trans r1) (And.intro (M.none ga) (And.intro (grown_trans gw ga) ba)))
      have RO : Hid _ := row_old M.2.2.2.1
      have hwr : w.heap.size + 2 ≤ wr.heap.size ∧ hi ≤ wr.heap.size ∧ q3 < wr.heap.size ∧ w.heap.size + 2 ≤ q3 := by
        have h1 := lt_of_block M.1
        have h2 := HQ.out
        exact ⟨by omega, M.2.2.2.2.2, h1, h2⟩
      have LB : Hid (RdB w a l y.lit ∧ EvR w r V' ∧ vs0.drop (j * 5) = [Value.int .i64 y.cap, .int .i64 y.a, .int .i64 y.b, .slice a l c, .int .i64 y.res] ++ V' ∧ P ++ y :: r = x.trace ∧ P.length = j) := ⟨hb, hR', hV, hx, hPl⟩
      clear gw r0 r1 M hx hPl hV hR' hb ge hc ga ba hym
      go_upto_region 6 with fail
      clear k0' k1' k2' k3' k4' s3
      generalize wr.alloc (.cells #[.int .i64 y.cap, .int .i64 y.a, .int .i64 y.b, .slice a l c, .int .i64 y.res] 36) = u at *
      generalize wr.heap.size = n at *
      obtain ⟨r0, r1, M, gu, bE⟩ := L1.out
      have hnu := lt_of_block bE
      have ge := World.grownBy_alloc u (.cells #[] 5) none
      have be := heap_alloc_new u (.cells #[] 5)
      have s3 := ge.cell (blkEvent bE).1.2.2.2.1 (by simp)
      have LL : Hid (Lies (u.alloc (.cells #[] 5)) a l (vB y.lit)) := ((LB.out.1.none gu).none ge).lies
      have NB : Hid (_ = some (Obj.cells #[] 5 (0, 0))) := be
      have GE : Hid (u.grownBy (u.alloc (.cells #[] 5)) none) := ge
      obtain ⟨i0, hi0, hz0, hz1, hz2⟩ := info_parts infoYb
      have hvl : (vB y.lit).length = l * 1 := by rw [vB_len, LB.out.1.1.1, Nat.mul_one]
      have hl1 : l ≤ maxLen := by unfold maxLen; omega
      have hl2 : l * 1 ≤ 140737488355328 := by omega
      have hnu2 : n ≤ u.heap.size := by omega
      clear r0 r1 M gu bE ge be
      go_wp2_with (at_builtin; go_must (refine wpList_appE rfl (.tmp 29) (.tmp 31) 22 rfl n 5 i0 _ 1 1 Try.underlying22 hi0 hz0 hz1 hz2 rfl (by decide) u.heap.size rfl NB.out hnu2 a l c (vB y.lit) rfl hvl LL.out (vB_one _) hl1 hl2 ?_))
      intro d k z ho hg
      obtain ⟨r0, r1, M, gu, bE⟩ := L1.out
      have gz := grown_into GE.out hg (Nat.le_refl _)
      replace bE := (gz.block _ (lt_of_block bE) (by simp)).trans bE
      replace r0 := (gz.block _ (lt_of_block r0) (by simp)).trans r0
      replace r1 := (gz.block _ (lt_of_block r1) (by simp)).trans r1
      replace M := M.none gz
      have x3 := (blkEvent bE).1.2.2.2.1
      have f3 := (blkEvent bE).2 3
      have kk := grown_setCell z n 3 (.slice d l k)
      have bE2 := heap_setCell_same _ n 3 _ _ (.slice d l k) bE
      have L2 : Hid _ := And.intro ((kk.block _ (lt_of_block r0) (by simp; omega)).trans r0) (And.intro ((kk.block _ (lt_of_block r1) (by simp; omega)).trans r1) (And.intro (mine_keep M kk bE RO.out) (And.intro (grown_into (grown_trans gu gz) kk (by omega)) (And.intro bE2 (ho.kept kk (row_ne ho bE (by decide)))))))
      clear r0 r1 M gu bE L1 gz GE NB LL s3 ho hg kk bE2 i0 hi0 hz0 hz1 hz2 hvl hl1 hl2 hnu2 hnu RO
      go_upto_region 7 with fail
      clear x3 f3
      generalize z.setCell ⟨n, 3, none⟩ (.slice d l k) = z2 at *
      obtain ⟨r0, r1, M, gz, bE, ho⟩ := L2.out
      have hnz := lt_of_block bE
      have q0 := (blkWorld M.1).1.2.2.2
      obtain ⟨x0, x1, x2, x3, x4⟩ := (blkEvent bE).1
      have ga := World.grownBy_alloc z2 (.cells #[.int .i64 y.cap, .int .i64 y.a, .int .i64 y.b, .slice d l k, .int .i64 y.res] 36) none
      have ba := heap_alloc_new z2 (.cells #[.int .i64 y.cap, .int .i64 y.a, .int .i64 y.b, .slice d l k, .int .i64 y.res] 36)
      have HC : Hid (∀ j w, ([.int .i64 y.cap, .int .i64 y.a, .int .i64 y.b, .slice d l k, .int .i64 y.res] : List Value)[j]? = some w → (z2.alloc (.cells #[.int .i64 y.cap, .int .i64 y.a, .int .i64 y.b, .slice d l k, .int .i64 y.res] 36)).cell? ((⟨z2.heap.size, 0, none⟩ : Addr).add j) = some w) := fun j w hj => by
        rw [Go.WideShapes.add_plain, Nat.zero_add, cell_of_row _ z2.heap.size j _ 36 (0, 0) ba]
        match j, hj with
        | 0, hj => exact hj
        | 1, hj => exact hj
        | 2, hj => exact hj
        | 3, hj => exact hj
        | 4, hj => exact hj
        | j + 5, hj => simp at hj
      have H1 : Hid (∀ w ∈ ([.int .i64 y.cap, .int .i64 y.a, .int .i64 y.b, .slice d l k, .int .i64 y.res] : List Value), w.oneCell' = true) := fun w hw => by
        simp only [List.mem_cons, List.not_mem_nil, or_false] at hw
        rcases hw with rfl | rfl | rfl | rfl | rfl <;> rfl
      have L3 : Hid _ := And.intro ((ga.block _ (lt_of_block r0) (by simp)).trans r0) (And.intro ((ga.block _ (lt_of_block r1) (by simp)).trans r1) (And.intro (M.none ga) (And.intro (grown_trans gz ga) (And.intro (ho.kept ga (Classical.em _)) (row_old M.2.2.2.1)))))
      have hBB : w.heap.size + 2 ≤ (z2.alloc (.cells #[.int .i64 y.cap, .int .i64 y.a, .int .i64 y.b, .slice d l k, .int .i64 y.res] 36)).heap.size := by have := ga.size; omega
      have hj1 : j + 1 ≤ maxLen := by unfold maxLen; omega
      have hj2 : (j + 1) * 56 ≤ 140737488355328 := by omega
      obtain ⟨i0, hi0, hz0, hz1, hz2⟩ := info_parts infoYv
      clear r0 r1 M gz bE ho ga ba
      go_wp2_with (at_builtin; go_must (refine wpList_append_own _ rfl (.tmp 35) (.tmp 37) 25 rfl (w.heap.size + 2) 36 i0 _ 5 56 Try.underlying25 hi0 hz0 hz1 hz2 rfl (by decide) (.slice d3 j k3) j vs rfl L3.out.2.2.1.2.2.2.1 ⟨z2.heap.size, 0, none⟩ 1 1 _ rfl rfl HC.out H1.out hj1 hj2 hBB ?_))
      intro vv w4 ho4 hg4 _
      obtain ⟨d4, k4, rfl⟩ := row_slice ho4
      obtain ⟨r0, r1, M, gz, ho, hro⟩ := L3.out
      have ap := mine_app (ev := ⟨y.cap, y.a, y.b, y.lit, y.res⟩) M hg4 ho4 (Go.Joins.ownsRow_le ho (base' := hi) (by omega)) LB.out.1.2.1 hly
      have nr : ∀ m : Nat, (∃ cur, (z2.alloc (.cells #[.int .i64 y.cap, .int .i64 y.a, .int .i64 y.b, .slice d l k, .int .i64 y.res] 36)).heap[m]? = some (.cells cur 27 (0, 0))) → some m ≠ (Value.slice d3 j k3).ownBlock := fun m ⟨cur, hm⟩ e => by
        rcases M.2.2.2.1.2 with ⟨e1, -⟩ | ⟨g', cap, cur', e1, -, hg, -⟩
        · rw [e1] at e; cases e
        · rw [e1] at e
          have : g' = m := by have := Option.some.inj e; simpa using this.symm
          subst this
          rw [hm] at hg; cases hg
      have r0' := (hg4.block _ (lt_of_block r0) (nr _ ⟨_, r0⟩)).trans r0
      have r1' := (hg4.block _ (lt_of_block r1) (nr _ ⟨_, r1⟩)).trans r1
      have g4 : w.grownBy w4 none := ⟨hg4.os.trans gz.os, hg4.tape.trans gz.tape, hg4.output.trans gz.output, Nat.le_trans gz.size hg4.size, fun i hi _ => (hg4.block i (Nat.lt_of_lt_of_le hi gz.size) (fun e => by
        have := (World.ownsRow.lt M.2.2.2.1 i e.symm).1
        omega)).trans (gz.block i hi (by simp))⟩
      have kq := grown_setCell w4 q3 3 (.slice d4 (j + 1) k4)
      have q5 := heap_setCell_same _ q3 3 _ _ (.slice d4 (j + 1) k4) ap.1
      have ow5 := ow_kept ap.2 kq ap.1
      have HG : Hid _ := And.intro (grown_into g4 kq (by omega)) (And.intro ((kq.block _ (lt_of_block r0') (by simp; omega)).trans r0') (And.intro ((kq.block _ (lt_of_block r1') (by simp; omega)).trans r1') (And.intro (And.intro q5 ow5) LB.out)))
      have y3 := (blkWorld ap.1).1.2.2.2
      have f3 := (blkWorld ap.1).2 3
      clear r0 r1 M gz ho hro ap nr r0' r1' g4 kq q5 ow5 ho4 hg4 L3 L2 HC H1 hBB hj1 hj2 i0 hi0 hz0 hz1 hz2 q0 x0 x1 x2 x3 x4
      go_wp2
      go_roundw
      case rel =>
        obtain ⟨h1, h2, h3, h4, h5, h6, h7, h8, h9⟩ := HG.out
        refine ⟨j + 1, P ++ [y], r, V', _, _, _, _, by omega, by go_num, h1, h2, h3, h4, by simpa using h8, by simp [h9], ?_, h6⟩
        rw [show (j + 1) * 5 = j * 5 + 5 by omega, ← List.drop_drop, h7]
        rfl
      case measure => simp [intOf]; omega
    · obtain rfl : j = l3 := by omega
      obtain ⟨gw, r0, r1, M, hx, hPl, hV, hR⟩ := HL.out
      have hR0 : R = [] := by
        have := congrArg List.length hx
        have := EL.out.2.2
        simp at *
        exact List.eq_nil_of_length_eq_zero (by omega)
      subst hR0
      rw [List.append_nil] at hx
      subst hx
      have s3 := (blkWorld r0).1.2.2.2
      obtain ⟨y0, y1, y2, y3⟩ := (blkWorld M.1).1
      obtain ⟨⟨x0, x1, x2, x3⟩, hfx⟩ := blkWorld r1
      have fx0 := hfx 0
      have fx1 := hfx 1
      have fx2 := hfx 2
      have fx3 := hfx 3
      obtain ⟨mf, kf⟩ := fillWorld (.int .i64 x.ticks) (.slice d1 l1 k1) (.slice d2 l2 k2) (.slice d3 j k3) r1
      have FQ : Hid _ := And.intro mf (And.intro (grown_into gw kf (by omega)) (ow_low (ow_kept (And.intro M.2.1 (And.intro M.2.2.1 (And.intro M.2.2.2.1 (And.intro M.2.2.2.2.1 M.2.2.2.2.2)))) kf r1) (B' := w.heap.size) (by omega)))
      clear gw r0 r1 M hV hR hfx mf kf HL
      go_wp2
      (try simp only [Exit.inBlock, Exit.then])
      refine bodyPost_ret (results_cell_row (P := Try.prog) Try.results37 _ _ _ _ _ _ _ rfl FQ.out.1 Try.underlying27 rfl (by kernel_rfl)) rfl ?_
      exact ⟨d1, k1, d2, k2, d3, k3, rfl, ⟨vs, hi, FQ.out.2.2⟩, FQ.out.2.1, K1.out.1, K1.out.2⟩
end Go.Proofs.Ytccnninmkfhejaa.By
