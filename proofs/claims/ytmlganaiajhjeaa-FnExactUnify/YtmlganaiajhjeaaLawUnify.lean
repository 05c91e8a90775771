/-
  The walk of laws.FnExactUnify. No statement is proved here.
-/
import Derived.Test.YtmlganaiajhjeaaUZ
import Derived.Test.YtmlganaiajhjeaaUMk
import Derived.Test.YtmlganaiajhjeaaUH
import Derived.Test.YtmlganaiajhjeaaUC
import Derived.Test.YtmlganaiajhjeaaLawBindsOk
namespace Go.Proofs.Ytmlganaiajhjeaa.By
open Go.RowKit
set_option linter.unusedVariables false
set_option linter.unusedSimpArgs false

theorem wfB_size : ∀ {L : B}, wfB L → L.size ≤ 100 * L.len := by
  intro L
  induction L with
  | nil => intro _; simp [B.size, B.len]
  | cons v k n d r ih =>
    intro h
    obtain ⟨h0, h1, h2, h3, h4⟩ := h
    have := ih h4
    have := okT_size h1
    simp only [B.size, B.len]
    omega
theorem uniV_wf {f L' : B} {s t : Int × Int × F} (h : uniV f s t = some L') : wfB L' := by
  unfold uniV at h
  split at h
  rotate_left
  · cases h
  rename_i hb
  simp only [Bool.and_eq_true] at hb
  obtain ⟨hb, o1, o2⟩ := hb
  have hwf := bindsV_wf hb
  obtain ⟨s0, hs⟩ := unV_some (a := s) (b := t) hwf.1 (gT_ok o1) (gT_ok o2)
  cases hu : unV f s t with
  | none => rw [hu] at h; cases h
  | some M =>
    rw [hu] at h hs
    simp only [] at h
    split at h
    · cases h
      exact (un_wf s0 f _ _ _ hwf.1 (gT_ok o1) (gT_ok o2) hs).1
    · cases h
/-- One form for both ends. -/
def UniA (w : World) (tb : Bool) (LL : B) (e : Ending) (u : World) : Prop :=
  ∃ (a' : Option Addr) (c' : Nat) (bs : List Nat), e = .returned (.tuple #[.slice a' LL.len c', .bool tb]) ∧ w.grownBy u none ∧ NewB w u 25 44 a' LL.len c' LL bs
theorem UnA.uni {w u : World} {R : Option B} {e : Ending} (h : UnA w R e u) : UniA w R.isSome (R.getD .nil) e u := by
  obtain ⟨hg, he⟩ := h
  cases R with
  | none => exact ⟨none, 0, [], he, hg, NewB.nil _ _ _ _⟩
  | some L' =>
    obtain ⟨a, c, bs, he, hN, _⟩ := he
    exact ⟨a, c, bs, he, hg, hN⟩
theorem uniV_size (f : B) (s t : Int × Int × F) : ((uniV f s t).getD .nil).size ≤ 10000000 ∧ ((uniV f s t).getD .nil).len ≤ 100000 := by
  cases h : uniV f s t with
  | none => simp [B.size, B.len]
  | some L' =>
    have h1 := uniV_wf h
    have h2 := wfB_size h1
    have h3 := wfB_len h1
    simp only [Option.getD_some]
    omega

set_option maxRecDepth 8000 in
set_option maxHeartbeats 16000000 in
theorem lawUnify (f : B) (a0 : Option Addr) (l0 c0 : Nat) (d : F) (k n : Int) (a : Option Addr) (l c : Nat) (d' : F) (k' n' : Int) (a' : Option Addr) (l' c' : Nat) (w : World) (hB : SlB w a0 l0 f) (h : SlF w a l d) (h' : SlF w a' l' d') :
    Calls Try.prog 7 #[.slice a0 l0 c0, .agg #[.int .i64 k, .int .i64 n, .slice a l c], .agg #[.int .i64 k', .int .i64 n', .slice a' l' c']] w fun e u => e = .returned (.bool true) ∧ w.grownBy u none := by
  obtain ⟨b0, b1, bsz⟩ := alloc2_blocks w (.cells #[.int .i64 k, .int .i64 n, .slice a l c] 48) (.cells #[.int .i64 k', .int .i64 n', .slice a' l' c'] 48)
  have g0 := grown_alloc (grown_alloc (World.grownBy.refl w none) (.cells #[.int .i64 k, .int .i64 n, .slice a l c] 48)) (.cells #[.int .i64 k', .int .i64 n', .slice a' l' c'] 48)
  have C1 : Hid _ := szBs f a0 l0 c0 1048576 _ (hB.none g0) (by omega) (by omega)
  by_cases hs : (f.size : Int) ≤ 1048576
  rotate_left
  · have e1 : szVB f 1048576 = -1 := if_neg hs
    rw [e1] at C1
    have G0 : Hid (w.grownBy _ none) := g0
    clear g0 b0 b1 bsz e1 h h' hs hB
    go_enter Try.func7, Try.ntmps7
    go_wp2_with fail
    refine Calls.mono C1.out ?_
    rintro e w1 ⟨rfl, hg⟩
    have G1 : Hid (w.grownBy w1 none) := grown_trans G0.out hg
    clear hg G0 C1
    simp only []
    go_wp2
    go_ret
    exact ⟨rfl, G1.out⟩
  have e1 : szVB f 1048576 = 1048576 - f.size := if_pos hs
  rw [e1] at C1
  have hpos : ¬ ((1048576 : Int) - f.size < 0) := by omega
  have hfs : f.size ≤ 1048576 := by omega
  have hfl := f.len_le
  have HD : Hid (SlF w a l d ∧ SlB w a0 l0 f ∧ SlF w a' l' d') := ⟨h, hB, h'⟩
  have L0 : Hid (w.grownBy _ none ∧ _ = some (Obj.cells #[.int .i64 k, .int .i64 n, .slice a l c] 48) ∧ _ = some (Obj.cells #[.int .i64 k', .int .i64 n', .slice a' l' c'] 48)) := ⟨g0, b0, b1⟩
  clear g0 b0 b1 bsz e1 h h' hs hB
  go_enter Try.func7, Try.ntmps7
  go_wp2_with fail
  refine Calls.mono C1.out ?_
  rintro e w1 ⟨rfl, hg⟩
  obtain ⟨g0, b0, b0'⟩ := L0.out
  have g1 := grown_trans g0 hg
  have b1 := (hg.block _ (lt_of_block b0) (by simp)).trans b0
  have b2 := (hg.block _ (lt_of_block b0') (by simp)).trans b0'
  clear hg L0 C1 g0 b0 b0'
  generalize ep : w.heap.size = p at *
  simp only []
  have L1 : Hid ((w.grownBy w1 none) ∧ (w1.heap[p]? = some (Obj.cells #[.int .i64 k, .int .i64 n, .slice a l c] 48)) ∧ (w1.heap[(p + 1)]? = some (Obj.cells #[.int .i64 k', .int .i64 n', .slice a' l' c'] 48)) ∧ (w.heap.size = p)) := ⟨g1, b1, b2, ep⟩
  clear g1 b1 b2 ep
  have C2 : Hid _ := szTr d k n a l c ((1048576 : Int) - f.size) w1 ((HD.out.1).none (L1.out.1)) (by omega) (by omega)
  generalize hq1 : (1048576 : Int) - f.size = q1 at *
  by_cases hs2 : (d.size : Int) ≤ q1
  rotate_left
  · have e1 : szV d q1 = -1 := if_neg hs2
    rw [e1] at C2
    clear e1 hs2
    obtain ⟨⟨x0_0, x0_1, x0_2⟩, -⟩ := three (L1.out.2.1)
    go_wp2_with fail
    refine Calls.mono (C2.out) ?_
    rintro e w2 ⟨rfl, hg⟩
    have L2 : Hid ((w.grownBy w2 none) ∧ (w2.heap[p]? = some (Obj.cells #[.int .i64 k, .int .i64 n, .slice a l c] 48)) ∧ (w2.heap[(p + 1)]? = some (Obj.cells #[.int .i64 k', .int .i64 n', .slice a' l' c'] 48)) ∧ (w.heap.size = p)) := ⟨grown_trans (L1.out.1) hg, (World.grownBy.block hg _ (lt_of_block (L1.out.2.1)) (by simp)).trans (L1.out.2.1), (World.grownBy.block hg _ (lt_of_block (L1.out.2.2.1)) (by simp)).trans (L1.out.2.2.1), L1.out.2.2.2⟩
    clear L1 x0_0 x0_1 x0_2
    clear hg
    simp only []
    clear C2
    go_wp2
    go_ret
    exact ⟨rfl, L2.out.1⟩
  have e1 : szV d q1 = q1 - d.size := if_pos hs2
  rw [e1] at C2
  have hpos2 : ¬ (q1 - d.size < 0) := by omega
  have hdshpos2 : d.size ≤ 1048576 := by omega
  clear e1 hs2
  obtain ⟨⟨x1_0, x1_1, x1_2⟩, -⟩ := three (L1.out.2.1)
  go_wp2_with fail
  refine Calls.mono (C2.out) ?_
  rintro e w2 ⟨rfl, hg⟩
  have L3 : Hid ((w.grownBy w2 none) ∧ (w2.heap[p]? = some (Obj.cells #[.int .i64 k, .int .i64 n, .slice a l c] 48)) ∧ (w2.heap[(p + 1)]? = some (Obj.cells #[.int .i64 k', .int .i64 n', .slice a' l' c'] 48)) ∧ (w.heap.size = p)) := ⟨grown_trans (L1.out.1) hg, (World.grownBy.block hg _ (lt_of_block (L1.out.2.1)) (by simp)).trans (L1.out.2.1), (World.grownBy.block hg _ (lt_of_block (L1.out.2.2.1)) (by simp)).trans (L1.out.2.2.1), L1.out.2.2.2⟩
  clear L1 x1_0 x1_1 x1_2
  clear hg
  simp only []
  clear C2
  have C3 : Hid _ := szTr d' k' n' a' l' c' (q1 - (d.size : Int)) w2 ((HD.out.2.2).none (L3.out.1)) (by omega) (by omega)
  generalize hq2 : q1 - (d.size : Int) = q2 at *
  by_cases hs2 : (d'.size : Int) ≤ q2
  rotate_left
  · have e1 : szV d' q2 = -1 := if_neg hs2
    rw [e1] at C3
    clear e1 hs2
    obtain ⟨⟨x2_0, x2_1, x2_2⟩, -⟩ := three (L3.out.2.2.1)
    go_wp2_with fail
    refine Calls.mono (C3.out) ?_
    rintro e w3 ⟨rfl, hg⟩
    have L4 : Hid ((w.grownBy w3 none) ∧ (w3.heap[p]? = some (Obj.cells #[.int .i64 k, .int .i64 n, .slice a l c] 48)) ∧ (w3.heap[(p + 1)]? = some (Obj.cells #[.int .i64 k', .int .i64 n', .slice a' l' c'] 48)) ∧ (w.heap.size = p)) := ⟨grown_trans (L3.out.1) hg, (World.grownBy.block hg _ (lt_of_block (L3.out.2.1)) (by simp)).trans (L3.out.2.1), (World.grownBy.block hg _ (lt_of_block (L3.out.2.2.1)) (by simp)).trans (L3.out.2.2.1), L3.out.2.2.2⟩
    clear L3 x2_0 x2_1 x2_2
    clear hg
    simp only []
    clear C3
    go_wp2
    go_ret
    exact ⟨rfl, L4.out.1⟩
  have e1 : szV d' q2 = q2 - d'.size := if_pos hs2
  rw [e1] at C3
  have hpos3 : ¬ (q2 - d'.size < 0) := by omega
  have hdshpos3 : d'.size ≤ 1048576 := by omega
  clear e1 hs2
  obtain ⟨⟨x3_0, x3_1, x3_2⟩, -⟩ := three (L3.out.2.2.1)
  go_wp2_with fail
  refine Calls.mono (C3.out) ?_
  rintro e w3 ⟨rfl, hg⟩
  have L5 : Hid ((w.grownBy w3 none) ∧ (w3.heap[p]? = some (Obj.cells #[.int .i64 k, .int .i64 n, .slice a l c] 48)) ∧ (w3.heap[(p + 1)]? = some (Obj.cells #[.int .i64 k', .int .i64 n', .slice a' l' c'] 48)) ∧ (w.heap.size = p)) := ⟨grown_trans (L3.out.1) hg, (World.grownBy.block hg _ (lt_of_block (L3.out.2.1)) (by simp)).trans (L3.out.2.1), (World.grownBy.block hg _ (lt_of_block (L3.out.2.2.1)) (by simp)).trans (L3.out.2.2.1), L3.out.2.2.2⟩
  clear L3 x3_0 x3_1 x3_2
  clear hg
  simp only []
  clear C3
  clear hpos
  generalize hq3 : q2 - (d'.size : Int) = q3 at *
  have hszU := uniV_size f (k, n, d) (k', n', d')
  have CSp : Hid (∀ (a5 : Option Addr) (c5 : Nat) (a6 : Option Addr) (c6 : Nat) (a7 : Option Addr) (c7 : Nat) (u : World), SlB u a5 l0 f → l0 ≤ c5 → SlF u a6 l d → SlF u a7 l' d' → Calls Try.prog 32 #[.slice a5 l0 c5, .agg #[.int .i64 k, .int .i64 n, .slice a6 l c6], .agg #[.int .i64 k', .int .i64 n', .slice a7 l' c7]] u fun e v => UniA u (uniV f (k, n, d) (k', n', d')).isSome ((uniV f (k, n, d) (k', n', d')).getD .nil) e v) := fun a5 c5 a6 c6 a7 c7 u h5 h7 h6 h8 => (specUnifyT f a5 l0 c5 d d' k n k' n' a6 a7 l c6 l' c7 u h5 h7 h6 h8).mono (fun _ _ h => h.uni)
  have CIm : Hid (∀ (a5 : Option Addr) (c5 : Nat) (a6 : Option Addr) (c6 : Nat) (a7 : Option Addr) (c7 : Nat) (u : World), SlBD u 25 44 a5 l0 f → SlD u 25 a6 l d → SlD u 25 a7 l' d' → Calls Try.prog 17 #[.slice a5 l0 c5, .agg #[.int .i64 k, .int .i64 n, .slice a6 l c6], .agg #[.int .i64 k', .int .i64 n', .slice a7 l' c7]] u fun e v => UniA u (uniV f (k, n, d) (k', n', d')).isSome ((uniV f (k, n, d) (k', n', d')).getD .nil) e v) := fun a5 c5 a6 c6 a7 c7 u h5 h6 h8 => (implUnifyT f a5 l0 c5 d d' k n k' n' a6 a7 l c6 l' c7 u h5 h6 h8).mono (fun _ _ h => h.uni)
  generalize (uniV f (k, n, d) (k', n', d')).getD .nil = LL at *
  generalize (uniV f (k, n, d) (k', n', d')).isSome = tb at *
  simp only [UniA] at CSp CIm
  have htb : (tb != tb) = false := by cases tb <;> rfl
  go_wp2_with fail
  have L6 : Hid ((w.grownBy w3.drew none) ∧ (w3.drew.heap[p]? = some (Obj.cells #[.int .i64 k, .int .i64 n, .slice a l c] 48)) ∧ (w3.drew.heap[(p + 1)]? = some (Obj.cells #[.int .i64 k', .int .i64 n', .slice a' l' c'] 48)) ∧ (w.heap.size = p)) := ⟨grown_trans (L5.out.1) (grown_drew (World.grownBy.refl w3 none)), (World.grownBy.block (grown_drew (World.grownBy.refl w3 none)) _ (lt_of_block (L5.out.2.1)) (by simp)).trans (L5.out.2.1), (World.grownBy.block (grown_drew (World.grownBy.refl w3 none)) _ (lt_of_block (L5.out.2.2.1)) (by simp)).trans (L5.out.2.2.1), L5.out.2.2.2⟩
  clear L5
  refine wp_region_held_drew (S := (fun t0 => Tri p 0 (.int .i64 k) (.int .i64 n) (.slice a l c) t0 ∧ Tri (p + 1) 0 (.int .i64 k') (.int .i64 n') (.slice a' l' c') t0)) (by kernel_rfl) ⟨(three (L6.out.2.1)).1, (three (L6.out.2.2.1)).1⟩ (fun hH => ?_)
  generalize w3.drew = t0 at *
  simp only [List.size_toArray, List.length_cons, List.length_nil, Nat.reduceAdd, Array.replicate, List.replicate]
  refine wpAnyH_take (i := 0) (v := ?_) rfl (by kernel_rfl) (by kernel_rfl) (by kernel_rfl) (fun _ _ _ h => h) (Or.inl ⟨by rfl, ?_⟩) hH ?_
  rotate_left
  · (intro v hS; obtain ⟨⟨s00, s01, s02⟩, ⟨s10, s11, s12⟩⟩ := hS; go_simp; try with_reducible rfl)
  simp only [Act.put, List.setIfInBounds_toArray, List.set_cons_zero, List.set_cons_succ, List.getElem_toArray, List.getElem_cons_succ, List.getElem_cons_zero]
  refine wpAnyH_take (i := 2) (v := ?_) rfl (by kernel_rfl) (by kernel_rfl) (by kernel_rfl) (fun _ _ _ h => h) (Or.inl ⟨by rfl, ?_⟩) hH ?_
  rotate_left
  · (intro v hS; obtain ⟨⟨s00, s01, s02⟩, ⟨s10, s11, s12⟩⟩ := hS; go_simp; try with_reducible rfl)
  simp only [Act.put, List.setIfInBounds_toArray, List.set_cons_zero, List.set_cons_succ, List.getElem_toArray, List.getElem_cons_succ, List.getElem_cons_zero]
  refine wpAnyH_take (i := 4) (v := ?_) rfl (by kernel_rfl) (by kernel_rfl) (by kernel_rfl) (fun _ _ _ h => h) (Or.inl ⟨by rfl, ?_⟩) hH ?_
  rotate_left
  · (intro v hS; obtain ⟨⟨s00, s01, s02⟩, ⟨s10, s11, s12⟩⟩ := hS; go_simp; try with_reducible rfl)
  simp only [Act.put, List.setIfInBounds_toArray, List.set_cons_zero, List.set_cons_succ, List.getElem_toArray, List.getElem_cons_succ, List.getElem_cons_zero]
  refine wpAnyH_ready (rs := [1]) (by kernel_rfl) (by simp) ?_
  refine AllReadyH.cons rfl (fun K hK => ?_) AllReadyH.nil
  go_simp
  refine Calls.mono (toBs f a0 l0 c0 t0 hfs (HD.out.2.1.none (L6.out.1))) ?_
  rintro e t1 ⟨aq, cq, bsq, rfl, hg, hnq⟩
  have L7 : Hid ((w.grownBy t1 none) ∧ (t1.heap[p]? = some (Obj.cells #[.int .i64 k, .int .i64 n, .slice a l c] 48)) ∧ (t1.heap[(p + 1)]? = some (Obj.cells #[.int .i64 k', .int .i64 n', .slice a' l' c'] 48)) ∧ (w.heap.size = p) ∧ (SlOB t1 25 44 (aq) l0 cq (f) bsq)) := ⟨grown_trans (L6.out.1) hg, (World.grownBy.block hg _ (lt_of_block (L6.out.2.1)) (by simp)).trans (L6.out.2.1), (World.grownBy.block hg _ (lt_of_block (L6.out.2.2.1)) (by simp)).trans (L6.out.2.2.1), L6.out.2.2.2, hnq.1⟩
  clear L6
  refine hK.out _ _ ⟨(three (L7.out.2.1)).1, (three (L7.out.2.2.1)).1⟩ (fun hH2 => ?_)
  clear hK K hH
  have hH := hH2
  clear hH2 hg
  simp only [Act.put, List.setIfInBounds_toArray, List.set_cons_zero, List.set_cons_succ, List.getElem_toArray, List.getElem_cons_succ, List.getElem_cons_zero]
  clear hnq
  refine wpAnyH_ready (rs := [3]) (by kernel_rfl) (by simp) ?_
  refine AllReadyH.cons rfl (fun K hK => ?_) AllReadyH.nil
  go_simp
  refine Calls.mono (toTr d k n a l c t1 (HD.out.1.none (L7.out.1)) hdshpos2) ?_
  rintro e t2 ⟨at', ct, bst, rfl, hg, hnt⟩
  have L8 : Hid ((w.grownBy t2 none) ∧ (t2.heap[p]? = some (Obj.cells #[.int .i64 k, .int .i64 n, .slice a l c] 48)) ∧ (t2.heap[(p + 1)]? = some (Obj.cells #[.int .i64 k', .int .i64 n', .slice a' l' c'] 48)) ∧ (w.heap.size = p) ∧ (SlOB t2 25 44 (aq) l0 cq (f) bsq) ∧ (SlO t2 25 (at') l ct (d) bst)) := ⟨grown_trans (L7.out.1) hg, (World.grownBy.block hg _ (lt_of_block (L7.out.2.1)) (by simp)).trans (L7.out.2.1), (World.grownBy.block hg _ (lt_of_block (L7.out.2.2.1)) (by simp)).trans (L7.out.2.2.1), L7.out.2.2.2.1, SlOB.old (L7.out.2.2.2.2) hg, hnt.1⟩
  clear L7
  refine hK.out _ _ ⟨(three (L8.out.2.1)).1, (three (L8.out.2.2.1)).1⟩ (fun hH2 => ?_)
  clear hK K hH
  have hH := hH2
  clear hH2 hg
  simp only [Act.put, List.setIfInBounds_toArray, List.set_cons_zero, List.set_cons_succ, List.getElem_toArray, List.getElem_cons_succ, List.getElem_cons_zero]
  clear hnt
  refine wpAnyH_ready (rs := [5]) (by kernel_rfl) (by simp) ?_
  refine AllReadyH.cons rfl (fun K hK => ?_) AllReadyH.nil
  go_simp
  refine Calls.mono (toTr d' k' n' a' l' c' t2 (HD.out.2.2.none (L8.out.1)) hdshpos3) ?_
  rintro e t3 ⟨at2, ct2, bst2, rfl, hg, hnt⟩
  have L9 : Hid ((w.grownBy t3 none) ∧ (t3.heap[p]? = some (Obj.cells #[.int .i64 k, .int .i64 n, .slice a l c] 48)) ∧ (t3.heap[(p + 1)]? = some (Obj.cells #[.int .i64 k', .int .i64 n', .slice a' l' c'] 48)) ∧ (w.heap.size = p) ∧ (SlOB t3 25 44 (aq) l0 cq (f) bsq) ∧ (SlO t3 25 (at') l ct (d) bst) ∧ (SlO t3 25 (at2) l' ct2 (d') bst2)) := ⟨grown_trans (L8.out.1) hg, (World.grownBy.block hg _ (lt_of_block (L8.out.2.1)) (by simp)).trans (L8.out.2.1), (World.grownBy.block hg _ (lt_of_block (L8.out.2.2.1)) (by simp)).trans (L8.out.2.2.1), L8.out.2.2.2.1, SlOB.old (L8.out.2.2.2.2.1) hg, SlO.old (L8.out.2.2.2.2.2) hg, hnt.1⟩
  clear L8
  refine hK.out _ _ ⟨(three (L9.out.2.1)).1, (three (L9.out.2.2.1)).1⟩ (fun hH2 => ?_)
  clear hK K hH
  have hH := hH2
  clear hH2 hg
  simp only [Act.put, List.setIfInBounds_toArray, List.set_cons_zero, List.set_cons_succ, List.getElem_toArray, List.getElem_cons_succ, List.getElem_cons_zero]
  clear hnt
  refine wpAnyH_ready (rs := [6]) (by kernel_rfl) (by simp) ?_
  refine AllReadyH.cons rfl (fun K hK => ?_) AllReadyH.nil
  go_simp
  refine Calls.mono (CSp.out aq cq at' ct at2 ct2 t3 (SlOB.reads (L9.out.2.2.2.2.1)) (SlOB.cap (L9.out.2.2.2.2.1)) (SlO.reads (L9.out.2.2.2.2.2.1)) (SlO.reads (L9.out.2.2.2.2.2.2))) ?_
  rintro e wz ⟨aw, cw, bsw, rfl, hg, hnr⟩
  have L10 : Hid ((w.grownBy wz none) ∧ (wz.heap[p]? = some (Obj.cells #[.int .i64 k, .int .i64 n, .slice a l c] 48)) ∧ (wz.heap[(p + 1)]? = some (Obj.cells #[.int .i64 k', .int .i64 n', .slice a' l' c'] 48)) ∧ (w.heap.size = p) ∧ (SlOB wz 25 44 (aw) LL.len cw (LL) bsw)) := ⟨grown_trans (L9.out.1) hg, (World.grownBy.block hg _ (lt_of_block (L9.out.2.1)) (by simp)).trans (L9.out.2.1), (World.grownBy.block hg _ (lt_of_block (L9.out.2.2.1)) (by simp)).trans (L9.out.2.2.1), L9.out.2.2.2.1, hnr.1⟩
  clear L9
  refine hK.out _ _ ⟨(three (L10.out.2.1)).1, (three (L10.out.2.2.1)).1⟩ (fun hH2 => ?_)
  clear hK K hH
  have hH := hH2
  clear hH2 hg
  simp only [Act.put, List.setIfInBounds_toArray, List.set_cons_zero, List.set_cons_succ, List.getElem_toArray, List.getElem_cons_succ, List.getElem_cons_zero]
  clear hnr
  refine wpAnyH_take (i := 7) (v := ?_) rfl (by kernel_rfl) (by kernel_rfl) (by kernel_rfl) (fun _ _ _ h => h) (Or.inl ⟨by rfl, ?_⟩) hH ?_
  rotate_left
  · (intro v hS; go_simp; try with_reducible rfl)
  simp only [Act.put, List.setIfInBounds_toArray, List.set_cons_zero, List.set_cons_succ, List.getElem_toArray, List.getElem_cons_succ, List.getElem_cons_zero]
  refine wpAnyH_take (i := 8) (v := ?_) rfl (by kernel_rfl) (by kernel_rfl) (by kernel_rfl) (fun _ _ _ h => h) (Or.inl ⟨by rfl, ?_⟩) hH ?_
  rotate_left
  · (intro v hS; go_simp; try with_reducible rfl)
  simp only [Act.put, List.setIfInBounds_toArray, List.set_cons_zero, List.set_cons_succ, List.getElem_toArray, List.getElem_cons_succ, List.getElem_cons_zero]
  refine wpAnyH_take (i := 9) (v := ?_) rfl (by kernel_rfl) (by kernel_rfl) (by kernel_rfl) (fun _ _ _ h => h) (Or.inl ⟨by rfl, ?_⟩) hH ?_
  rotate_left
  · (intro v hS; go_simp; try with_reducible rfl)
  simp only [Act.put, List.setIfInBounds_toArray, List.set_cons_zero, List.set_cons_succ, List.getElem_toArray, List.getElem_cons_succ, List.getElem_cons_zero]
  refine wpAnyH_take (i := 10) (v := ?_) rfl (by kernel_rfl) (by kernel_rfl) (by kernel_rfl) (fun _ _ _ h => h) (Or.inl ⟨by rfl, ?_⟩) hH ?_
  rotate_left
  · (intro v hS; go_simp; try with_reducible rfl)
  simp only [Act.put, List.setIfInBounds_toArray, List.set_cons_zero, List.set_cons_succ, List.getElem_toArray, List.getElem_cons_succ, List.getElem_cons_zero]
  refine wpAnyH_take (i := 11) (v := ?_) rfl (by kernel_rfl) (by kernel_rfl) (by kernel_rfl) (fun _ _ _ h => h) (Or.inl ⟨by rfl, ?_⟩) hH ?_
  rotate_left
  · (intro v hS; go_simp; try with_reducible rfl)
  simp only [Act.put, List.setIfInBounds_toArray, List.set_cons_zero, List.set_cons_succ, List.getElem_toArray, List.getElem_cons_succ, List.getElem_cons_zero]
  refine wpAnyH_done (by kernel_rfl) ?_ _
  clear hH
  have L11 : Hid ((w.grownBy wz none) ∧ (wz.heap[p]? = some (Obj.cells #[.int .i64 k, .int .i64 n, .slice a l c] 48)) ∧ (wz.heap[(p + 1)]? = some (Obj.cells #[.int .i64 k', .int .i64 n', .slice a' l' c'] 48)) ∧ (w.heap.size = p) ∧ (SlOB wz 25 44 (aw) LL.len cw (LL) bsw) ∧ (∀ x ∈ bsw, x < wz.heap.size) ∧ (p + 1 < wz.heap.size)) := ⟨grown_trans (L10.out.1) (World.grownBy.refl wz none), (World.grownBy.block (World.grownBy.refl wz none) _ (lt_of_block (L10.out.2.1)) (by simp)).trans (L10.out.2.1), (World.grownBy.block (World.grownBy.refl wz none) _ (lt_of_block (L10.out.2.2.1)) (by simp)).trans (L10.out.2.2.1), L10.out.2.2.2.1, SlOB.old (L10.out.2.2.2.2) (World.grownBy.refl wz none), SlOB.lt (L10.out.2.2.2.2), lt_of_block (L10.out.2.2.1)⟩
  clear L10
  generalize ez : wz.heap.size = z0 at *
  have EZ : Hid (wz.heap.size = z0) := ez
  clear ez
  go_wp2_with fail
  refine Calls.mono (toBs f a0 l0 c0 wz hfs (HD.out.2.1.none (L11.out.1))) ?_
  rintro e w6 ⟨a5, c5, bs5, rfl, hg, hn5⟩
  have L12 : Hid ((w.grownBy w6 none) ∧ (w6.heap[p]? = some (Obj.cells #[.int .i64 k, .int .i64 n, .slice a l c] 48)) ∧ (w6.heap[(p + 1)]? = some (Obj.cells #[.int .i64 k', .int .i64 n', .slice a' l' c'] 48)) ∧ (w.heap.size = p) ∧ (SlOB w6 25 44 (aw) LL.len cw (LL) bsw) ∧ (∀ x ∈ bsw, x < z0) ∧ (p + 1 < z0) ∧ (SlOB w6 25 44 (a5) l0 c5 (f) bs5) ∧ (bs5.Nodup) ∧ (∀ x ∈ bs5, z0 ≤ x ∧ x < w6.heap.size) ∧ (z0 ≤ w6.heap.size)) := ⟨grown_trans (L11.out.1) hg, (World.grownBy.block hg _ (lt_of_block (L11.out.2.1)) (by simp)).trans (L11.out.2.1), (World.grownBy.block hg _ (lt_of_block (L11.out.2.2.1)) (by simp)).trans (L11.out.2.2.1), L11.out.2.2.2.1, SlOB.old (L11.out.2.2.2.2.1) hg, L11.out.2.2.2.2.2.1, L11.out.2.2.2.2.2.2, hn5.1, hn5.2.1, fun x hx => ⟨by have h1 := hn5.2.2 x hx; rw [EZ.out] at h1; exact h1, hn5.1.lt x hx⟩, by have h1 := hg.size; rw [EZ.out] at h1; exact h1⟩
  clear L11
  clear hg hn5 EZ
  simp only []
  obtain ⟨⟨x4_0, x4_1, x4_2⟩, -⟩ := three (L12.out.2.1)
  go_wp2_with fail
  generalize e6 : w6.heap.size = z6 at *
  have E6 : Hid (w6.heap.size = z6) := e6
  clear e6
  refine Calls.mono (toTr d k n a l c w6 (HD.out.1.none (L12.out.1)) hdshpos2) ?_
  rintro e w7 ⟨a4, c4, bs4, rfl, hg, hn4⟩
  have ga := World.grownBy_alloc w7 (.cells #[.int .i64 k, .int .i64 n, .slice a4 l c4] 25) none
  have ba := heap_alloc_new w7 (.cells #[.int .i64 k, .int .i64 n, .slice a4 l c4] 25)
  have hgg := grown_trans hg ga
  have L13 : Hid ((w.grownBy (w7.alloc (.cells #[.int .i64 k, .int .i64 n, .slice a4 l c4] 25)) none) ∧ ((w7.alloc (.cells #[.int .i64 k, .int .i64 n, .slice a4 l c4] 25)).heap[p]? = some (Obj.cells #[.int .i64 k, .int .i64 n, .slice a l c] 48)) ∧ ((w7.alloc (.cells #[.int .i64 k, .int .i64 n, .slice a4 l c4] 25)).heap[(p + 1)]? = some (Obj.cells #[.int .i64 k', .int .i64 n', .slice a' l' c'] 48)) ∧ (w.heap.size = p) ∧ (SlOB (w7.alloc (.cells #[.int .i64 k, .int .i64 n, .slice a4 l c4] 25)) 25 44 (aw) LL.len cw (LL) bsw) ∧ (∀ x ∈ bsw, x < z0) ∧ (p + 1 < z0) ∧ (SlOB (w7.alloc (.cells #[.int .i64 k, .int .i64 n, .slice a4 l c4] 25)) 25 44 (a5) l0 c5 (f) bs5) ∧ (bs5.Nodup) ∧ (∀ x ∈ bs5, z0 ≤ x ∧ x < z6) ∧ (z0 ≤ z6) ∧ ((w7.alloc (.cells #[.int .i64 k, .int .i64 n, .slice a4 l c4] 25)).heap[w7.heap.size]? = some (Obj.cells #[.int .i64 k, .int .i64 n, .slice a4 l c4] 25)) ∧ (SlO (w7.alloc (.cells #[.int .i64 k, .int .i64 n, .slice a4 l c4] 25)) 25 (a4) l c4 (d) bs4) ∧ (bs4.Nodup) ∧ (∀ x ∈ bs4, z6 ≤ x ∧ x < w7.heap.size) ∧ (z6 ≤ w7.heap.size)) := ⟨grown_trans (L12.out.1) hgg, (World.grownBy.block hgg _ (lt_of_block (L12.out.2.1)) (by simp)).trans (L12.out.2.1), (World.grownBy.block hgg _ (lt_of_block (L12.out.2.2.1)) (by simp)).trans (L12.out.2.2.1), L12.out.2.2.2.1, SlOB.old (L12.out.2.2.2.2.1) hgg, L12.out.2.2.2.2.2.1, L12.out.2.2.2.2.2.2.1, SlOB.old (L12.out.2.2.2.2.2.2.2.1) hgg, L12.out.2.2.2.2.2.2.2.2.1, L12.out.2.2.2.2.2.2.2.2.2.1, L12.out.2.2.2.2.2.2.2.2.2.2, ba, hn4.1.old ga, hn4.2.1, fun x hx => ⟨by have h1 := hn4.2.2 x hx; rw [E6.out] at h1; exact h1, hn4.1.lt x hx⟩, by have h1 := hg.size; rw [E6.out] at h1; exact h1⟩
  clear L12 x4_0 x4_1 x4_2
  clear hg ga ba hgg
  simp only []
  clear hn4 E6
  obtain ⟨⟨x5_0, x5_1, x5_2⟩, -⟩ := three (L13.out.2.2.1)
  go_wp2_with fail
  generalize (w7.alloc (.cells #[.int .i64 k, .int .i64 n, .slice a4 l c4] 25)) = u7 at *
  generalize w7.heap.size = px at *
  have hpx7 := lt_of_block (L13.out.2.2.2.2.2.2.2.2.2.2.2.1)
  refine Calls.mono (toTr d' k' n' a' l' c' u7 (HD.out.2.2.none (L13.out.1)) hdshpos3) ?_
  rintro e w8 ⟨a6, c6, bs6, rfl, hg, hn6⟩
  have ga := World.grownBy_alloc w8 (.cells #[.int .i64 k', .int .i64 n', .slice a6 l' c6] 25) none
  have ba := heap_alloc_new w8 (.cells #[.int .i64 k', .int .i64 n', .slice a6 l' c6] 25)
  have hgg := grown_trans hg ga
  have L14 : Hid ((w.grownBy (w8.alloc (.cells #[.int .i64 k', .int .i64 n', .slice a6 l' c6] 25)) none) ∧ ((w8.alloc (.cells #[.int .i64 k', .int .i64 n', .slice a6 l' c6] 25)).heap[p]? = some (Obj.cells #[.int .i64 k, .int .i64 n, .slice a l c] 48)) ∧ ((w8.alloc (.cells #[.int .i64 k', .int .i64 n', .slice a6 l' c6] 25)).heap[(p + 1)]? = some (Obj.cells #[.int .i64 k', .int .i64 n', .slice a' l' c'] 48)) ∧ (w.heap.size = p) ∧ (SlOB (w8.alloc (.cells #[.int .i64 k', .int .i64 n', .slice a6 l' c6] 25)) 25 44 (aw) LL.len cw (LL) bsw) ∧ (∀ x ∈ bsw, x < z0) ∧ (p + 1 < z0) ∧ (SlOB (w8.alloc (.cells #[.int .i64 k', .int .i64 n', .slice a6 l' c6] 25)) 25 44 (a5) l0 c5 (f) bs5) ∧ (bs5.Nodup) ∧ (∀ x ∈ bs5, z0 ≤ x ∧ x < z6) ∧ (z0 ≤ z6) ∧ ((w8.alloc (.cells #[.int .i64 k', .int .i64 n', .slice a6 l' c6] 25)).heap[px]? = some (Obj.cells #[.int .i64 k, .int .i64 n, .slice a4 l c4] 25)) ∧ (SlO (w8.alloc (.cells #[.int .i64 k', .int .i64 n', .slice a6 l' c6] 25)) 25 (a4) l c4 (d) bs4) ∧ (bs4.Nodup) ∧ (∀ x ∈ bs4, z6 ≤ x ∧ x < px) ∧ (z6 ≤ px) ∧ ((w8.alloc (.cells #[.int .i64 k', .int .i64 n', .slice a6 l' c6] 25)).heap[w8.heap.size]? = some (Obj.cells #[.int .i64 k', .int .i64 n', .slice a6 l' c6] 25)) ∧ (SlO (w8.alloc (.cells #[.int .i64 k', .int .i64 n', .slice a6 l' c6] 25)) 25 (a6) l' c6 (d') bs6) ∧ (bs6.Nodup) ∧ (∀ x ∈ bs6, px < x ∧ x < w8.heap.size) ∧ (px < w8.heap.size)) := ⟨grown_trans (L13.out.1) hgg, (World.grownBy.block hgg _ (lt_of_block (L13.out.2.1)) (by simp)).trans (L13.out.2.1), (World.grownBy.block hgg _ (lt_of_block (L13.out.2.2.1)) (by simp)).trans (L13.out.2.2.1), L13.out.2.2.2.1, SlOB.old (L13.out.2.2.2.2.1) hgg, L13.out.2.2.2.2.2.1, L13.out.2.2.2.2.2.2.1, SlOB.old (L13.out.2.2.2.2.2.2.2.1) hgg, L13.out.2.2.2.2.2.2.2.2.1, L13.out.2.2.2.2.2.2.2.2.2.1, L13.out.2.2.2.2.2.2.2.2.2.2.1, (World.grownBy.block hgg _ (lt_of_block (L13.out.2.2.2.2.2.2.2.2.2.2.2.1)) (by simp)).trans (L13.out.2.2.2.2.2.2.2.2.2.2.2.1), SlO.old (L13.out.2.2.2.2.2.2.2.2.2.2.2.2.1) hgg, L13.out.2.2.2.2.2.2.2.2.2.2.2.2.2.1, L13.out.2.2.2.2.2.2.2.2.2.2.2.2.2.2.1, L13.out.2.2.2.2.2.2.2.2.2.2.2.2.2.2.2, ba, hn6.1.old ga, hn6.2.1, fun x hx => ⟨Nat.lt_of_lt_of_le hpx7 (hn6.2.2 x hx), hn6.1.lt x hx⟩, Nat.lt_of_lt_of_le hpx7 hg.size⟩
  clear L13 x5_0 x5_1 x5_2
  clear hg ga ba hgg
  simp only []
  clear hn6 hpx7
  obtain ⟨⟨x6_0, x6_1, x6_2⟩, -⟩ := three (L14.out.2.2.2.2.2.2.2.2.2.2.2.1)
  obtain ⟨⟨x7_0, x7_1, x7_2⟩, -⟩ := three (L14.out.2.2.2.2.2.2.2.2.2.2.2.2.2.2.2.2.1)
  go_wp2_with fail
  generalize (w8.alloc (.cells #[.int .i64 k', .int .i64 n', .slice a6 l' c6] 25)) = u8 at *
  generalize w8.heap.size = py at *
  have hpy8 := lt_of_block (L14.out.2.2.2.2.2.2.2.2.2.2.2.2.2.2.2.2.1)
  refine Calls.mono (CIm.out a5 c5 a4 c4 a6 c6 u8 (SlOB.typed (L14.out.2.2.2.2.2.2.2.1)) (SlO.typed (L14.out.2.2.2.2.2.2.2.2.2.2.2.2.1)) (SlO.typed (L14.out.2.2.2.2.2.2.2.2.2.2.2.2.2.2.2.2.2.1))) ?_
  rintro e u9 ⟨ag, cg, bsg, rfl, hg, hw⟩
  have L15 : Hid ((w.grownBy u9 none) ∧ (u9.heap[p]? = some (Obj.cells #[.int .i64 k, .int .i64 n, .slice a l c] 48)) ∧ (u9.heap[(p + 1)]? = some (Obj.cells #[.int .i64 k', .int .i64 n', .slice a' l' c'] 48)) ∧ (w.heap.size = p) ∧ (SlOB u9 25 44 (aw) LL.len cw (LL) bsw) ∧ (∀ x ∈ bsw, x < z0) ∧ (p + 1 < z0) ∧ (SlOB u9 25 44 (a5) l0 c5 (f) bs5) ∧ (bs5.Nodup) ∧ (∀ x ∈ bs5, z0 ≤ x ∧ x < z6) ∧ (z0 ≤ z6) ∧ (u9.heap[px]? = some (Obj.cells #[.int .i64 k, .int .i64 n, .slice a4 l c4] 25)) ∧ (SlO u9 25 (a4) l c4 (d) bs4) ∧ (bs4.Nodup) ∧ (∀ x ∈ bs4, z6 ≤ x ∧ x < px) ∧ (z6 ≤ px) ∧ (u9.heap[py]? = some (Obj.cells #[.int .i64 k', .int .i64 n', .slice a6 l' c6] 25)) ∧ (SlO u9 25 (a6) l' c6 (d') bs6) ∧ (bs6.Nodup) ∧ (∀ x ∈ bs6, px < x ∧ x < py) ∧ (px < py) ∧ (SlOB u9 25 44 (ag) LL.len cg (LL) bsg) ∧ (bsg.Nodup) ∧ (∀ x ∈ bsg, py < x)) := ⟨grown_trans (L14.out.1) hg, (World.grownBy.block hg _ (lt_of_block (L14.out.2.1)) (by simp)).trans (L14.out.2.1), (World.grownBy.block hg _ (lt_of_block (L14.out.2.2.1)) (by simp)).trans (L14.out.2.2.1), L14.out.2.2.2.1, SlOB.old (L14.out.2.2.2.2.1) hg, L14.out.2.2.2.2.2.1, L14.out.2.2.2.2.2.2.1, SlOB.old (L14.out.2.2.2.2.2.2.2.1) hg, L14.out.2.2.2.2.2.2.2.2.1, L14.out.2.2.2.2.2.2.2.2.2.1, L14.out.2.2.2.2.2.2.2.2.2.2.1, (World.grownBy.block hg _ (lt_of_block (L14.out.2.2.2.2.2.2.2.2.2.2.2.1)) (by simp)).trans (L14.out.2.2.2.2.2.2.2.2.2.2.2.1), SlO.old (L14.out.2.2.2.2.2.2.2.2.2.2.2.2.1) hg, L14.out.2.2.2.2.2.2.2.2.2.2.2.2.2.1, L14.out.2.2.2.2.2.2.2.2.2.2.2.2.2.2.1, L14.out.2.2.2.2.2.2.2.2.2.2.2.2.2.2.2.1, (World.grownBy.block hg _ (lt_of_block (L14.out.2.2.2.2.2.2.2.2.2.2.2.2.2.2.2.2.1)) (by simp)).trans (L14.out.2.2.2.2.2.2.2.2.2.2.2.2.2.2.2.2.1), SlO.old (L14.out.2.2.2.2.2.2.2.2.2.2.2.2.2.2.2.2.2.1) hg, L14.out.2.2.2.2.2.2.2.2.2.2.2.2.2.2.2.2.2.2.1, L14.out.2.2.2.2.2.2.2.2.2.2.2.2.2.2.2.2.2.2.2.1, L14.out.2.2.2.2.2.2.2.2.2.2.2.2.2.2.2.2.2.2.2.2, hw.1, hw.2.1, fun x hx => Nat.lt_of_lt_of_le hpy8 (hw.2.2 x hx)⟩
  clear L14 x6_0 x6_1 x6_2 x7_0 x7_1 x7_2
  clear hg
  simp only []
  clear hw hpy8
  go_wp2_with fail
  refine Calls.mono (eqBs LL ag aw LL.len cg cw u9 (SlOB.reads (L15.out.2.2.2.2.2.2.2.2.2.2.2.2.2.2.2.2.2.2.2.2.2.1)) (SlOB.reads (L15.out.2.2.2.2.1))) ?_
  rintro e ua ⟨rfl, hg⟩
  have L16 : Hid ((w.grownBy ua none) ∧ (ua.heap[p]? = some (Obj.cells #[.int .i64 k, .int .i64 n, .slice a l c] 48)) ∧ (ua.heap[(p + 1)]? = some (Obj.cells #[.int .i64 k', .int .i64 n', .slice a' l' c'] 48)) ∧ (w.heap.size = p) ∧ (SlOB ua 25 44 (aw) LL.len cw (LL) bsw) ∧ (∀ x ∈ bsw, x < z0) ∧ (p + 1 < z0) ∧ (SlOB ua 25 44 (a5) l0 c5 (f) bs5) ∧ (bs5.Nodup) ∧ (∀ x ∈ bs5, z0 ≤ x ∧ x < z6) ∧ (z0 ≤ z6) ∧ (ua.heap[px]? = some (Obj.cells #[.int .i64 k, .int .i64 n, .slice a4 l c4] 25)) ∧ (SlO ua 25 (a4) l c4 (d) bs4) ∧ (bs4.Nodup) ∧ (∀ x ∈ bs4, z6 ≤ x ∧ x < px) ∧ (z6 ≤ px) ∧ (ua.heap[py]? = some (Obj.cells #[.int .i64 k', .int .i64 n', .slice a6 l' c6] 25)) ∧ (SlO ua 25 (a6) l' c6 (d') bs6) ∧ (bs6.Nodup) ∧ (∀ x ∈ bs6, px < x ∧ x < py) ∧ (px < py) ∧ (SlOB ua 25 44 (ag) LL.len cg (LL) bsg) ∧ (bsg.Nodup) ∧ (∀ x ∈ bsg, py < x)) := ⟨grown_trans (L15.out.1) hg, (World.grownBy.block hg _ (lt_of_block (L15.out.2.1)) (by simp)).trans (L15.out.2.1), (World.grownBy.block hg _ (lt_of_block (L15.out.2.2.1)) (by simp)).trans (L15.out.2.2.1), L15.out.2.2.2.1, SlOB.old (L15.out.2.2.2.2.1) hg, L15.out.2.2.2.2.2.1, L15.out.2.2.2.2.2.2.1, SlOB.old (L15.out.2.2.2.2.2.2.2.1) hg, L15.out.2.2.2.2.2.2.2.2.1, L15.out.2.2.2.2.2.2.2.2.2.1, L15.out.2.2.2.2.2.2.2.2.2.2.1, (World.grownBy.block hg _ (lt_of_block (L15.out.2.2.2.2.2.2.2.2.2.2.2.1)) (by simp)).trans (L15.out.2.2.2.2.2.2.2.2.2.2.2.1), SlO.old (L15.out.2.2.2.2.2.2.2.2.2.2.2.2.1) hg, L15.out.2.2.2.2.2.2.2.2.2.2.2.2.2.1, L15.out.2.2.2.2.2.2.2.2.2.2.2.2.2.2.1, L15.out.2.2.2.2.2.2.2.2.2.2.2.2.2.2.2.1, (World.grownBy.block hg _ (lt_of_block (L15.out.2.2.2.2.2.2.2.2.2.2.2.2.2.2.2.2.1)) (by simp)).trans (L15.out.2.2.2.2.2.2.2.2.2.2.2.2.2.2.2.2.1), SlO.old (L15.out.2.2.2.2.2.2.2.2.2.2.2.2.2.2.2.2.2.1) hg, L15.out.2.2.2.2.2.2.2.2.2.2.2.2.2.2.2.2.2.2.1, L15.out.2.2.2.2.2.2.2.2.2.2.2.2.2.2.2.2.2.2.2.1, L15.out.2.2.2.2.2.2.2.2.2.2.2.2.2.2.2.2.2.2.2.2.1, SlOB.old (L15.out.2.2.2.2.2.2.2.2.2.2.2.2.2.2.2.2.2.2.2.2.2.1) hg, L15.out.2.2.2.2.2.2.2.2.2.2.2.2.2.2.2.2.2.2.2.2.2.2.1, L15.out.2.2.2.2.2.2.2.2.2.2.2.2.2.2.2.2.2.2.2.2.2.2.2⟩
  clear L15
  clear hg
  simp only []
  go_wp2_with fail
  refine Calls.mono (toBs f a0 l0 c0 ua hfs (HD.out.2.1.none (L16.out.1))) ?_
  rintro e v3 ⟨a8, c8, bs8, rfl, hg, hn8⟩
  have L17 : Hid ((w.grownBy v3 none) ∧ (v3.heap[p]? = some (Obj.cells #[.int .i64 k, .int .i64 n, .slice a l c] 48)) ∧ (v3.heap[(p + 1)]? = some (Obj.cells #[.int .i64 k', .int .i64 n', .slice a' l' c'] 48)) ∧ (w.heap.size = p) ∧ (SlOB v3 25 44 (aw) LL.len cw (LL) bsw) ∧ (∀ x ∈ bsw, x < z0) ∧ (p + 1 < z0) ∧ (SlOB v3 25 44 (a5) l0 c5 (f) bs5) ∧ (bs5.Nodup) ∧ (∀ x ∈ bs5, z0 ≤ x ∧ x < z6) ∧ (z0 ≤ z6) ∧ (v3.heap[px]? = some (Obj.cells #[.int .i64 k, .int .i64 n, .slice a4 l c4] 25)) ∧ (SlO v3 25 (a4) l c4 (d) bs4) ∧ (bs4.Nodup) ∧ (∀ x ∈ bs4, z6 ≤ x ∧ x < px) ∧ (z6 ≤ px) ∧ (v3.heap[py]? = some (Obj.cells #[.int .i64 k', .int .i64 n', .slice a6 l' c6] 25)) ∧ (SlO v3 25 (a6) l' c6 (d') bs6) ∧ (bs6.Nodup) ∧ (∀ x ∈ bs6, px < x ∧ x < py) ∧ (px < py) ∧ (SlOB v3 25 44 (ag) LL.len cg (LL) bsg) ∧ (bsg.Nodup) ∧ (∀ x ∈ bsg, py < x) ∧ (SlB v3 (a8) l0 (f))) := ⟨grown_trans (L16.out.1) hg, (World.grownBy.block hg _ (lt_of_block (L16.out.2.1)) (by simp)).trans (L16.out.2.1), (World.grownBy.block hg _ (lt_of_block (L16.out.2.2.1)) (by simp)).trans (L16.out.2.2.1), L16.out.2.2.2.1, SlOB.old (L16.out.2.2.2.2.1) hg, L16.out.2.2.2.2.2.1, L16.out.2.2.2.2.2.2.1, SlOB.old (L16.out.2.2.2.2.2.2.2.1) hg, L16.out.2.2.2.2.2.2.2.2.1, L16.out.2.2.2.2.2.2.2.2.2.1, L16.out.2.2.2.2.2.2.2.2.2.2.1, (World.grownBy.block hg _ (lt_of_block (L16.out.2.2.2.2.2.2.2.2.2.2.2.1)) (by simp)).trans (L16.out.2.2.2.2.2.2.2.2.2.2.2.1), SlO.old (L16.out.2.2.2.2.2.2.2.2.2.2.2.2.1) hg, L16.out.2.2.2.2.2.2.2.2.2.2.2.2.2.1, L16.out.2.2.2.2.2.2.2.2.2.2.2.2.2.2.1, L16.out.2.2.2.2.2.2.2.2.2.2.2.2.2.2.2.1, (World.grownBy.block hg _ (lt_of_block (L16.out.2.2.2.2.2.2.2.2.2.2.2.2.2.2.2.2.1)) (by simp)).trans (L16.out.2.2.2.2.2.2.2.2.2.2.2.2.2.2.2.2.1), SlO.old (L16.out.2.2.2.2.2.2.2.2.2.2.2.2.2.2.2.2.2.1) hg, L16.out.2.2.2.2.2.2.2.2.2.2.2.2.2.2.2.2.2.2.1, L16.out.2.2.2.2.2.2.2.2.2.2.2.2.2.2.2.2.2.2.2.1, L16.out.2.2.2.2.2.2.2.2.2.2.2.2.2.2.2.2.2.2.2.2.1, SlOB.old (L16.out.2.2.2.2.2.2.2.2.2.2.2.2.2.2.2.2.2.2.2.2.2.1) hg, L16.out.2.2.2.2.2.2.2.2.2.2.2.2.2.2.2.2.2.2.2.2.2.2.1, L16.out.2.2.2.2.2.2.2.2.2.2.2.2.2.2.2.2.2.2.2.2.2.2.2, hn8.1.reads⟩
  clear L16
  clear hg
  simp only []
  clear hn8
  go_wp2_with fail
  refine Calls.mono (eqBs f a5 a8 l0 c5 c8 v3 (SlOB.reads (L17.out.2.2.2.2.2.2.2.1)) (L17.out.2.2.2.2.2.2.2.2.2.2.2.2.2.2.2.2.2.2.2.2.2.2.2.2)) ?_
  rintro e v4 ⟨rfl, hg⟩
  have L18 : Hid ((w.grownBy v4 none) ∧ (v4.heap[p]? = some (Obj.cells #[.int .i64 k, .int .i64 n, .slice a l c] 48)) ∧ (v4.heap[(p + 1)]? = some (Obj.cells #[.int .i64 k', .int .i64 n', .slice a' l' c'] 48)) ∧ (w.heap.size = p) ∧ (SlOB v4 25 44 (aw) LL.len cw (LL) bsw) ∧ (∀ x ∈ bsw, x < z0) ∧ (p + 1 < z0) ∧ (SlOB v4 25 44 (a5) l0 c5 (f) bs5) ∧ (bs5.Nodup) ∧ (∀ x ∈ bs5, z0 ≤ x ∧ x < z6) ∧ (z0 ≤ z6) ∧ (v4.heap[px]? = some (Obj.cells #[.int .i64 k, .int .i64 n, .slice a4 l c4] 25)) ∧ (SlO v4 25 (a4) l c4 (d) bs4) ∧ (bs4.Nodup) ∧ (∀ x ∈ bs4, z6 ≤ x ∧ x < px) ∧ (z6 ≤ px) ∧ (v4.heap[py]? = some (Obj.cells #[.int .i64 k', .int .i64 n', .slice a6 l' c6] 25)) ∧ (SlO v4 25 (a6) l' c6 (d') bs6) ∧ (bs6.Nodup) ∧ (∀ x ∈ bs6, px < x ∧ x < py) ∧ (px < py) ∧ (SlOB v4 25 44 (ag) LL.len cg (LL) bsg) ∧ (bsg.Nodup) ∧ (∀ x ∈ bsg, py < x)) := ⟨grown_trans (L17.out.1) hg, (World.grownBy.block hg _ (lt_of_block (L17.out.2.1)) (by simp)).trans (L17.out.2.1), (World.grownBy.block hg _ (lt_of_block (L17.out.2.2.1)) (by simp)).trans (L17.out.2.2.1), L17.out.2.2.2.1, SlOB.old (L17.out.2.2.2.2.1) hg, L17.out.2.2.2.2.2.1, L17.out.2.2.2.2.2.2.1, SlOB.old (L17.out.2.2.2.2.2.2.2.1) hg, L17.out.2.2.2.2.2.2.2.2.1, L17.out.2.2.2.2.2.2.2.2.2.1, L17.out.2.2.2.2.2.2.2.2.2.2.1, (World.grownBy.block hg _ (lt_of_block (L17.out.2.2.2.2.2.2.2.2.2.2.2.1)) (by simp)).trans (L17.out.2.2.2.2.2.2.2.2.2.2.2.1), SlO.old (L17.out.2.2.2.2.2.2.2.2.2.2.2.2.1) hg, L17.out.2.2.2.2.2.2.2.2.2.2.2.2.2.1, L17.out.2.2.2.2.2.2.2.2.2.2.2.2.2.2.1, L17.out.2.2.2.2.2.2.2.2.2.2.2.2.2.2.2.1, (World.grownBy.block hg _ (lt_of_block (L17.out.2.2.2.2.2.2.2.2.2.2.2.2.2.2.2.2.1)) (by simp)).trans (L17.out.2.2.2.2.2.2.2.2.2.2.2.2.2.2.2.2.1), SlO.old (L17.out.2.2.2.2.2.2.2.2.2.2.2.2.2.2.2.2.2.1) hg, L17.out.2.2.2.2.2.2.2.2.2.2.2.2.2.2.2.2.2.2.1, L17.out.2.2.2.2.2.2.2.2.2.2.2.2.2.2.2.2.2.2.2.1, L17.out.2.2.2.2.2.2.2.2.2.2.2.2.2.2.2.2.2.2.2.2.1, SlOB.old (L17.out.2.2.2.2.2.2.2.2.2.2.2.2.2.2.2.2.2.2.2.2.2.1) hg, L17.out.2.2.2.2.2.2.2.2.2.2.2.2.2.2.2.2.2.2.2.2.2.2.1, L17.out.2.2.2.2.2.2.2.2.2.2.2.2.2.2.2.2.2.2.2.2.2.2.2.1⟩
  clear L17
  clear hg
  simp only []
  go_wp2_with fail
  have L19 : Hid ((w.grownBy v4.drew none) ∧ (v4.drew.heap[p]? = some (Obj.cells #[.int .i64 k, .int .i64 n, .slice a l c] 48)) ∧ (v4.drew.heap[(p + 1)]? = some (Obj.cells #[.int .i64 k', .int .i64 n', .slice a' l' c'] 48)) ∧ (w.heap.size = p) ∧ (SlOB v4.drew 25 44 (aw) LL.len cw (LL) bsw) ∧ (∀ x ∈ bsw, x < z0) ∧ (p + 1 < z0) ∧ (SlOB v4.drew 25 44 (a5) l0 c5 (f) bs5) ∧ (bs5.Nodup) ∧ (∀ x ∈ bs5, z0 ≤ x ∧ x < z6) ∧ (z0 ≤ z6) ∧ (v4.drew.heap[px]? = some (Obj.cells #[.int .i64 k, .int .i64 n, .slice a4 l c4] 25)) ∧ (SlO v4.drew 25 (a4) l c4 (d) bs4) ∧ (bs4.Nodup) ∧ (∀ x ∈ bs4, z6 ≤ x ∧ x < px) ∧ (z6 ≤ px) ∧ (v4.drew.heap[py]? = some (Obj.cells #[.int .i64 k', .int .i64 n', .slice a6 l' c6] 25)) ∧ (SlO v4.drew 25 (a6) l' c6 (d') bs6) ∧ (bs6.Nodup) ∧ (∀ x ∈ bs6, px < x ∧ x < py) ∧ (px < py) ∧ (SlOB v4.drew 25 44 (ag) LL.len cg (LL) bsg) ∧ (bsg.Nodup) ∧ (∀ x ∈ bsg, py < x)) := ⟨grown_trans (L18.out.1) (grown_drew (World.grownBy.refl v4 none)), (World.grownBy.block (grown_drew (World.grownBy.refl v4 none)) _ (lt_of_block (L18.out.2.1)) (by simp)).trans (L18.out.2.1), (World.grownBy.block (grown_drew (World.grownBy.refl v4 none)) _ (lt_of_block (L18.out.2.2.1)) (by simp)).trans (L18.out.2.2.1), L18.out.2.2.2.1, SlOB.old (L18.out.2.2.2.2.1) (grown_drew (World.grownBy.refl v4 none)), L18.out.2.2.2.2.2.1, L18.out.2.2.2.2.2.2.1, SlOB.old (L18.out.2.2.2.2.2.2.2.1) (grown_drew (World.grownBy.refl v4 none)), L18.out.2.2.2.2.2.2.2.2.1, L18.out.2.2.2.2.2.2.2.2.2.1, L18.out.2.2.2.2.2.2.2.2.2.2.1, (World.grownBy.block (grown_drew (World.grownBy.refl v4 none)) _ (lt_of_block (L18.out.2.2.2.2.2.2.2.2.2.2.2.1)) (by simp)).trans (L18.out.2.2.2.2.2.2.2.2.2.2.2.1), SlO.old (L18.out.2.2.2.2.2.2.2.2.2.2.2.2.1) (grown_drew (World.grownBy.refl v4 none)), L18.out.2.2.2.2.2.2.2.2.2.2.2.2.2.1, L18.out.2.2.2.2.2.2.2.2.2.2.2.2.2.2.1, L18.out.2.2.2.2.2.2.2.2.2.2.2.2.2.2.2.1, (World.grownBy.block (grown_drew (World.grownBy.refl v4 none)) _ (lt_of_block (L18.out.2.2.2.2.2.2.2.2.2.2.2.2.2.2.2.2.1)) (by simp)).trans (L18.out.2.2.2.2.2.2.2.2.2.2.2.2.2.2.2.2.1), SlO.old (L18.out.2.2.2.2.2.2.2.2.2.2.2.2.2.2.2.2.2.1) (grown_drew (World.grownBy.refl v4 none)), L18.out.2.2.2.2.2.2.2.2.2.2.2.2.2.2.2.2.2.2.1, L18.out.2.2.2.2.2.2.2.2.2.2.2.2.2.2.2.2.2.2.2.1, L18.out.2.2.2.2.2.2.2.2.2.2.2.2.2.2.2.2.2.2.2.2.1, SlOB.old (L18.out.2.2.2.2.2.2.2.2.2.2.2.2.2.2.2.2.2.2.2.2.2.1) (grown_drew (World.grownBy.refl v4 none)), L18.out.2.2.2.2.2.2.2.2.2.2.2.2.2.2.2.2.2.2.2.2.2.2.1, L18.out.2.2.2.2.2.2.2.2.2.2.2.2.2.2.2.2.2.2.2.2.2.2.2⟩
  clear L18
  refine wp_region_held_drew (S := (fun v0 => Tri p 0 (.int .i64 k) (.int .i64 n) (.slice a l c) v0 ∧ Tri px 0 (.int .i64 k) (.int .i64 n) (.slice a4 l c4) v0)) (by kernel_rfl) ⟨(three (L19.out.2.1)).1, (three (L19.out.2.2.2.2.2.2.2.2.2.2.2.1)).1⟩ (fun hH => ?_)
  generalize v4.drew = v0 at *
  simp only [List.size_toArray, List.length_cons, List.length_nil, Nat.reduceAdd, Array.replicate, List.replicate]
  refine wpAnyH_take (i := 0) (v := ?_) rfl (by kernel_rfl) (by kernel_rfl) (by kernel_rfl) (fun _ _ _ h => h) (Or.inl ⟨by rfl, ?_⟩) hH ?_
  rotate_left
  · (intro v hS; obtain ⟨⟨s00, s01, s02⟩, ⟨s10, s11, s12⟩⟩ := hS; go_simp; try with_reducible rfl)
  simp only [Act.put, List.setIfInBounds_toArray, List.set_cons_zero, List.set_cons_succ, List.getElem_toArray, List.getElem_cons_succ, List.getElem_cons_zero]
  refine wpAnyH_take (i := 1) (v := ?_) rfl (by kernel_rfl) (by kernel_rfl) (by kernel_rfl) (fun _ _ _ h => h) (Or.inl ⟨by rfl, ?_⟩) hH ?_
  rotate_left
  · (intro v hS; obtain ⟨⟨s00, s01, s02⟩, ⟨s10, s11, s12⟩⟩ := hS; go_simp; try with_reducible rfl)
  simp only [Act.put, List.setIfInBounds_toArray, List.set_cons_zero, List.set_cons_succ, List.getElem_toArray, List.getElem_cons_succ, List.getElem_cons_zero]
  refine wpAnyH_ready (rs := [2]) (by kernel_rfl) (by simp) ?_
  refine AllReadyH.cons rfl (fun K hK => ?_) AllReadyH.nil
  go_simp
  refine Calls.mono (toTr d k n a l c v0 ((HD.out.1).none (L19.out.1)) hdshpos2) ?_
  rintro e v1 ⟨a7, c7, bs7, rfl, hg, hn7⟩
  have L20 : Hid ((w.grownBy v1 none) ∧ (v1.heap[p]? = some (Obj.cells #[.int .i64 k, .int .i64 n, .slice a l c] 48)) ∧ (v1.heap[(p + 1)]? = some (Obj.cells #[.int .i64 k', .int .i64 n', .slice a' l' c'] 48)) ∧ (w.heap.size = p) ∧ (SlOB v1 25 44 (aw) LL.len cw (LL) bsw) ∧ (∀ x ∈ bsw, x < z0) ∧ (p + 1 < z0) ∧ (SlOB v1 25 44 (a5) l0 c5 (f) bs5) ∧ (bs5.Nodup) ∧ (∀ x ∈ bs5, z0 ≤ x ∧ x < z6) ∧ (z0 ≤ z6) ∧ (v1.heap[px]? = some (Obj.cells #[.int .i64 k, .int .i64 n, .slice a4 l c4] 25)) ∧ (SlO v1 25 (a4) l c4 (d) bs4) ∧ (bs4.Nodup) ∧ (∀ x ∈ bs4, z6 ≤ x ∧ x < px) ∧ (z6 ≤ px) ∧ (v1.heap[py]? = some (Obj.cells #[.int .i64 k', .int .i64 n', .slice a6 l' c6] 25)) ∧ (SlO v1 25 (a6) l' c6 (d') bs6) ∧ (bs6.Nodup) ∧ (∀ x ∈ bs6, px < x ∧ x < py) ∧ (px < py) ∧ (SlOB v1 25 44 (ag) LL.len cg (LL) bsg) ∧ (bsg.Nodup) ∧ (∀ x ∈ bsg, py < x) ∧ (SlF v1 (a7) l (d))) := ⟨grown_trans (L19.out.1) hg, (World.grownBy.block hg _ (lt_of_block (L19.out.2.1)) (by simp)).trans (L19.out.2.1), (World.grownBy.block hg _ (lt_of_block (L19.out.2.2.1)) (by simp)).trans (L19.out.2.2.1), L19.out.2.2.2.1, SlOB.old (L19.out.2.2.2.2.1) hg, L19.out.2.2.2.2.2.1, L19.out.2.2.2.2.2.2.1, SlOB.old (L19.out.2.2.2.2.2.2.2.1) hg, L19.out.2.2.2.2.2.2.2.2.1, L19.out.2.2.2.2.2.2.2.2.2.1, L19.out.2.2.2.2.2.2.2.2.2.2.1, (World.grownBy.block hg _ (lt_of_block (L19.out.2.2.2.2.2.2.2.2.2.2.2.1)) (by simp)).trans (L19.out.2.2.2.2.2.2.2.2.2.2.2.1), SlO.old (L19.out.2.2.2.2.2.2.2.2.2.2.2.2.1) hg, L19.out.2.2.2.2.2.2.2.2.2.2.2.2.2.1, L19.out.2.2.2.2.2.2.2.2.2.2.2.2.2.2.1, L19.out.2.2.2.2.2.2.2.2.2.2.2.2.2.2.2.1, (World.grownBy.block hg _ (lt_of_block (L19.out.2.2.2.2.2.2.2.2.2.2.2.2.2.2.2.2.1)) (by simp)).trans (L19.out.2.2.2.2.2.2.2.2.2.2.2.2.2.2.2.2.1), SlO.old (L19.out.2.2.2.2.2.2.2.2.2.2.2.2.2.2.2.2.2.1) hg, L19.out.2.2.2.2.2.2.2.2.2.2.2.2.2.2.2.2.2.2.1, L19.out.2.2.2.2.2.2.2.2.2.2.2.2.2.2.2.2.2.2.2.1, L19.out.2.2.2.2.2.2.2.2.2.2.2.2.2.2.2.2.2.2.2.2.1, SlOB.old (L19.out.2.2.2.2.2.2.2.2.2.2.2.2.2.2.2.2.2.2.2.2.2.1) hg, L19.out.2.2.2.2.2.2.2.2.2.2.2.2.2.2.2.2.2.2.2.2.2.2.1, L19.out.2.2.2.2.2.2.2.2.2.2.2.2.2.2.2.2.2.2.2.2.2.2.2, hn7.1.reads⟩
  clear L19
  refine hK.out _ _ ⟨(three (L20.out.2.1)).1, (three (L20.out.2.2.2.2.2.2.2.2.2.2.2.1)).1⟩ (fun hH2 => ?_)
  clear hK K hH
  have hH := hH2
  clear hH2 hg
  simp only [Act.put, List.setIfInBounds_toArray, List.set_cons_zero, List.set_cons_succ, List.getElem_toArray, List.getElem_cons_succ, List.getElem_cons_zero]
  clear hn7
  refine wpAnyH_ready (rs := [3]) (by kernel_rfl) (by simp) ?_
  refine AllReadyH.cons rfl (fun K hK => ?_) AllReadyH.nil
  go_simp
  refine Calls.mono (eqTr d k n a4 a7 l c4 c7 v1 (SlO.reads (L20.out.2.2.2.2.2.2.2.2.2.2.2.2.1)) (L20.out.2.2.2.2.2.2.2.2.2.2.2.2.2.2.2.2.2.2.2.2.2.2.2.2)) ?_
  rintro e v2 ⟨rfl, hg⟩
  have L21 : Hid ((w.grownBy v2 none) ∧ (v2.heap[p]? = some (Obj.cells #[.int .i64 k, .int .i64 n, .slice a l c] 48)) ∧ (v2.heap[(p + 1)]? = some (Obj.cells #[.int .i64 k', .int .i64 n', .slice a' l' c'] 48)) ∧ (w.heap.size = p) ∧ (SlOB v2 25 44 (aw) LL.len cw (LL) bsw) ∧ (∀ x ∈ bsw, x < z0) ∧ (p + 1 < z0) ∧ (SlOB v2 25 44 (a5) l0 c5 (f) bs5) ∧ (bs5.Nodup) ∧ (∀ x ∈ bs5, z0 ≤ x ∧ x < z6) ∧ (z0 ≤ z6) ∧ (v2.heap[px]? = some (Obj.cells #[.int .i64 k, .int .i64 n, .slice a4 l c4] 25)) ∧ (SlO v2 25 (a4) l c4 (d) bs4) ∧ (bs4.Nodup) ∧ (∀ x ∈ bs4, z6 ≤ x ∧ x < px) ∧ (z6 ≤ px) ∧ (v2.heap[py]? = some (Obj.cells #[.int .i64 k', .int .i64 n', .slice a6 l' c6] 25)) ∧ (SlO v2 25 (a6) l' c6 (d') bs6) ∧ (bs6.Nodup) ∧ (∀ x ∈ bs6, px < x ∧ x < py) ∧ (px < py) ∧ (SlOB v2 25 44 (ag) LL.len cg (LL) bsg) ∧ (bsg.Nodup) ∧ (∀ x ∈ bsg, py < x)) := ⟨grown_trans (L20.out.1) hg, (World.grownBy.block hg _ (lt_of_block (L20.out.2.1)) (by simp)).trans (L20.out.2.1), (World.grownBy.block hg _ (lt_of_block (L20.out.2.2.1)) (by simp)).trans (L20.out.2.2.1), L20.out.2.2.2.1, SlOB.old (L20.out.2.2.2.2.1) hg, L20.out.2.2.2.2.2.1, L20.out.2.2.2.2.2.2.1, SlOB.old (L20.out.2.2.2.2.2.2.2.1) hg, L20.out.2.2.2.2.2.2.2.2.1, L20.out.2.2.2.2.2.2.2.2.2.1, L20.out.2.2.2.2.2.2.2.2.2.2.1, (World.grownBy.block hg _ (lt_of_block (L20.out.2.2.2.2.2.2.2.2.2.2.2.1)) (by simp)).trans (L20.out.2.2.2.2.2.2.2.2.2.2.2.1), SlO.old (L20.out.2.2.2.2.2.2.2.2.2.2.2.2.1) hg, L20.out.2.2.2.2.2.2.2.2.2.2.2.2.2.1, L20.out.2.2.2.2.2.2.2.2.2.2.2.2.2.2.1, L20.out.2.2.2.2.2.2.2.2.2.2.2.2.2.2.2.1, (World.grownBy.block hg _ (lt_of_block (L20.out.2.2.2.2.2.2.2.2.2.2.2.2.2.2.2.2.1)) (by simp)).trans (L20.out.2.2.2.2.2.2.2.2.2.2.2.2.2.2.2.2.1), SlO.old (L20.out.2.2.2.2.2.2.2.2.2.2.2.2.2.2.2.2.2.1) hg, L20.out.2.2.2.2.2.2.2.2.2.2.2.2.2.2.2.2.2.2.1, L20.out.2.2.2.2.2.2.2.2.2.2.2.2.2.2.2.2.2.2.2.1, L20.out.2.2.2.2.2.2.2.2.2.2.2.2.2.2.2.2.2.2.2.2.1, SlOB.old (L20.out.2.2.2.2.2.2.2.2.2.2.2.2.2.2.2.2.2.2.2.2.2.1) hg, L20.out.2.2.2.2.2.2.2.2.2.2.2.2.2.2.2.2.2.2.2.2.2.2.1, L20.out.2.2.2.2.2.2.2.2.2.2.2.2.2.2.2.2.2.2.2.2.2.2.2.1⟩
  clear L20
  refine hK.out _ _ ⟨(three (L21.out.2.1)).1, (three (L21.out.2.2.2.2.2.2.2.2.2.2.2.1)).1⟩ (fun hH2 => ?_)
  clear hK K hH
  have hH := hH2
  clear hH2 hg
  simp only [Act.put, List.setIfInBounds_toArray, List.set_cons_zero, List.set_cons_succ, List.getElem_toArray, List.getElem_cons_succ, List.getElem_cons_zero]
  refine wpAnyH_take (i := 4) (v := ?_) rfl (by kernel_rfl) (by kernel_rfl) (by kernel_rfl) (fun _ _ _ h => h) (Or.inl ⟨by rfl, ?_⟩) hH ?_
  rotate_left
  · (intro v hS; go_simp; try with_reducible rfl)
  simp only [Act.put, List.setIfInBounds_toArray, List.set_cons_zero, List.set_cons_succ, List.getElem_toArray, List.getElem_cons_succ, List.getElem_cons_zero]
  refine wpAnyH_done (by kernel_rfl) ?_ _
  clear hH
  go_wp2_with fail
  have L22 : Hid ((w.grownBy v2.drew none) ∧ (v2.drew.heap[p]? = some (Obj.cells #[.int .i64 k, .int .i64 n, .slice a l c] 48)) ∧ (v2.drew.heap[(p + 1)]? = some (Obj.cells #[.int .i64 k', .int .i64 n', .slice a' l' c'] 48)) ∧ (w.heap.size = p) ∧ (SlOB v2.drew 25 44 (aw) LL.len cw (LL) bsw) ∧ (∀ x ∈ bsw, x < z0) ∧ (p + 1 < z0) ∧ (SlOB v2.drew 25 44 (a5) l0 c5 (f) bs5) ∧ (bs5.Nodup) ∧ (∀ x ∈ bs5, z0 ≤ x ∧ x < z6) ∧ (z0 ≤ z6) ∧ (v2.drew.heap[px]? = some (Obj.cells #[.int .i64 k, .int .i64 n, .slice a4 l c4] 25)) ∧ (SlO v2.drew 25 (a4) l c4 (d) bs4) ∧ (bs4.Nodup) ∧ (∀ x ∈ bs4, z6 ≤ x ∧ x < px) ∧ (z6 ≤ px) ∧ (v2.drew.heap[py]? = some (Obj.cells #[.int .i64 k', .int .i64 n', .slice a6 l' c6] 25)) ∧ (SlO v2.drew 25 (a6) l' c6 (d') bs6) ∧ (bs6.Nodup) ∧ (∀ x ∈ bs6, px < x ∧ x < py) ∧ (px < py) ∧ (SlOB v2.drew 25 44 (ag) LL.len cg (LL) bsg) ∧ (bsg.Nodup) ∧ (∀ x ∈ bsg, py < x)) := ⟨grown_trans (L21.out.1) (grown_drew (World.grownBy.refl v2 none)), (World.grownBy.block (grown_drew (World.grownBy.refl v2 none)) _ (lt_of_block (L21.out.2.1)) (by simp)).trans (L21.out.2.1), (World.grownBy.block (grown_drew (World.grownBy.refl v2 none)) _ (lt_of_block (L21.out.2.2.1)) (by simp)).trans (L21.out.2.2.1), L21.out.2.2.2.1, SlOB.old (L21.out.2.2.2.2.1) (grown_drew (World.grownBy.refl v2 none)), L21.out.2.2.2.2.2.1, L21.out.2.2.2.2.2.2.1, SlOB.old (L21.out.2.2.2.2.2.2.2.1) (grown_drew (World.grownBy.refl v2 none)), L21.out.2.2.2.2.2.2.2.2.1, L21.out.2.2.2.2.2.2.2.2.2.1, L21.out.2.2.2.2.2.2.2.2.2.2.1, (World.grownBy.block (grown_drew (World.grownBy.refl v2 none)) _ (lt_of_block (L21.out.2.2.2.2.2.2.2.2.2.2.2.1)) (by simp)).trans (L21.out.2.2.2.2.2.2.2.2.2.2.2.1), SlO.old (L21.out.2.2.2.2.2.2.2.2.2.2.2.2.1) (grown_drew (World.grownBy.refl v2 none)), L21.out.2.2.2.2.2.2.2.2.2.2.2.2.2.1, L21.out.2.2.2.2.2.2.2.2.2.2.2.2.2.2.1, L21.out.2.2.2.2.2.2.2.2.2.2.2.2.2.2.2.1, (World.grownBy.block (grown_drew (World.grownBy.refl v2 none)) _ (lt_of_block (L21.out.2.2.2.2.2.2.2.2.2.2.2.2.2.2.2.2.1)) (by simp)).trans (L21.out.2.2.2.2.2.2.2.2.2.2.2.2.2.2.2.2.1), SlO.old (L21.out.2.2.2.2.2.2.2.2.2.2.2.2.2.2.2.2.2.1) (grown_drew (World.grownBy.refl v2 none)), L21.out.2.2.2.2.2.2.2.2.2.2.2.2.2.2.2.2.2.2.1, L21.out.2.2.2.2.2.2.2.2.2.2.2.2.2.2.2.2.2.2.2.1, L21.out.2.2.2.2.2.2.2.2.2.2.2.2.2.2.2.2.2.2.2.2.1, SlOB.old (L21.out.2.2.2.2.2.2.2.2.2.2.2.2.2.2.2.2.2.2.2.2.2.1) (grown_drew (World.grownBy.refl v2 none)), L21.out.2.2.2.2.2.2.2.2.2.2.2.2.2.2.2.2.2.2.2.2.2.2.1, L21.out.2.2.2.2.2.2.2.2.2.2.2.2.2.2.2.2.2.2.2.2.2.2.2⟩
  clear L21
  refine wp_region_held_drew (S := (fun y0 => Tri (p + 1) 0 (.int .i64 k') (.int .i64 n') (.slice a' l' c') y0 ∧ Tri py 0 (.int .i64 k') (.int .i64 n') (.slice a6 l' c6) y0)) (by kernel_rfl) ⟨(three (L22.out.2.2.1)).1, (three (L22.out.2.2.2.2.2.2.2.2.2.2.2.2.2.2.2.2.1)).1⟩ (fun hH => ?_)
  generalize v2.drew = y0 at *
  simp only [List.size_toArray, List.length_cons, List.length_nil, Nat.reduceAdd, Array.replicate, List.replicate]
  refine wpAnyH_take (i := 0) (v := ?_) rfl (by kernel_rfl) (by kernel_rfl) (by kernel_rfl) (fun _ _ _ h => h) (Or.inl ⟨by rfl, ?_⟩) hH ?_
  rotate_left
  · (intro v hS; obtain ⟨⟨s00, s01, s02⟩, ⟨s10, s11, s12⟩⟩ := hS; go_simp; try with_reducible rfl)
  simp only [Act.put, List.setIfInBounds_toArray, List.set_cons_zero, List.set_cons_succ, List.getElem_toArray, List.getElem_cons_succ, List.getElem_cons_zero]
  refine wpAnyH_take (i := 1) (v := ?_) rfl (by kernel_rfl) (by kernel_rfl) (by kernel_rfl) (fun _ _ _ h => h) (Or.inl ⟨by rfl, ?_⟩) hH ?_
  rotate_left
  · (intro v hS; obtain ⟨⟨s00, s01, s02⟩, ⟨s10, s11, s12⟩⟩ := hS; go_simp; try with_reducible rfl)
  simp only [Act.put, List.setIfInBounds_toArray, List.set_cons_zero, List.set_cons_succ, List.getElem_toArray, List.getElem_cons_succ, List.getElem_cons_zero]
  refine wpAnyH_ready (rs := [2]) (by kernel_rfl) (by simp) ?_
  refine AllReadyH.cons rfl (fun K hK => ?_) AllReadyH.nil
  go_simp
  refine Calls.mono (toTr d' k' n' a' l' c' y0 ((HD.out.2.2).none (L22.out.1)) hdshpos3) ?_
  rintro e y1 ⟨a7, c7, bs7, rfl, hg, hn7⟩
  have L23 : Hid ((w.grownBy y1 none) ∧ (y1.heap[p]? = some (Obj.cells #[.int .i64 k, .int .i64 n, .slice a l c] 48)) ∧ (y1.heap[(p + 1)]? = some (Obj.cells #[.int .i64 k', .int .i64 n', .slice a' l' c'] 48)) ∧ (w.heap.size = p) ∧ (SlOB y1 25 44 (aw) LL.len cw (LL) bsw) ∧ (∀ x ∈ bsw, x < z0) ∧ (p + 1 < z0) ∧ (SlOB y1 25 44 (a5) l0 c5 (f) bs5) ∧ (bs5.Nodup) ∧ (∀ x ∈ bs5, z0 ≤ x ∧ x < z6) ∧ (z0 ≤ z6) ∧ (y1.heap[px]? = some (Obj.cells #[.int .i64 k, .int .i64 n, .slice a4 l c4] 25)) ∧ (SlO y1 25 (a4) l c4 (d) bs4) ∧ (bs4.Nodup) ∧ (∀ x ∈ bs4, z6 ≤ x ∧ x < px) ∧ (z6 ≤ px) ∧ (y1.heap[py]? = some (Obj.cells #[.int .i64 k', .int .i64 n', .slice a6 l' c6] 25)) ∧ (SlO y1 25 (a6) l' c6 (d') bs6) ∧ (bs6.Nodup) ∧ (∀ x ∈ bs6, px < x ∧ x < py) ∧ (px < py) ∧ (SlOB y1 25 44 (ag) LL.len cg (LL) bsg) ∧ (bsg.Nodup) ∧ (∀ x ∈ bsg, py < x) ∧ (SlF y1 (a7) l' (d'))) := ⟨grown_trans (L22.out.1) hg, (World.grownBy.block hg _ (lt_of_block (L22.out.2.1)) (by simp)).trans (L22.out.2.1), (World.grownBy.block hg _ (lt_of_block (L22.out.2.2.1)) (by simp)).trans (L22.out.2.2.1), L22.out.2.2.2.1, SlOB.old (L22.out.2.2.2.2.1) hg, L22.out.2.2.2.2.2.1, L22.out.2.2.2.2.2.2.1, SlOB.old (L22.out.2.2.2.2.2.2.2.1) hg, L22.out.2.2.2.2.2.2.2.2.1, L22.out.2.2.2.2.2.2.2.2.2.1, L22.out.2.2.2.2.2.2.2.2.2.2.1, (World.grownBy.block hg _ (lt_of_block (L22.out.2.2.2.2.2.2.2.2.2.2.2.1)) (by simp)).trans (L22.out.2.2.2.2.2.2.2.2.2.2.2.1), SlO.old (L22.out.2.2.2.2.2.2.2.2.2.2.2.2.1) hg, L22.out.2.2.2.2.2.2.2.2.2.2.2.2.2.1, L22.out.2.2.2.2.2.2.2.2.2.2.2.2.2.2.1, L22.out.2.2.2.2.2.2.2.2.2.2.2.2.2.2.2.1, (World.grownBy.block hg _ (lt_of_block (L22.out.2.2.2.2.2.2.2.2.2.2.2.2.2.2.2.2.1)) (by simp)).trans (L22.out.2.2.2.2.2.2.2.2.2.2.2.2.2.2.2.2.1), SlO.old (L22.out.2.2.2.2.2.2.2.2.2.2.2.2.2.2.2.2.2.1) hg, L22.out.2.2.2.2.2.2.2.2.2.2.2.2.2.2.2.2.2.2.1, L22.out.2.2.2.2.2.2.2.2.2.2.2.2.2.2.2.2.2.2.2.1, L22.out.2.2.2.2.2.2.2.2.2.2.2.2.2.2.2.2.2.2.2.2.1, SlOB.old (L22.out.2.2.2.2.2.2.2.2.2.2.2.2.2.2.2.2.2.2.2.2.2.1) hg, L22.out.2.2.2.2.2.2.2.2.2.2.2.2.2.2.2.2.2.2.2.2.2.2.1, L22.out.2.2.2.2.2.2.2.2.2.2.2.2.2.2.2.2.2.2.2.2.2.2.2, hn7.1.reads⟩
  clear L22
  refine hK.out _ _ ⟨(three (L23.out.2.2.1)).1, (three (L23.out.2.2.2.2.2.2.2.2.2.2.2.2.2.2.2.2.1)).1⟩ (fun hH2 => ?_)
  clear hK K hH
  have hH := hH2
  clear hH2 hg
  simp only [Act.put, List.setIfInBounds_toArray, List.set_cons_zero, List.set_cons_succ, List.getElem_toArray, List.getElem_cons_succ, List.getElem_cons_zero]
  clear hn7
  refine wpAnyH_ready (rs := [3]) (by kernel_rfl) (by simp) ?_
  refine AllReadyH.cons rfl (fun K hK => ?_) AllReadyH.nil
  go_simp
  refine Calls.mono (eqTr d' k' n' a6 a7 l' c6 c7 y1 (SlO.reads (L23.out.2.2.2.2.2.2.2.2.2.2.2.2.2.2.2.2.2.1)) (L23.out.2.2.2.2.2.2.2.2.2.2.2.2.2.2.2.2.2.2.2.2.2.2.2.2)) ?_
  rintro e y2 ⟨rfl, hg⟩
  have L24 : Hid ((w.grownBy y2 none) ∧ (y2.heap[p]? = some (Obj.cells #[.int .i64 k, .int .i64 n, .slice a l c] 48)) ∧ (y2.heap[(p + 1)]? = some (Obj.cells #[.int .i64 k', .int .i64 n', .slice a' l' c'] 48)) ∧ (w.heap.size = p) ∧ (SlOB y2 25 44 (aw) LL.len cw (LL) bsw) ∧ (∀ x ∈ bsw, x < z0) ∧ (p + 1 < z0) ∧ (SlOB y2 25 44 (a5) l0 c5 (f) bs5) ∧ (bs5.Nodup) ∧ (∀ x ∈ bs5, z0 ≤ x ∧ x < z6) ∧ (z0 ≤ z6) ∧ (y2.heap[px]? = some (Obj.cells #[.int .i64 k, .int .i64 n, .slice a4 l c4] 25)) ∧ (SlO y2 25 (a4) l c4 (d) bs4) ∧ (bs4.Nodup) ∧ (∀ x ∈ bs4, z6 ≤ x ∧ x < px) ∧ (z6 ≤ px) ∧ (y2.heap[py]? = some (Obj.cells #[.int .i64 k', .int .i64 n', .slice a6 l' c6] 25)) ∧ (SlO y2 25 (a6) l' c6 (d') bs6) ∧ (bs6.Nodup) ∧ (∀ x ∈ bs6, px < x ∧ x < py) ∧ (px < py) ∧ (SlOB y2 25 44 (ag) LL.len cg (LL) bsg) ∧ (bsg.Nodup) ∧ (∀ x ∈ bsg, py < x)) := ⟨grown_trans (L23.out.1) hg, (World.grownBy.block hg _ (lt_of_block (L23.out.2.1)) (by simp)).trans (L23.out.2.1), (World.grownBy.block hg _ (lt_of_block (L23.out.2.2.1)) (by simp)).trans (L23.out.2.2.1), L23.out.2.2.2.1, SlOB.old (L23.out.2.2.2.2.1) hg, L23.out.2.2.2.2.2.1, L23.out.2.2.2.2.2.2.1, SlOB.old (L23.out.2.2.2.2.2.2.2.1) hg, L23.out.2.2.2.2.2.2.2.2.1, L23.out.2.2.2.2.2.2.2.2.2.1, L23.out.2.2.2.2.2.2.2.2.2.2.1, (World.grownBy.block hg _ (lt_of_block (L23.out.2.2.2.2.2.2.2.2.2.2.2.1)) (by simp)).trans (L23.out.2.2.2.2.2.2.2.2.2.2.2.1), SlO.old (L23.out.2.2.2.2.2.2.2.2.2.2.2.2.1) hg, L23.out.2.2.2.2.2.2.2.2.2.2.2.2.2.1, L23.out.2.2.2.2.2.2.2.2.2.2.2.2.2.2.1, L23.out.2.2.2.2.2.2.2.2.2.2.2.2.2.2.2.1, (World.grownBy.block hg _ (lt_of_block (L23.out.2.2.2.2.2.2.2.2.2.2.2.2.2.2.2.2.1)) (by simp)).trans (L23.out.2.2.2.2.2.2.2.2.2.2.2.2.2.2.2.2.1), SlO.old (L23.out.2.2.2.2.2.2.2.2.2.2.2.2.2.2.2.2.2.1) hg, L23.out.2.2.2.2.2.2.2.2.2.2.2.2.2.2.2.2.2.2.1, L23.out.2.2.2.2.2.2.2.2.2.2.2.2.2.2.2.2.2.2.2.1, L23.out.2.2.2.2.2.2.2.2.2.2.2.2.2.2.2.2.2.2.2.2.1, SlOB.old (L23.out.2.2.2.2.2.2.2.2.2.2.2.2.2.2.2.2.2.2.2.2.2.1) hg, L23.out.2.2.2.2.2.2.2.2.2.2.2.2.2.2.2.2.2.2.2.2.2.2.1, L23.out.2.2.2.2.2.2.2.2.2.2.2.2.2.2.2.2.2.2.2.2.2.2.2.1⟩
  clear L23
  refine hK.out _ _ ⟨(three (L24.out.2.2.1)).1, (three (L24.out.2.2.2.2.2.2.2.2.2.2.2.2.2.2.2.2.1)).1⟩ (fun hH2 => ?_)
  clear hK K hH
  have hH := hH2
  clear hH2 hg
  simp only [Act.put, List.setIfInBounds_toArray, List.set_cons_zero, List.set_cons_succ, List.getElem_toArray, List.getElem_cons_succ, List.getElem_cons_zero]
  refine wpAnyH_take (i := 4) (v := ?_) rfl (by kernel_rfl) (by kernel_rfl) (by kernel_rfl) (fun _ _ _ h => h) (Or.inl ⟨by rfl, ?_⟩) hH ?_
  rotate_left
  · (intro v hS; go_simp; try with_reducible rfl)
  simp only [Act.put, List.setIfInBounds_toArray, List.set_cons_zero, List.set_cons_succ, List.getElem_toArray, List.getElem_cons_succ, List.getElem_cons_zero]
  refine wpAnyH_done (by kernel_rfl) ?_ _
  clear hH
  go_wp2_with fail
  refine Calls.mono (markBs f a5 l0 c5 bs5 1 y2 (L24.out.2.2.2.2.2.2.2.1) (L24.out.2.2.2.2.2.2.2.2.1) (by omega) (by omega)) ?_
  rintro e v5 ⟨rfl, ht, -⟩
  have ep := L24.out.2.2.2.1
  have qw := L24.out.2.2.2.2.2.1
  have o1 := L24.out.2.2.2.2.2.2.1
  have q5 := L24.out.2.2.2.2.2.2.2.2.2.1
  have o3 := L24.out.2.2.2.2.2.2.2.2.2.2.1
  have q4 := L24.out.2.2.2.2.2.2.2.2.2.2.2.2.2.2.1
  have o4 := L24.out.2.2.2.2.2.2.2.2.2.2.2.2.2.2.2.1
  have q6 := L24.out.2.2.2.2.2.2.2.2.2.2.2.2.2.2.2.2.2.2.2.1
  have o5 := L24.out.2.2.2.2.2.2.2.2.2.2.2.2.2.2.2.2.2.2.2.2.1
  have qg := L24.out.2.2.2.2.2.2.2.2.2.2.2.2.2.2.2.2.2.2.2.2.2.2.2
  have L25 : Hid ((w.grownBy v5 none) ∧ (v5.heap[p]? = some (Obj.cells #[.int .i64 k, .int .i64 n, .slice a l c] 48)) ∧ (v5.heap[(p + 1)]? = some (Obj.cells #[.int .i64 k', .int .i64 n', .slice a' l' c'] 48)) ∧ (w.heap.size = p) ∧ (SlOB v5 25 44 (aw) LL.len cw (LL) bsw) ∧ (∀ x ∈ bsw, x < z0) ∧ (p + 1 < z0) ∧ (∀ x ∈ bs5, z0 ≤ x ∧ x < z6) ∧ (z0 ≤ z6) ∧ (v5.heap[px]? = some (Obj.cells #[.int .i64 k, .int .i64 n, .slice a4 l c4] 25)) ∧ (SlO v5 25 (a4) l c4 (d) bs4) ∧ (bs4.Nodup) ∧ (∀ x ∈ bs4, z6 ≤ x ∧ x < px) ∧ (z6 ≤ px) ∧ (v5.heap[py]? = some (Obj.cells #[.int .i64 k', .int .i64 n', .slice a6 l' c6] 25)) ∧ (SlO v5 25 (a6) l' c6 (d') bs6) ∧ (bs6.Nodup) ∧ (∀ x ∈ bs6, px < x ∧ x < py) ∧ (px < py) ∧ (SlOB v5 25 44 (ag) LL.len cg (LL) bsg) ∧ (bsg.Nodup) ∧ (∀ x ∈ bsg, py < x)) := ⟨Tn.fresh (L24.out.1) ht (fun x hx => by have := q5 x hx; omega), (ht.block _ (lt_of_block (L24.out.2.1)) (fun hx => by have := q5 _ hx; omega)).trans (L24.out.2.1), (ht.block _ (lt_of_block (L24.out.2.2.1)) (fun hx => by have := q5 _ hx; omega)).trans (L24.out.2.2.1), L24.out.2.2.2.1, SlOB.of (L24.out.2.2.2.2.1) (fun y hy => ht.block y (SlOB.lt (L24.out.2.2.2.2.1) y hy) (fun hx => by have h1 := q5 y hx; have h2 := qw y hy; omega)), L24.out.2.2.2.2.2.1, L24.out.2.2.2.2.2.2.1, L24.out.2.2.2.2.2.2.2.2.2.1, L24.out.2.2.2.2.2.2.2.2.2.2.1, (ht.block _ (lt_of_block (L24.out.2.2.2.2.2.2.2.2.2.2.2.1)) (fun hx => by have := q5 _ hx; omega)).trans (L24.out.2.2.2.2.2.2.2.2.2.2.2.1), SlO.of (L24.out.2.2.2.2.2.2.2.2.2.2.2.2.1) (fun y hy => ht.block y (SlO.lt (L24.out.2.2.2.2.2.2.2.2.2.2.2.2.1) y hy) (fun hx => by have h1 := q5 y hx; have h2 := q4 y hy; omega)), L24.out.2.2.2.2.2.2.2.2.2.2.2.2.2.1, L24.out.2.2.2.2.2.2.2.2.2.2.2.2.2.2.1, L24.out.2.2.2.2.2.2.2.2.2.2.2.2.2.2.2.1, (ht.block _ (lt_of_block (L24.out.2.2.2.2.2.2.2.2.2.2.2.2.2.2.2.2.1)) (fun hx => by have := q5 _ hx; omega)).trans (L24.out.2.2.2.2.2.2.2.2.2.2.2.2.2.2.2.2.1), SlO.of (L24.out.2.2.2.2.2.2.2.2.2.2.2.2.2.2.2.2.2.1) (fun y hy => ht.block y (SlO.lt (L24.out.2.2.2.2.2.2.2.2.2.2.2.2.2.2.2.2.2.1) y hy) (fun hx => by have h1 := q5 y hx; have h2 := q6 y hy; omega)), L24.out.2.2.2.2.2.2.2.2.2.2.2.2.2.2.2.2.2.2.1, L24.out.2.2.2.2.2.2.2.2.2.2.2.2.2.2.2.2.2.2.2.1, L24.out.2.2.2.2.2.2.2.2.2.2.2.2.2.2.2.2.2.2.2.2.1, SlOB.of (L24.out.2.2.2.2.2.2.2.2.2.2.2.2.2.2.2.2.2.2.2.2.2.1) (fun y hy => ht.block y (SlOB.lt (L24.out.2.2.2.2.2.2.2.2.2.2.2.2.2.2.2.2.2.2.2.2.2.1) y hy) (fun hx => by have h1 := q5 y hx; have h2 := qg y hy; omega)), L24.out.2.2.2.2.2.2.2.2.2.2.2.2.2.2.2.2.2.2.2.2.2.2.1, L24.out.2.2.2.2.2.2.2.2.2.2.2.2.2.2.2.2.2.2.2.2.2.2.2⟩
  clear L24
  clear ep qw o1 q5 o3 q4 o4 q6 o5 qg
  clear ht
  simp only []
  obtain ⟨⟨x8_0, x8_1, x8_2⟩, -⟩ := three (L25.out.2.2.2.2.2.2.2.2.2.1)
  go_wp2_with fail
  refine Calls.mono (markTr d k n a4 l c4 bs4 (1 + 2 * f.size + f.len) v5 (L25.out.2.2.2.2.2.2.2.2.2.2.1) (L25.out.2.2.2.2.2.2.2.2.2.2.2.1) (by omega) (by omega)) ?_
  rintro e v6 ⟨rfl, ht, -⟩
  have ep := L25.out.2.2.2.1
  have qw := L25.out.2.2.2.2.2.1
  have o1 := L25.out.2.2.2.2.2.2.1
  have q5 := L25.out.2.2.2.2.2.2.2.1
  have o3 := L25.out.2.2.2.2.2.2.2.2.1
  have q4 := L25.out.2.2.2.2.2.2.2.2.2.2.2.2.1
  have o4 := L25.out.2.2.2.2.2.2.2.2.2.2.2.2.2.1
  have q6 := L25.out.2.2.2.2.2.2.2.2.2.2.2.2.2.2.2.2.2.1
  have o5 := L25.out.2.2.2.2.2.2.2.2.2.2.2.2.2.2.2.2.2.2.1
  have qg := L25.out.2.2.2.2.2.2.2.2.2.2.2.2.2.2.2.2.2.2.2.2.2
  have L26 : Hid ((w.grownBy v6 none) ∧ (v6.heap[p]? = some (Obj.cells #[.int .i64 k, .int .i64 n, .slice a l c] 48)) ∧ (v6.heap[(p + 1)]? = some (Obj.cells #[.int .i64 k', .int .i64 n', .slice a' l' c'] 48)) ∧ (w.heap.size = p) ∧ (SlOB v6 25 44 (aw) LL.len cw (LL) bsw) ∧ (∀ x ∈ bsw, x < z0) ∧ (p + 1 < z0) ∧ (∀ x ∈ bs5, z0 ≤ x ∧ x < z6) ∧ (z0 ≤ z6) ∧ (v6.heap[px]? = some (Obj.cells #[.int .i64 k, .int .i64 n, .slice a4 l c4] 25)) ∧ (∀ x ∈ bs4, z6 ≤ x ∧ x < px) ∧ (z6 ≤ px) ∧ (v6.heap[py]? = some (Obj.cells #[.int .i64 k', .int .i64 n', .slice a6 l' c6] 25)) ∧ (SlO v6 25 (a6) l' c6 (d') bs6) ∧ (bs6.Nodup) ∧ (∀ x ∈ bs6, px < x ∧ x < py) ∧ (px < py) ∧ (SlOB v6 25 44 (ag) LL.len cg (LL) bsg) ∧ (bsg.Nodup) ∧ (∀ x ∈ bsg, py < x)) := ⟨Tn.fresh (L25.out.1) ht (fun x hx => by have := q4 x hx; omega), (ht.block _ (lt_of_block (L25.out.2.1)) (fun hx => by have := q4 _ hx; omega)).trans (L25.out.2.1), (ht.block _ (lt_of_block (L25.out.2.2.1)) (fun hx => by have := q4 _ hx; omega)).trans (L25.out.2.2.1), L25.out.2.2.2.1, SlOB.of (L25.out.2.2.2.2.1) (fun y hy => ht.block y (SlOB.lt (L25.out.2.2.2.2.1) y hy) (fun hx => by have h1 := q4 y hx; have h2 := qw y hy; omega)), L25.out.2.2.2.2.2.1, L25.out.2.2.2.2.2.2.1, L25.out.2.2.2.2.2.2.2.1, L25.out.2.2.2.2.2.2.2.2.1, (ht.block _ (lt_of_block (L25.out.2.2.2.2.2.2.2.2.2.1)) (fun hx => by have := q4 _ hx; omega)).trans (L25.out.2.2.2.2.2.2.2.2.2.1), L25.out.2.2.2.2.2.2.2.2.2.2.2.2.1, L25.out.2.2.2.2.2.2.2.2.2.2.2.2.2.1, (ht.block _ (lt_of_block (L25.out.2.2.2.2.2.2.2.2.2.2.2.2.2.2.1)) (fun hx => by have := q4 _ hx; omega)).trans (L25.out.2.2.2.2.2.2.2.2.2.2.2.2.2.2.1), SlO.of (L25.out.2.2.2.2.2.2.2.2.2.2.2.2.2.2.2.1) (fun y hy => ht.block y (SlO.lt (L25.out.2.2.2.2.2.2.2.2.2.2.2.2.2.2.2.1) y hy) (fun hx => by have h1 := q4 y hx; have h2 := q6 y hy; omega)), L25.out.2.2.2.2.2.2.2.2.2.2.2.2.2.2.2.2.1, L25.out.2.2.2.2.2.2.2.2.2.2.2.2.2.2.2.2.2.1, L25.out.2.2.2.2.2.2.2.2.2.2.2.2.2.2.2.2.2.2.1, SlOB.of (L25.out.2.2.2.2.2.2.2.2.2.2.2.2.2.2.2.2.2.2.2.1) (fun y hy => ht.block y (SlOB.lt (L25.out.2.2.2.2.2.2.2.2.2.2.2.2.2.2.2.2.2.2.2.1) y hy) (fun hx => by have h1 := q4 y hx; have h2 := qg y hy; omega)), L25.out.2.2.2.2.2.2.2.2.2.2.2.2.2.2.2.2.2.2.2.2.1, L25.out.2.2.2.2.2.2.2.2.2.2.2.2.2.2.2.2.2.2.2.2.2⟩
  clear L25 x8_0 x8_1 x8_2
  clear ep qw o1 q5 o3 q4 o4 q6 o5 qg
  clear ht
  simp only []
  obtain ⟨⟨x9_0, x9_1, x9_2⟩, -⟩ := three (L26.out.2.2.2.2.2.2.2.2.2.2.2.2.1)
  go_wp2_with fail
  refine Calls.mono (markTr d' k' n' a6 l' c6 bs6 (1 + 2 * f.size + f.len + 2 * d.size) v6 (L26.out.2.2.2.2.2.2.2.2.2.2.2.2.2.1) (L26.out.2.2.2.2.2.2.2.2.2.2.2.2.2.2.1) (by omega) (by omega)) ?_
  rintro e v7 ⟨rfl, ht, -⟩
  have ep := L26.out.2.2.2.1
  have qw := L26.out.2.2.2.2.2.1
  have o1 := L26.out.2.2.2.2.2.2.1
  have q5 := L26.out.2.2.2.2.2.2.2.1
  have o3 := L26.out.2.2.2.2.2.2.2.2.1
  have q4 := L26.out.2.2.2.2.2.2.2.2.2.2.1
  have o4 := L26.out.2.2.2.2.2.2.2.2.2.2.2.1
  have q6 := L26.out.2.2.2.2.2.2.2.2.2.2.2.2.2.2.2.1
  have o5 := L26.out.2.2.2.2.2.2.2.2.2.2.2.2.2.2.2.2.1
  have qg := L26.out.2.2.2.2.2.2.2.2.2.2.2.2.2.2.2.2.2.2.2
  have L27 : Hid ((w.grownBy v7 none) ∧ (v7.heap[p]? = some (Obj.cells #[.int .i64 k, .int .i64 n, .slice a l c] 48)) ∧ (v7.heap[(p + 1)]? = some (Obj.cells #[.int .i64 k', .int .i64 n', .slice a' l' c'] 48)) ∧ (w.heap.size = p) ∧ (SlOB v7 25 44 (aw) LL.len cw (LL) bsw) ∧ (∀ x ∈ bsw, x < z0) ∧ (p + 1 < z0) ∧ (∀ x ∈ bs5, z0 ≤ x ∧ x < z6) ∧ (z0 ≤ z6) ∧ (v7.heap[px]? = some (Obj.cells #[.int .i64 k, .int .i64 n, .slice a4 l c4] 25)) ∧ (∀ x ∈ bs4, z6 ≤ x ∧ x < px) ∧ (z6 ≤ px) ∧ (v7.heap[py]? = some (Obj.cells #[.int .i64 k', .int .i64 n', .slice a6 l' c6] 25)) ∧ (∀ x ∈ bs6, px < x ∧ x < py) ∧ (px < py) ∧ (SlOB v7 25 44 (ag) LL.len cg (LL) bsg) ∧ (bsg.Nodup) ∧ (∀ x ∈ bsg, py < x)) := ⟨Tn.fresh (L26.out.1) ht (fun x hx => by have := q6 x hx; omega), (ht.block _ (lt_of_block (L26.out.2.1)) (fun hx => by have := q6 _ hx; omega)).trans (L26.out.2.1), (ht.block _ (lt_of_block (L26.out.2.2.1)) (fun hx => by have := q6 _ hx; omega)).trans (L26.out.2.2.1), L26.out.2.2.2.1, SlOB.of (L26.out.2.2.2.2.1) (fun y hy => ht.block y (SlOB.lt (L26.out.2.2.2.2.1) y hy) (fun hx => by have h1 := q6 y hx; have h2 := qw y hy; omega)), L26.out.2.2.2.2.2.1, L26.out.2.2.2.2.2.2.1, L26.out.2.2.2.2.2.2.2.1, L26.out.2.2.2.2.2.2.2.2.1, (ht.block _ (lt_of_block (L26.out.2.2.2.2.2.2.2.2.2.1)) (fun hx => by have := q6 _ hx; omega)).trans (L26.out.2.2.2.2.2.2.2.2.2.1), L26.out.2.2.2.2.2.2.2.2.2.2.1, L26.out.2.2.2.2.2.2.2.2.2.2.2.1, (ht.block _ (lt_of_block (L26.out.2.2.2.2.2.2.2.2.2.2.2.2.1)) (fun hx => by have := q6 _ hx; omega)).trans (L26.out.2.2.2.2.2.2.2.2.2.2.2.2.1), L26.out.2.2.2.2.2.2.2.2.2.2.2.2.2.2.2.1, L26.out.2.2.2.2.2.2.2.2.2.2.2.2.2.2.2.2.1, SlOB.of (L26.out.2.2.2.2.2.2.2.2.2.2.2.2.2.2.2.2.2.1) (fun y hy => ht.block y (SlOB.lt (L26.out.2.2.2.2.2.2.2.2.2.2.2.2.2.2.2.2.2.1) y hy) (fun hx => by have h1 := q6 y hx; have h2 := qg y hy; omega)), L26.out.2.2.2.2.2.2.2.2.2.2.2.2.2.2.2.2.2.2.1, L26.out.2.2.2.2.2.2.2.2.2.2.2.2.2.2.2.2.2.2.2⟩
  clear L26 x9_0 x9_1 x9_2
  clear ep qw o1 q5 o3 q4 o4 q6 o5 qg
  clear ht
  simp only []
  have hk1 : decide ((1 : Int) + 2 * f.size + f.len + 2 * d.size + 2 * d'.size < 0) = false := by simp; omega
  go_wp2_with fail
  refine Calls.mono (eqBs LL ag aw LL.len cg cw v7 (SlOB.reads (L27.out.2.2.2.2.2.2.2.2.2.2.2.2.2.2.2.1)) (SlOB.reads (L27.out.2.2.2.2.1))) ?_
  rintro e v8 ⟨rfl, hg⟩
  have L28 : Hid ((w.grownBy v8 none) ∧ (v8.heap[p]? = some (Obj.cells #[.int .i64 k, .int .i64 n, .slice a l c] 48)) ∧ (v8.heap[(p + 1)]? = some (Obj.cells #[.int .i64 k', .int .i64 n', .slice a' l' c'] 48)) ∧ (w.heap.size = p) ∧ (SlOB v8 25 44 (aw) LL.len cw (LL) bsw) ∧ (∀ x ∈ bsw, x < z0) ∧ (p + 1 < z0) ∧ (∀ x ∈ bs5, z0 ≤ x ∧ x < z6) ∧ (z0 ≤ z6) ∧ (v8.heap[px]? = some (Obj.cells #[.int .i64 k, .int .i64 n, .slice a4 l c4] 25)) ∧ (∀ x ∈ bs4, z6 ≤ x ∧ x < px) ∧ (z6 ≤ px) ∧ (v8.heap[py]? = some (Obj.cells #[.int .i64 k', .int .i64 n', .slice a6 l' c6] 25)) ∧ (∀ x ∈ bs6, px < x ∧ x < py) ∧ (px < py) ∧ (SlOB v8 25 44 (ag) LL.len cg (LL) bsg) ∧ (bsg.Nodup) ∧ (∀ x ∈ bsg, py < x)) := ⟨grown_trans (L27.out.1) hg, (World.grownBy.block hg _ (lt_of_block (L27.out.2.1)) (by simp)).trans (L27.out.2.1), (World.grownBy.block hg _ (lt_of_block (L27.out.2.2.1)) (by simp)).trans (L27.out.2.2.1), L27.out.2.2.2.1, SlOB.old (L27.out.2.2.2.2.1) hg, L27.out.2.2.2.2.2.1, L27.out.2.2.2.2.2.2.1, L27.out.2.2.2.2.2.2.2.1, L27.out.2.2.2.2.2.2.2.2.1, (World.grownBy.block hg _ (lt_of_block (L27.out.2.2.2.2.2.2.2.2.2.1)) (by simp)).trans (L27.out.2.2.2.2.2.2.2.2.2.1), L27.out.2.2.2.2.2.2.2.2.2.2.1, L27.out.2.2.2.2.2.2.2.2.2.2.2.1, (World.grownBy.block hg _ (lt_of_block (L27.out.2.2.2.2.2.2.2.2.2.2.2.2.1)) (by simp)).trans (L27.out.2.2.2.2.2.2.2.2.2.2.2.2.1), L27.out.2.2.2.2.2.2.2.2.2.2.2.2.2.1, L27.out.2.2.2.2.2.2.2.2.2.2.2.2.2.2.1, SlOB.old (L27.out.2.2.2.2.2.2.2.2.2.2.2.2.2.2.2.1) hg, L27.out.2.2.2.2.2.2.2.2.2.2.2.2.2.2.2.2.1, L27.out.2.2.2.2.2.2.2.2.2.2.2.2.2.2.2.2.2⟩
  clear L27
  clear hg
  simp only []
  clear hk1
  go_wp2_with fail
  refine Calls.mono (markBs LL ag LL.len cg bsg 1 v8 (L28.out.2.2.2.2.2.2.2.2.2.2.2.2.2.2.2.1) (L28.out.2.2.2.2.2.2.2.2.2.2.2.2.2.2.2.2.1) (by omega) (by omega)) ?_
  rintro e v9 ⟨rfl, ht, hm⟩
  have ep := L28.out.2.2.2.1
  have qw := L28.out.2.2.2.2.2.1
  have o1 := L28.out.2.2.2.2.2.2.1
  have q5 := L28.out.2.2.2.2.2.2.2.1
  have o3 := L28.out.2.2.2.2.2.2.2.2.1
  have q4 := L28.out.2.2.2.2.2.2.2.2.2.2.1
  have o4 := L28.out.2.2.2.2.2.2.2.2.2.2.2.1
  have q6 := L28.out.2.2.2.2.2.2.2.2.2.2.2.2.2.1
  have o5 := L28.out.2.2.2.2.2.2.2.2.2.2.2.2.2.2.1
  have qg := L28.out.2.2.2.2.2.2.2.2.2.2.2.2.2.2.2.2.2
  have L29 : Hid ((w.grownBy v9 none) ∧ (v9.heap[p]? = some (Obj.cells #[.int .i64 k, .int .i64 n, .slice a l c] 48)) ∧ (v9.heap[(p + 1)]? = some (Obj.cells #[.int .i64 k', .int .i64 n', .slice a' l' c'] 48)) ∧ (w.heap.size = p) ∧ (SlOB v9 25 44 (aw) LL.len cw (LL) bsw) ∧ (∀ x ∈ bsw, x < z0) ∧ (p + 1 < z0) ∧ (∀ x ∈ bs5, z0 ≤ x ∧ x < z6) ∧ (z0 ≤ z6) ∧ (v9.heap[px]? = some (Obj.cells #[.int .i64 k, .int .i64 n, .slice a4 l c4] 25)) ∧ (∀ x ∈ bs4, z6 ≤ x ∧ x < px) ∧ (z6 ≤ px) ∧ (v9.heap[py]? = some (Obj.cells #[.int .i64 k', .int .i64 n', .slice a6 l' c6] 25)) ∧ (∀ x ∈ bs6, px < x ∧ x < py) ∧ (px < py) ∧ (∀ x ∈ bsg, py < x) ∧ (SlOB v9 25 44 (ag) LL.len cg (markB LL 1) bsg)) := ⟨Tn.fresh (L28.out.1) ht (fun x hx => by have := qg x hx; omega), (ht.block _ (lt_of_block (L28.out.2.1)) (fun hx => by have := qg _ hx; omega)).trans (L28.out.2.1), (ht.block _ (lt_of_block (L28.out.2.2.1)) (fun hx => by have := qg _ hx; omega)).trans (L28.out.2.2.1), L28.out.2.2.2.1, SlOB.of (L28.out.2.2.2.2.1) (fun y hy => ht.block y (SlOB.lt (L28.out.2.2.2.2.1) y hy) (fun hx => by have h1 := qg y hx; have h2 := qw y hy; omega)), L28.out.2.2.2.2.2.1, L28.out.2.2.2.2.2.2.1, L28.out.2.2.2.2.2.2.2.1, L28.out.2.2.2.2.2.2.2.2.1, (ht.block _ (lt_of_block (L28.out.2.2.2.2.2.2.2.2.2.1)) (fun hx => by have := qg _ hx; omega)).trans (L28.out.2.2.2.2.2.2.2.2.2.1), L28.out.2.2.2.2.2.2.2.2.2.2.1, L28.out.2.2.2.2.2.2.2.2.2.2.2.1, (ht.block _ (lt_of_block (L28.out.2.2.2.2.2.2.2.2.2.2.2.2.1)) (fun hx => by have := qg _ hx; omega)).trans (L28.out.2.2.2.2.2.2.2.2.2.2.2.2.1), L28.out.2.2.2.2.2.2.2.2.2.2.2.2.2.1, L28.out.2.2.2.2.2.2.2.2.2.2.2.2.2.2.1, L28.out.2.2.2.2.2.2.2.2.2.2.2.2.2.2.2.2.2, hm⟩
  clear L28
  clear ep qw o1 q5 o3 q4 o4 q6 o5 qg
  clear ht hm
  simp only []
  have hq1' : ¬ ((1 : Int) + 2 * LL.size + LL.len < 0) := by omega
  go_wp2_with fail
  refine Calls.mono (heldBs LL ag LL.len cg 1 v9 (SlOB.reads (L29.out.2.2.2.2.2.2.2.2.2.2.2.2.2.2.2.2)) (by omega) (by omega)) ?_
  rintro e va ⟨rfl, hg⟩
  have L30 : Hid ((w.grownBy va none) ∧ (va.heap[p]? = some (Obj.cells #[.int .i64 k, .int .i64 n, .slice a l c] 48)) ∧ (va.heap[(p + 1)]? = some (Obj.cells #[.int .i64 k', .int .i64 n', .slice a' l' c'] 48)) ∧ (w.heap.size = p) ∧ (SlOB va 25 44 (aw) LL.len cw (LL) bsw) ∧ (∀ x ∈ bsw, x < z0) ∧ (p + 1 < z0) ∧ (∀ x ∈ bs5, z0 ≤ x ∧ x < z6) ∧ (z0 ≤ z6) ∧ (va.heap[px]? = some (Obj.cells #[.int .i64 k, .int .i64 n, .slice a4 l c4] 25)) ∧ (∀ x ∈ bs4, z6 ≤ x ∧ x < px) ∧ (z6 ≤ px) ∧ (va.heap[py]? = some (Obj.cells #[.int .i64 k', .int .i64 n', .slice a6 l' c6] 25)) ∧ (∀ x ∈ bs6, px < x ∧ x < py) ∧ (px < py) ∧ (∀ x ∈ bsg, py < x) ∧ (SlOB va 25 44 (ag) LL.len cg (markB LL 1) bsg)) := ⟨grown_trans (L29.out.1) hg, (World.grownBy.block hg _ (lt_of_block (L29.out.2.1)) (by simp)).trans (L29.out.2.1), (World.grownBy.block hg _ (lt_of_block (L29.out.2.2.1)) (by simp)).trans (L29.out.2.2.1), L29.out.2.2.2.1, SlOB.old (L29.out.2.2.2.2.1) hg, L29.out.2.2.2.2.2.1, L29.out.2.2.2.2.2.2.1, L29.out.2.2.2.2.2.2.2.1, L29.out.2.2.2.2.2.2.2.2.1, (World.grownBy.block hg _ (lt_of_block (L29.out.2.2.2.2.2.2.2.2.2.1)) (by simp)).trans (L29.out.2.2.2.2.2.2.2.2.2.1), L29.out.2.2.2.2.2.2.2.2.2.2.1, L29.out.2.2.2.2.2.2.2.2.2.2.2.1, (World.grownBy.block hg _ (lt_of_block (L29.out.2.2.2.2.2.2.2.2.2.2.2.2.1)) (by simp)).trans (L29.out.2.2.2.2.2.2.2.2.2.2.2.2.1), L29.out.2.2.2.2.2.2.2.2.2.2.2.2.2.1, L29.out.2.2.2.2.2.2.2.2.2.2.2.2.2.2.1, L29.out.2.2.2.2.2.2.2.2.2.2.2.2.2.2.2.1, SlOB.old (L29.out.2.2.2.2.2.2.2.2.2.2.2.2.2.2.2.2) hg⟩
  clear L29
  clear hg
  simp only []
  go_wp2_with fail
  have L31 : Hid ((w.grownBy va.drew none) ∧ (va.drew.heap[p]? = some (Obj.cells #[.int .i64 k, .int .i64 n, .slice a l c] 48)) ∧ (va.drew.heap[(p + 1)]? = some (Obj.cells #[.int .i64 k', .int .i64 n', .slice a' l' c'] 48)) ∧ (w.heap.size = p) ∧ (SlOB va.drew 25 44 (aw) LL.len cw (LL) bsw) ∧ (∀ x ∈ bsw, x < z0) ∧ (p + 1 < z0) ∧ (∀ x ∈ bs5, z0 ≤ x ∧ x < z6) ∧ (z0 ≤ z6) ∧ (va.drew.heap[px]? = some (Obj.cells #[.int .i64 k, .int .i64 n, .slice a4 l c4] 25)) ∧ (∀ x ∈ bs4, z6 ≤ x ∧ x < px) ∧ (z6 ≤ px) ∧ (va.drew.heap[py]? = some (Obj.cells #[.int .i64 k', .int .i64 n', .slice a6 l' c6] 25)) ∧ (∀ x ∈ bs6, px < x ∧ x < py) ∧ (px < py) ∧ (∀ x ∈ bsg, py < x) ∧ (SlOB va.drew 25 44 (ag) LL.len cg (markB LL 1) bsg)) := ⟨grown_trans (L30.out.1) (grown_drew (World.grownBy.refl va none)), (World.grownBy.block (grown_drew (World.grownBy.refl va none)) _ (lt_of_block (L30.out.2.1)) (by simp)).trans (L30.out.2.1), (World.grownBy.block (grown_drew (World.grownBy.refl va none)) _ (lt_of_block (L30.out.2.2.1)) (by simp)).trans (L30.out.2.2.1), L30.out.2.2.2.1, SlOB.old (L30.out.2.2.2.2.1) (grown_drew (World.grownBy.refl va none)), L30.out.2.2.2.2.2.1, L30.out.2.2.2.2.2.2.1, L30.out.2.2.2.2.2.2.2.1, L30.out.2.2.2.2.2.2.2.2.1, (World.grownBy.block (grown_drew (World.grownBy.refl va none)) _ (lt_of_block (L30.out.2.2.2.2.2.2.2.2.2.1)) (by simp)).trans (L30.out.2.2.2.2.2.2.2.2.2.1), L30.out.2.2.2.2.2.2.2.2.2.2.1, L30.out.2.2.2.2.2.2.2.2.2.2.2.1, (World.grownBy.block (grown_drew (World.grownBy.refl va none)) _ (lt_of_block (L30.out.2.2.2.2.2.2.2.2.2.2.2.2.1)) (by simp)).trans (L30.out.2.2.2.2.2.2.2.2.2.2.2.2.1), L30.out.2.2.2.2.2.2.2.2.2.2.2.2.2.1, L30.out.2.2.2.2.2.2.2.2.2.2.2.2.2.2.1, L30.out.2.2.2.2.2.2.2.2.2.2.2.2.2.2.2.1, SlOB.old (L30.out.2.2.2.2.2.2.2.2.2.2.2.2.2.2.2.2) (grown_drew (World.grownBy.refl va none))⟩
  clear L30
  refine wp_region_held_drew (S := (fun r0 => Tri p 0 (.int .i64 k) (.int .i64 n) (.slice a l c) r0 ∧ Tri (p + 1) 0 (.int .i64 k') (.int .i64 n') (.slice a' l' c') r0)) (by kernel_rfl) ⟨(three (L31.out.2.1)).1, (three (L31.out.2.2.1)).1⟩ (fun hH => ?_)
  generalize va.drew = r0 at *
  simp only [List.size_toArray, List.length_cons, List.length_nil, Nat.reduceAdd, Array.replicate, List.replicate]
  refine wpAnyH_take (i := 0) (v := ?_) rfl (by kernel_rfl) (by kernel_rfl) (by kernel_rfl) (fun _ _ _ h => h) (Or.inl ⟨by rfl, ?_⟩) hH ?_
  rotate_left
  · (intro v hS; obtain ⟨⟨s00, s01, s02⟩, ⟨s10, s11, s12⟩⟩ := hS; go_simp; try with_reducible rfl)
  simp only [Act.put, List.setIfInBounds_toArray, List.set_cons_zero, List.set_cons_succ, List.getElem_toArray, List.getElem_cons_succ, List.getElem_cons_zero]
  refine wpAnyH_take (i := 2) (v := ?_) rfl (by kernel_rfl) (by kernel_rfl) (by kernel_rfl) (fun _ _ _ h => h) (Or.inl ⟨by rfl, ?_⟩) hH ?_
  rotate_left
  · (intro v hS; obtain ⟨⟨s00, s01, s02⟩, ⟨s10, s11, s12⟩⟩ := hS; go_simp; try with_reducible rfl)
  simp only [Act.put, List.setIfInBounds_toArray, List.set_cons_zero, List.set_cons_succ, List.getElem_toArray, List.getElem_cons_succ, List.getElem_cons_zero]
  refine wpAnyH_take (i := 4) (v := ?_) rfl (by kernel_rfl) (by kernel_rfl) (by kernel_rfl) (fun _ _ _ h => h) (Or.inl ⟨by rfl, ?_⟩) hH ?_
  rotate_left
  · (intro v hS; obtain ⟨⟨s00, s01, s02⟩, ⟨s10, s11, s12⟩⟩ := hS; go_simp; try with_reducible rfl)
  simp only [Act.put, List.setIfInBounds_toArray, List.set_cons_zero, List.set_cons_succ, List.getElem_toArray, List.getElem_cons_succ, List.getElem_cons_zero]
  refine wpAnyH_ready (rs := [1]) (by kernel_rfl) (by simp) ?_
  refine AllReadyH.cons rfl (fun K hK => ?_) AllReadyH.nil
  go_simp
  refine Calls.mono (toBs f a0 l0 c0 r0 hfs (HD.out.2.1.none (L31.out.1))) ?_
  rintro e r1 ⟨aq, cq, bsq, rfl, hg, hnq⟩
  have L32 : Hid ((w.grownBy r1 none) ∧ (r1.heap[p]? = some (Obj.cells #[.int .i64 k, .int .i64 n, .slice a l c] 48)) ∧ (r1.heap[(p + 1)]? = some (Obj.cells #[.int .i64 k', .int .i64 n', .slice a' l' c'] 48)) ∧ (w.heap.size = p) ∧ (SlOB r1 25 44 (aw) LL.len cw (LL) bsw) ∧ (∀ x ∈ bsw, x < z0) ∧ (p + 1 < z0) ∧ (∀ x ∈ bs5, z0 ≤ x ∧ x < z6) ∧ (z0 ≤ z6) ∧ (r1.heap[px]? = some (Obj.cells #[.int .i64 k, .int .i64 n, .slice a4 l c4] 25)) ∧ (∀ x ∈ bs4, z6 ≤ x ∧ x < px) ∧ (z6 ≤ px) ∧ (r1.heap[py]? = some (Obj.cells #[.int .i64 k', .int .i64 n', .slice a6 l' c6] 25)) ∧ (∀ x ∈ bs6, px < x ∧ x < py) ∧ (px < py) ∧ (∀ x ∈ bsg, py < x) ∧ (SlOB r1 25 44 (ag) LL.len cg (markB LL 1) bsg) ∧ (SlOB r1 25 44 (aq) l0 cq (f) bsq)) := ⟨grown_trans (L31.out.1) hg, (World.grownBy.block hg _ (lt_of_block (L31.out.2.1)) (by simp)).trans (L31.out.2.1), (World.grownBy.block hg _ (lt_of_block (L31.out.2.2.1)) (by simp)).trans (L31.out.2.2.1), L31.out.2.2.2.1, SlOB.old (L31.out.2.2.2.2.1) hg, L31.out.2.2.2.2.2.1, L31.out.2.2.2.2.2.2.1, L31.out.2.2.2.2.2.2.2.1, L31.out.2.2.2.2.2.2.2.2.1, (World.grownBy.block hg _ (lt_of_block (L31.out.2.2.2.2.2.2.2.2.2.1)) (by simp)).trans (L31.out.2.2.2.2.2.2.2.2.2.1), L31.out.2.2.2.2.2.2.2.2.2.2.1, L31.out.2.2.2.2.2.2.2.2.2.2.2.1, (World.grownBy.block hg _ (lt_of_block (L31.out.2.2.2.2.2.2.2.2.2.2.2.2.1)) (by simp)).trans (L31.out.2.2.2.2.2.2.2.2.2.2.2.2.1), L31.out.2.2.2.2.2.2.2.2.2.2.2.2.2.1, L31.out.2.2.2.2.2.2.2.2.2.2.2.2.2.2.1, L31.out.2.2.2.2.2.2.2.2.2.2.2.2.2.2.2.1, SlOB.old (L31.out.2.2.2.2.2.2.2.2.2.2.2.2.2.2.2.2) hg, hnq.1⟩
  clear L31
  refine hK.out _ _ ⟨(three (L32.out.2.1)).1, (three (L32.out.2.2.1)).1⟩ (fun hH2 => ?_)
  clear hK K hH
  have hH := hH2
  clear hH2 hg
  simp only [Act.put, List.setIfInBounds_toArray, List.set_cons_zero, List.set_cons_succ, List.getElem_toArray, List.getElem_cons_succ, List.getElem_cons_zero]
  clear hnq
  refine wpAnyH_ready (rs := [3]) (by kernel_rfl) (by simp) ?_
  refine AllReadyH.cons rfl (fun K hK => ?_) AllReadyH.nil
  go_simp
  refine Calls.mono (toTr d k n a l c r1 (HD.out.1.none (L32.out.1)) hdshpos2) ?_
  rintro e r2 ⟨at', ct, bst, rfl, hg, hnt⟩
  have L33 : Hid ((w.grownBy r2 none) ∧ (r2.heap[p]? = some (Obj.cells #[.int .i64 k, .int .i64 n, .slice a l c] 48)) ∧ (r2.heap[(p + 1)]? = some (Obj.cells #[.int .i64 k', .int .i64 n', .slice a' l' c'] 48)) ∧ (w.heap.size = p) ∧ (SlOB r2 25 44 (aw) LL.len cw (LL) bsw) ∧ (∀ x ∈ bsw, x < z0) ∧ (p + 1 < z0) ∧ (∀ x ∈ bs5, z0 ≤ x ∧ x < z6) ∧ (z0 ≤ z6) ∧ (r2.heap[px]? = some (Obj.cells #[.int .i64 k, .int .i64 n, .slice a4 l c4] 25)) ∧ (∀ x ∈ bs4, z6 ≤ x ∧ x < px) ∧ (z6 ≤ px) ∧ (r2.heap[py]? = some (Obj.cells #[.int .i64 k', .int .i64 n', .slice a6 l' c6] 25)) ∧ (∀ x ∈ bs6, px < x ∧ x < py) ∧ (px < py) ∧ (∀ x ∈ bsg, py < x) ∧ (SlOB r2 25 44 (ag) LL.len cg (markB LL 1) bsg) ∧ (SlOB r2 25 44 (aq) l0 cq (f) bsq) ∧ (SlO r2 25 (at') l ct (d) bst)) := ⟨grown_trans (L32.out.1) hg, (World.grownBy.block hg _ (lt_of_block (L32.out.2.1)) (by simp)).trans (L32.out.2.1), (World.grownBy.block hg _ (lt_of_block (L32.out.2.2.1)) (by simp)).trans (L32.out.2.2.1), L32.out.2.2.2.1, SlOB.old (L32.out.2.2.2.2.1) hg, L32.out.2.2.2.2.2.1, L32.out.2.2.2.2.2.2.1, L32.out.2.2.2.2.2.2.2.1, L32.out.2.2.2.2.2.2.2.2.1, (World.grownBy.block hg _ (lt_of_block (L32.out.2.2.2.2.2.2.2.2.2.1)) (by simp)).trans (L32.out.2.2.2.2.2.2.2.2.2.1), L32.out.2.2.2.2.2.2.2.2.2.2.1, L32.out.2.2.2.2.2.2.2.2.2.2.2.1, (World.grownBy.block hg _ (lt_of_block (L32.out.2.2.2.2.2.2.2.2.2.2.2.2.1)) (by simp)).trans (L32.out.2.2.2.2.2.2.2.2.2.2.2.2.1), L32.out.2.2.2.2.2.2.2.2.2.2.2.2.2.1, L32.out.2.2.2.2.2.2.2.2.2.2.2.2.2.2.1, L32.out.2.2.2.2.2.2.2.2.2.2.2.2.2.2.2.1, SlOB.old (L32.out.2.2.2.2.2.2.2.2.2.2.2.2.2.2.2.2.1) hg, SlOB.old (L32.out.2.2.2.2.2.2.2.2.2.2.2.2.2.2.2.2.2) hg, hnt.1⟩
  clear L32
  refine hK.out _ _ ⟨(three (L33.out.2.1)).1, (three (L33.out.2.2.1)).1⟩ (fun hH2 => ?_)
  clear hK K hH
  have hH := hH2
  clear hH2 hg
  simp only [Act.put, List.setIfInBounds_toArray, List.set_cons_zero, List.set_cons_succ, List.getElem_toArray, List.getElem_cons_succ, List.getElem_cons_zero]
  clear hnt
  refine wpAnyH_ready (rs := [5]) (by kernel_rfl) (by simp) ?_
  refine AllReadyH.cons rfl (fun K hK => ?_) AllReadyH.nil
  go_simp
  refine Calls.mono (toTr d' k' n' a' l' c' r2 (HD.out.2.2.none (L33.out.1)) hdshpos3) ?_
  rintro e r3 ⟨at2, ct2, bst2, rfl, hg, hnt⟩
  have L34 : Hid ((w.grownBy r3 none) ∧ (r3.heap[p]? = some (Obj.cells #[.int .i64 k, .int .i64 n, .slice a l c] 48)) ∧ (r3.heap[(p + 1)]? = some (Obj.cells #[.int .i64 k', .int .i64 n', .slice a' l' c'] 48)) ∧ (w.heap.size = p) ∧ (SlOB r3 25 44 (aw) LL.len cw (LL) bsw) ∧ (∀ x ∈ bsw, x < z0) ∧ (p + 1 < z0) ∧ (∀ x ∈ bs5, z0 ≤ x ∧ x < z6) ∧ (z0 ≤ z6) ∧ (r3.heap[px]? = some (Obj.cells #[.int .i64 k, .int .i64 n, .slice a4 l c4] 25)) ∧ (∀ x ∈ bs4, z6 ≤ x ∧ x < px) ∧ (z6 ≤ px) ∧ (r3.heap[py]? = some (Obj.cells #[.int .i64 k', .int .i64 n', .slice a6 l' c6] 25)) ∧ (∀ x ∈ bs6, px < x ∧ x < py) ∧ (px < py) ∧ (∀ x ∈ bsg, py < x) ∧ (SlOB r3 25 44 (ag) LL.len cg (markB LL 1) bsg) ∧ (SlOB r3 25 44 (aq) l0 cq (f) bsq) ∧ (SlO r3 25 (at') l ct (d) bst) ∧ (SlO r3 25 (at2) l' ct2 (d') bst2)) := ⟨grown_trans (L33.out.1) hg, (World.grownBy.block hg _ (lt_of_block (L33.out.2.1)) (by simp)).trans (L33.out.2.1), (World.grownBy.block hg _ (lt_of_block (L33.out.2.2.1)) (by simp)).trans (L33.out.2.2.1), L33.out.2.2.2.1, SlOB.old (L33.out.2.2.2.2.1) hg, L33.out.2.2.2.2.2.1, L33.out.2.2.2.2.2.2.1, L33.out.2.2.2.2.2.2.2.1, L33.out.2.2.2.2.2.2.2.2.1, (World.grownBy.block hg _ (lt_of_block (L33.out.2.2.2.2.2.2.2.2.2.1)) (by simp)).trans (L33.out.2.2.2.2.2.2.2.2.2.1), L33.out.2.2.2.2.2.2.2.2.2.2.1, L33.out.2.2.2.2.2.2.2.2.2.2.2.1, (World.grownBy.block hg _ (lt_of_block (L33.out.2.2.2.2.2.2.2.2.2.2.2.2.1)) (by simp)).trans (L33.out.2.2.2.2.2.2.2.2.2.2.2.2.1), L33.out.2.2.2.2.2.2.2.2.2.2.2.2.2.1, L33.out.2.2.2.2.2.2.2.2.2.2.2.2.2.2.1, L33.out.2.2.2.2.2.2.2.2.2.2.2.2.2.2.2.1, SlOB.old (L33.out.2.2.2.2.2.2.2.2.2.2.2.2.2.2.2.2.1) hg, SlOB.old (L33.out.2.2.2.2.2.2.2.2.2.2.2.2.2.2.2.2.2.1) hg, SlO.old (L33.out.2.2.2.2.2.2.2.2.2.2.2.2.2.2.2.2.2.2) hg, hnt.1⟩
  clear L33
  refine hK.out _ _ ⟨(three (L34.out.2.1)).1, (three (L34.out.2.2.1)).1⟩ (fun hH2 => ?_)
  clear hK K hH
  have hH := hH2
  clear hH2 hg
  simp only [Act.put, List.setIfInBounds_toArray, List.set_cons_zero, List.set_cons_succ, List.getElem_toArray, List.getElem_cons_succ, List.getElem_cons_zero]
  clear hnt
  refine wpAnyH_ready (rs := [6]) (by kernel_rfl) (by simp) ?_
  refine AllReadyH.cons rfl (fun K hK => ?_) AllReadyH.nil
  go_simp
  refine Calls.mono (CIm.out aq cq at' ct at2 ct2 r3 (SlOB.typed (L34.out.2.2.2.2.2.2.2.2.2.2.2.2.2.2.2.2.2.1)) (SlO.typed (L34.out.2.2.2.2.2.2.2.2.2.2.2.2.2.2.2.2.2.2.1)) (SlO.typed (L34.out.2.2.2.2.2.2.2.2.2.2.2.2.2.2.2.2.2.2.2))) ?_
  rintro e r4 ⟨ah, ch, bsh, rfl, hg, hnr⟩
  have L35 : Hid ((w.grownBy r4 none) ∧ (r4.heap[p]? = some (Obj.cells #[.int .i64 k, .int .i64 n, .slice a l c] 48)) ∧ (r4.heap[(p + 1)]? = some (Obj.cells #[.int .i64 k', .int .i64 n', .slice a' l' c'] 48)) ∧ (w.heap.size = p) ∧ (SlOB r4 25 44 (aw) LL.len cw (LL) bsw) ∧ (∀ x ∈ bsw, x < z0) ∧ (p + 1 < z0) ∧ (∀ x ∈ bs5, z0 ≤ x ∧ x < z6) ∧ (z0 ≤ z6) ∧ (r4.heap[px]? = some (Obj.cells #[.int .i64 k, .int .i64 n, .slice a4 l c4] 25)) ∧ (∀ x ∈ bs4, z6 ≤ x ∧ x < px) ∧ (z6 ≤ px) ∧ (r4.heap[py]? = some (Obj.cells #[.int .i64 k', .int .i64 n', .slice a6 l' c6] 25)) ∧ (∀ x ∈ bs6, px < x ∧ x < py) ∧ (px < py) ∧ (∀ x ∈ bsg, py < x) ∧ (SlOB r4 25 44 (ag) LL.len cg (markB LL 1) bsg) ∧ (SlOB r4 25 44 (ah) LL.len ch (LL) bsh)) := ⟨grown_trans (L34.out.1) hg, (World.grownBy.block hg _ (lt_of_block (L34.out.2.1)) (by simp)).trans (L34.out.2.1), (World.grownBy.block hg _ (lt_of_block (L34.out.2.2.1)) (by simp)).trans (L34.out.2.2.1), L34.out.2.2.2.1, SlOB.old (L34.out.2.2.2.2.1) hg, L34.out.2.2.2.2.2.1, L34.out.2.2.2.2.2.2.1, L34.out.2.2.2.2.2.2.2.1, L34.out.2.2.2.2.2.2.2.2.1, (World.grownBy.block hg _ (lt_of_block (L34.out.2.2.2.2.2.2.2.2.2.1)) (by simp)).trans (L34.out.2.2.2.2.2.2.2.2.2.1), L34.out.2.2.2.2.2.2.2.2.2.2.1, L34.out.2.2.2.2.2.2.2.2.2.2.2.1, (World.grownBy.block hg _ (lt_of_block (L34.out.2.2.2.2.2.2.2.2.2.2.2.2.1)) (by simp)).trans (L34.out.2.2.2.2.2.2.2.2.2.2.2.2.1), L34.out.2.2.2.2.2.2.2.2.2.2.2.2.2.1, L34.out.2.2.2.2.2.2.2.2.2.2.2.2.2.2.1, L34.out.2.2.2.2.2.2.2.2.2.2.2.2.2.2.2.1, SlOB.old (L34.out.2.2.2.2.2.2.2.2.2.2.2.2.2.2.2.2.1) hg, hnr.1⟩
  clear L34
  refine hK.out _ _ ⟨(three (L35.out.2.1)).1, (three (L35.out.2.2.1)).1⟩ (fun hH2 => ?_)
  clear hK K hH
  have hH := hH2
  clear hH2 hg
  simp only [Act.put, List.setIfInBounds_toArray, List.set_cons_zero, List.set_cons_succ, List.getElem_toArray, List.getElem_cons_succ, List.getElem_cons_zero]
  clear hnr
  refine wpAnyH_take (i := 7) (v := ?_) rfl (by kernel_rfl) (by kernel_rfl) (by kernel_rfl) (fun _ _ _ h => h) (Or.inl ⟨by rfl, ?_⟩) hH ?_
  rotate_left
  · (intro v hS; go_simp; try with_reducible rfl)
  simp only [Act.put, List.setIfInBounds_toArray, List.set_cons_zero, List.set_cons_succ, List.getElem_toArray, List.getElem_cons_succ, List.getElem_cons_zero]
  refine wpAnyH_take (i := 8) (v := ?_) rfl (by kernel_rfl) (by kernel_rfl) (by kernel_rfl) (fun _ _ _ h => h) (Or.inl ⟨by rfl, ?_⟩) hH ?_
  rotate_left
  · (intro v hS; go_simp; try with_reducible rfl)
  simp only [Act.put, List.setIfInBounds_toArray, List.set_cons_zero, List.set_cons_succ, List.getElem_toArray, List.getElem_cons_succ, List.getElem_cons_zero]
  refine wpAnyH_take (i := 9) (v := ?_) rfl (by kernel_rfl) (by kernel_rfl) (by kernel_rfl) (fun _ _ _ h => h) (Or.inl ⟨by rfl, ?_⟩) hH ?_
  rotate_left
  · (intro v hS; go_simp; try with_reducible rfl)
  simp only [Act.put, List.setIfInBounds_toArray, List.set_cons_zero, List.set_cons_succ, List.getElem_toArray, List.getElem_cons_succ, List.getElem_cons_zero]
  refine wpAnyH_take (i := 10) (v := ?_) rfl (by kernel_rfl) (by kernel_rfl) (by kernel_rfl) (fun _ _ _ h => h) (Or.inl ⟨by rfl, ?_⟩) hH ?_
  rotate_left
  · (intro v hS; go_simp; try with_reducible rfl)
  simp only [Act.put, List.setIfInBounds_toArray, List.set_cons_zero, List.set_cons_succ, List.getElem_toArray, List.getElem_cons_succ, List.getElem_cons_zero]
  refine wpAnyH_take (i := 11) (v := ?_) rfl (by kernel_rfl) (by kernel_rfl) (by kernel_rfl) (fun _ _ _ h => h) (Or.inl ⟨by rfl, ?_⟩) hH ?_
  rotate_left
  · (intro v hS; go_simp; try with_reducible rfl)
  simp only [Act.put, List.setIfInBounds_toArray, List.set_cons_zero, List.set_cons_succ, List.getElem_toArray, List.getElem_cons_succ, List.getElem_cons_zero]
  refine wpAnyH_done (by kernel_rfl) ?_ _
  clear hH
  go_wp2_with fail
  refine Calls.mono (eqBs LL ah aw LL.len ch cw r4 (SlOB.reads (L35.out.2.2.2.2.2.2.2.2.2.2.2.2.2.2.2.2.2)) (SlOB.reads (L35.out.2.2.2.2.1))) ?_
  rintro e vb ⟨rfl, hg⟩
  have L36 : Hid ((w.grownBy vb none) ∧ (vb.heap[p]? = some (Obj.cells #[.int .i64 k, .int .i64 n, .slice a l c] 48)) ∧ (vb.heap[(p + 1)]? = some (Obj.cells #[.int .i64 k', .int .i64 n', .slice a' l' c'] 48)) ∧ (w.heap.size = p) ∧ (SlOB vb 25 44 (aw) LL.len cw (LL) bsw) ∧ (∀ x ∈ bsw, x < z0) ∧ (p + 1 < z0) ∧ (∀ x ∈ bs5, z0 ≤ x ∧ x < z6) ∧ (z0 ≤ z6) ∧ (vb.heap[px]? = some (Obj.cells #[.int .i64 k, .int .i64 n, .slice a4 l c4] 25)) ∧ (∀ x ∈ bs4, z6 ≤ x ∧ x < px) ∧ (z6 ≤ px) ∧ (vb.heap[py]? = some (Obj.cells #[.int .i64 k', .int .i64 n', .slice a6 l' c6] 25)) ∧ (∀ x ∈ bs6, px < x ∧ x < py) ∧ (px < py) ∧ (∀ x ∈ bsg, py < x) ∧ (SlOB vb 25 44 (ag) LL.len cg (markB LL 1) bsg) ∧ (SlOB vb 25 44 (ah) LL.len ch (LL) bsh)) := ⟨grown_trans (L35.out.1) hg, (World.grownBy.block hg _ (lt_of_block (L35.out.2.1)) (by simp)).trans (L35.out.2.1), (World.grownBy.block hg _ (lt_of_block (L35.out.2.2.1)) (by simp)).trans (L35.out.2.2.1), L35.out.2.2.2.1, SlOB.old (L35.out.2.2.2.2.1) hg, L35.out.2.2.2.2.2.1, L35.out.2.2.2.2.2.2.1, L35.out.2.2.2.2.2.2.2.1, L35.out.2.2.2.2.2.2.2.2.1, (World.grownBy.block hg _ (lt_of_block (L35.out.2.2.2.2.2.2.2.2.2.1)) (by simp)).trans (L35.out.2.2.2.2.2.2.2.2.2.1), L35.out.2.2.2.2.2.2.2.2.2.2.1, L35.out.2.2.2.2.2.2.2.2.2.2.2.1, (World.grownBy.block hg _ (lt_of_block (L35.out.2.2.2.2.2.2.2.2.2.2.2.2.1)) (by simp)).trans (L35.out.2.2.2.2.2.2.2.2.2.2.2.2.1), L35.out.2.2.2.2.2.2.2.2.2.2.2.2.2.1, L35.out.2.2.2.2.2.2.2.2.2.2.2.2.2.2.1, L35.out.2.2.2.2.2.2.2.2.2.2.2.2.2.2.2.1, SlOB.old (L35.out.2.2.2.2.2.2.2.2.2.2.2.2.2.2.2.2.1) hg, SlOB.old (L35.out.2.2.2.2.2.2.2.2.2.2.2.2.2.2.2.2.2) hg⟩
  clear L35
  clear hg
  simp only []
  go_wp2_with fail
  refine Calls.mono (heldBs LL ag LL.len cg 1 vb (SlOB.reads (L36.out.2.2.2.2.2.2.2.2.2.2.2.2.2.2.2.2.1)) (by omega) (by omega)) ?_
  rintro e vc ⟨rfl, hg⟩
  have L37 : Hid ((w.grownBy vc none) ∧ (vc.heap[p]? = some (Obj.cells #[.int .i64 k, .int .i64 n, .slice a l c] 48)) ∧ (vc.heap[(p + 1)]? = some (Obj.cells #[.int .i64 k', .int .i64 n', .slice a' l' c'] 48)) ∧ (w.heap.size = p) ∧ (SlOB vc 25 44 (aw) LL.len cw (LL) bsw) ∧ (∀ x ∈ bsw, x < z0) ∧ (p + 1 < z0) ∧ (∀ x ∈ bs5, z0 ≤ x ∧ x < z6) ∧ (z0 ≤ z6) ∧ (vc.heap[px]? = some (Obj.cells #[.int .i64 k, .int .i64 n, .slice a4 l c4] 25)) ∧ (∀ x ∈ bs4, z6 ≤ x ∧ x < px) ∧ (z6 ≤ px) ∧ (vc.heap[py]? = some (Obj.cells #[.int .i64 k', .int .i64 n', .slice a6 l' c6] 25)) ∧ (∀ x ∈ bs6, px < x ∧ x < py) ∧ (px < py) ∧ (∀ x ∈ bsg, py < x) ∧ (SlOB vc 25 44 (ag) LL.len cg (markB LL 1) bsg) ∧ (SlOB vc 25 44 (ah) LL.len ch (LL) bsh)) := ⟨grown_trans (L36.out.1) hg, (World.grownBy.block hg _ (lt_of_block (L36.out.2.1)) (by simp)).trans (L36.out.2.1), (World.grownBy.block hg _ (lt_of_block (L36.out.2.2.1)) (by simp)).trans (L36.out.2.2.1), L36.out.2.2.2.1, SlOB.old (L36.out.2.2.2.2.1) hg, L36.out.2.2.2.2.2.1, L36.out.2.2.2.2.2.2.1, L36.out.2.2.2.2.2.2.2.1, L36.out.2.2.2.2.2.2.2.2.1, (World.grownBy.block hg _ (lt_of_block (L36.out.2.2.2.2.2.2.2.2.2.1)) (by simp)).trans (L36.out.2.2.2.2.2.2.2.2.2.1), L36.out.2.2.2.2.2.2.2.2.2.2.1, L36.out.2.2.2.2.2.2.2.2.2.2.2.1, (World.grownBy.block hg _ (lt_of_block (L36.out.2.2.2.2.2.2.2.2.2.2.2.2.1)) (by simp)).trans (L36.out.2.2.2.2.2.2.2.2.2.2.2.2.1), L36.out.2.2.2.2.2.2.2.2.2.2.2.2.2.1, L36.out.2.2.2.2.2.2.2.2.2.2.2.2.2.2.1, L36.out.2.2.2.2.2.2.2.2.2.2.2.2.2.2.2.1, SlOB.old (L36.out.2.2.2.2.2.2.2.2.2.2.2.2.2.2.2.2.1) hg, SlOB.old (L36.out.2.2.2.2.2.2.2.2.2.2.2.2.2.2.2.2.2) hg⟩
  clear L36
  clear hg
  simp only []
  go_wp2
  go_ret
  exact ⟨rfl, L37.out.1⟩
end Go.Proofs.Ytmlganaiajhjeaa.By
