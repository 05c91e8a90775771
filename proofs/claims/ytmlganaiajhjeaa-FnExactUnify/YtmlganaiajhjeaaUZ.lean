/-
  The specification's Unify, by its contract. No statement is proved here.
-/
import Derived.Test.YtmlganaiajhjeaaUY
import Derived.Test.YtmlganaiajhjeaaUK
import Derived.Test.YtmlganaiajhjeaaUSp
namespace Go.Proofs.Ytmlganaiajhjeaa.By
open Go.RowKit
set_option linter.unusedVariables false
set_option linter.unusedSimpArgs false


set_option maxRecDepth 8000 in
set_option maxHeartbeats 2000000 in
theorem specUnifyT (f : B) (a : Option Addr) (l c : Nat) (d d' : F) (k n k' n' : Int) (a1 a2 : Option Addr) (l1 c1 l2 c2 : Nat) (w : World) (h : SlB w a l f) (hlc : l ≤ c) (hS : SlF w a1 l1 d) (hS' : SlF w a2 l2 d') :
    Calls Try.prog 32 #[.slice a l c, .agg #[.int .i64 k, .int .i64 n, .slice a1 l1 c1], .agg #[.int .i64 k', .int .i64 n', .slice a2 l2 c2]] w fun e u => UnA w (uniV f (k, n, d) (k', n', d')) e u := by
  obtain ⟨b0, b1, bsz⟩ := alloc2_blocks w (.cells #[.int .i64 k, .int .i64 n, .slice a1 l1 c1] 25) (.cells #[.int .i64 k', .int .i64 n', .slice a2 l2 c2] 25)
  have g0 := grown_alloc (grown_alloc (World.grownBy.refl w none) (.cells #[.int .i64 k, .int .i64 n, .slice a1 l1 c1] 25)) (.cells #[.int .i64 k', .int .i64 n', .slice a2 l2 c2] 25)
  have C0 : Hid _ := specBindsOkT f a l c _ (h.none g0) hlc
  have L0 : Hid (w.grownBy _ none ∧ _ = some (Obj.cells #[.int .i64 k, .int .i64 n, .slice a1 l1 c1] 25) ∧ _ = some (Obj.cells #[.int .i64 k', .int .i64 n', .slice a2 l2 c2] 25) ∧ _ = w.heap.size + 1 + 1 ∧ SlF _ a1 l1 d ∧ SlF _ a2 l2 d' ∧ SlB _ a l f) := ⟨g0, b0, b1, bsz, hS.none g0, hS'.none g0, h.none g0⟩
  clear b0 b1 bsz g0 h hS hS'
  go_enter Try.func32, Try.ntmps32
  go_wp2_with fail
  generalize (w.alloc (.cells #[.int .i64 k, .int .i64 n, .slice a1 l1 c1] 25)).alloc (.cells #[.int .i64 k', .int .i64 n', .slice a2 l2 c2] 25) = W0 at *
  generalize eq : w.heap.size = q at *
  have FU : Hid (∀ u, W0.grownBy u none → w.grownBy u none ∧ u.heap[q]? = some (Obj.cells #[.int .i64 k, .int .i64 n, .slice a1 l1 c1] 25) ∧ u.heap[q + 1]? = some (Obj.cells #[.int .i64 k', .int .i64 n', .slice a2 l2 c2] 25) ∧ SlF u a1 l1 d ∧ SlF u a2 l2 d' ∧ SlB u a l f) := fun u hu0 => by
    obtain ⟨r1, r2, r3, r4, r5, r6, r7⟩ := L0.out
    exact ⟨grown_trans r1 hu0, (hu0.block _ (lt_of_block r2) (by simp)).trans r2, (hu0.block _ (lt_of_block r3) (by simp)).trans r3, r5.none hu0, r6.none hu0, r7.none hu0⟩
  clear L0
  refine Calls.mono C0.out ?_
  rintro e w1 ⟨he, hg⟩
  have G1 : Hid (W0.grownBy w1 none) := hg
  clear C0 hg
  subst he
  simp only []
  cases hb : bindsV f with
  | false =>
    have HV : Hid (uniV f (k, n, d) (k', n', d') = none) := by show _ = _; unfold uniV; rw [hb]; rfl
    clear hb
    go_wp2
    go_ret2
    rw [HV.out]
    exact ⟨(FU.out _ G1.out).1, rfl⟩
  | true =>
    have HB : Hid (bindsV f = true) := hb
    obtain ⟨⟨y0, y1, y2⟩, -⟩ := three (FU.out _ G1.out).2.1
    have C1 : Hid _ := specTyOkT d k n a1 l1 c1 w1 (FU.out _ G1.out).2.2.2.1
    clear hb
    go_wp2_with fail
    refine Calls.mono C1.out ?_
    rintro e w2 ⟨rfl, hg⟩
    have G2 : Hid (W0.grownBy w2 none) := grown_trans G1.out hg
    clear C1 hg y0 y1 y2
    cases hok : okT k n d with
    | false =>
      have HV : Hid (uniV f (k, n, d) (k', n', d') = none) := by show _ = _; unfold uniV; simp [hok]
      clear hok
      simp only []
      go_wp2
      go_ret2
      rw [HV.out]
      exact ⟨(FU.out _ G2.out).1, rfl⟩
    | true =>
    obtain ⟨⟨y0, y1, y2⟩, -⟩ := three (FU.out _ G2.out).2.2.1
    have C2 : Hid _ := specTyOkT d' k' n' a2 l2 c2 w2 (FU.out _ G2.out).2.2.2.2.1
    have HK1 : Hid (okT k n d = true) := hok
    clear hok
    simp only []
    go_wp2_with fail
    refine Calls.mono C2.out ?_
    rintro e w3 ⟨rfl, hg⟩
    have G3 : Hid (W0.grownBy w3 none) := grown_trans G2.out hg
    clear C2 hg y0 y1 y2
    cases hok : okT k' n' d' with
    | false =>
      have HV : Hid (uniV f (k, n, d) (k', n', d') = none) := by show _ = _; unfold uniV; simp [hok]
      clear hok
      simp only []
      go_wp2
      go_ret2
      rw [HV.out]
      exact ⟨(FU.out _ G3.out).1, rfl⟩
    | true =>
    have HK2 : Hid (okT k' n' d' = true) := hok
    clear hok
    simp only []
    have hwf := bindsV_wf HB.out
    have ok1 := (okT_iff k n d).1 HK1.out
    have ok2 := (okT_iff k' n' d').1 HK2.out
    obtain ⟨s, hs⟩ := unV_some (a := (k, n, d)) (b := (k', n', d')) hwf.1 (gT_ok HK1.out) (gT_ok HK2.out)
    have HS : Hid (un s f (k, n, d) (k', n', d') = some (unV f (k, n, d) (k', n', d')) ∧ wfB f ∧ d.size ≤ 59 ∧ d'.size ≤ 59) := ⟨hs, hwf.1, by omega, by omega⟩
    have HW0 : Hid ((unV f (k, n, d) (k', n', d') = none → uniV f (k, n, d) (k', n', d') = none) ∧ ∀ L', unV f (k, n, d) (k', n', d') = some L' → uniV f (k, n, d) (k', n', d') = if wOk L' k n d 10 60 = true then some L' else none) := ⟨fun e => by unfold uniV; simp [HB.out, HK1.out, HK2.out, e], fun L' e => by unfold uniV; simp [HB.out, HK1.out, HK2.out, e]⟩
    have HWF : Hid (∀ L', unV f (k, n, d) (k', n', d') = some L' → wfB L') := fun L' e => (un_wf s f _ _ L' hwf.1 (gT_ok HK1.out) (gT_ok HK2.out) (by rw [hs, e])).1
    have gd := grown_drew G3.out
    have HV : Hid (∀ u, W0.grownBy u none → Tri q 0 (.int .i64 k) (.int .i64 n) (.slice a1 l1 c1) u ∧ Tri (q + 1) 0 (.int .i64 k') (.int .i64 n') (.slice a2 l2 c2) u) := fun u hu => ⟨(three (FU.out u hu).2.1).1, (three (FU.out u hu).2.2.1).1⟩
    have CC : Hid _ := l4copyT f a l c w3.drew (FU.out _ gd).2.2.2.2.2 hwf.1
    have GD : Hid (W0.grownBy w3.drew none) := gd
    clear gd hwf ok1 ok2 hs
    go_wp2_with fail
    refine wp_region_held_drew (S := (fun u => Tri q 0 (.int .i64 k) (.int .i64 n) (.slice a1 l1 c1) u ∧ Tri (q + 1) 0 (.int .i64 k') (.int .i64 n') (.slice a2 l2 c2) u)) (by kernel_rfl) (HV.out _ GD.out) (fun hH => ?_)
    generalize w3.drew = t0 at *
    simp only [List.size_toArray, List.length_cons, List.length_nil, Nat.reduceAdd, Array.replicate, List.replicate]
    refine wpAnyH_take (i := 0) (v := ?_) rfl (by kernel_rfl) (by kernel_rfl) (by kernel_rfl) (fun _ _ _ h => h) (Or.inl ⟨by rfl, ?_⟩) hH ?_
    rotate_left
    · (intro v hS; obtain ⟨⟨s0, s1, s2⟩, s3, s4, s5⟩ := hS; go_simp; try with_reducible rfl)
    simp only [Act.put, List.setIfInBounds_toArray, List.set_cons_zero, List.set_cons_succ, List.getElem_toArray, List.getElem_cons_succ, List.getElem_cons_zero]
    refine wpAnyH_take (i := 2) (v := ?_) rfl (by kernel_rfl) (by kernel_rfl) (by kernel_rfl) (fun _ _ _ h => h) (Or.inl ⟨by rfl, ?_⟩) hH ?_
    rotate_left
    · (intro v hS; obtain ⟨⟨s0, s1, s2⟩, s3, s4, s5⟩ := hS; go_simp; try with_reducible rfl)
    simp only [Act.put, List.setIfInBounds_toArray, List.set_cons_zero, List.set_cons_succ, List.getElem_toArray, List.getElem_cons_succ, List.getElem_cons_zero]
    refine wpAnyH_take (i := 3) (v := ?_) rfl (by kernel_rfl) (by kernel_rfl) (by kernel_rfl) (fun _ _ _ h => h) (Or.inl ⟨by rfl, ?_⟩) hH ?_
    rotate_left
    · (intro v hS; obtain ⟨⟨s0, s1, s2⟩, s3, s4, s5⟩ := hS; go_simp; try with_reducible rfl)
    simp only [Act.put, List.setIfInBounds_toArray, List.set_cons_zero, List.set_cons_succ, List.getElem_toArray, List.getElem_cons_succ, List.getElem_cons_zero]
    refine wpAnyH_ready (rs := [1]) (by kernel_rfl) (by simp) ?_
    refine AllReadyH.cons rfl (fun K hK => ?_) AllReadyH.nil
    go_simp
    refine Calls.mono CC.out ?_
    rintro e u4 ⟨a4, c4, bs4, rfl, hN, hg, hna⟩
    have G4 : Hid (W0.grownBy u4 none) := grown_trans GD.out hg
    refine hK.out _ _ (HV.out _ G4.out) (fun hH2 => ?_)
    have CU : Hid _ := l4unifyT s f a4 c4 bs4 d d' k n k' n' a1 a2 l1 c1 l2 c2 _ u4 HS.out.1 HS.out.2.1 (gT_ok HK1.out) (gT_ok HK2.out) HS.out.2.2.1 HS.out.2.2.2 hN.1 hN.2.1 hna (FU.out _ G4.out).2.2.2.1 (FU.out _ G4.out).2.2.2.2.1
    have HN : Hid (∀ x ∈ bs4, W0.heap.size ≤ x) := fun x hx => Nat.le_trans GD.out.size (hN.2.2 x hx)
    clear CC hN hg hna
    clear hK K hH
    have hH := hH2
    clear hH2
    simp only [Act.put, List.setIfInBounds_toArray, List.set_cons_zero, List.set_cons_succ, List.getElem_toArray, List.getElem_cons_succ, List.getElem_cons_zero]
    refine wpAnyH_ready (rs := [4]) (by kernel_rfl) (by simp) ?_
    refine AllReadyH.cons rfl (fun K hK => ?_) AllReadyH.nil
    go_simp
    refine Calls.mono CU.out ?_
    rintro e u5 ⟨hT, he⟩
    have G5 : Hid (W0.grownBy u5 none) := Tn.fresh G4.out hT HN.out
    generalize unV f (k, n, d) (k', n', d') = R at *
    cases R with
    | none =>
      simp only [] at he
      subst he
      refine hK.out _ _ (HV.out _ G5.out) (fun hH2 => ?_)
      have HVN : Hid (uniV f (k, n, d) (k', n', d') = none) := HW0.out.1 rfl
      clear HW0 HWF HS CU hT
      clear hK K hH
      have hH := hH2
      clear hH2
      simp only [Act.put, List.setIfInBounds_toArray, List.set_cons_zero, List.set_cons_succ, List.getElem_toArray, List.getElem_cons_succ, List.getElem_cons_zero]
      refine wpAnyH_take (i := 5) (v := ?_) rfl (by kernel_rfl) (by kernel_rfl) (by kernel_rfl) (fun _ _ _ h => h) (Or.inl ⟨by rfl, ?_⟩) hH ?_
      rotate_left
      · (intro v hS; go_simp; try with_reducible rfl)
      simp only [Act.put, List.setIfInBounds_toArray, List.set_cons_zero, List.set_cons_succ, List.getElem_toArray, List.getElem_cons_succ, List.getElem_cons_zero]
      refine wpAnyH_take (i := 6) (v := ?_) rfl (by kernel_rfl) (by kernel_rfl) (by kernel_rfl) (fun _ _ _ h => h) (Or.inl ⟨by rfl, ?_⟩) hH ?_
      rotate_left
      · (intro v hS; go_simp; try with_reducible rfl)
      simp only [Act.put, List.setIfInBounds_toArray, List.set_cons_zero, List.set_cons_succ, List.getElem_toArray, List.getElem_cons_succ, List.getElem_cons_zero]
      refine wpAnyH_take (i := 7) (v := ?_) rfl (by kernel_rfl) (by kernel_rfl) (by kernel_rfl) (fun _ _ _ h => h) (Or.inl ⟨by rfl, ?_⟩) hH ?_
      rotate_left
      · (intro v hS; go_simp; try with_reducible rfl)
      simp only [Act.put, List.setIfInBounds_toArray, List.set_cons_zero, List.set_cons_succ, List.getElem_toArray, List.getElem_cons_succ, List.getElem_cons_zero]
      refine wpAnyH_take (i := 8) (v := ?_) rfl (by kernel_rfl) (by kernel_rfl) (by kernel_rfl) (fun _ _ _ h => h) (Or.inl ⟨by rfl, ?_⟩) hH ?_
      rotate_left
      · (intro v hS; go_simp; try with_reducible rfl)
      simp only [Act.put, List.setIfInBounds_toArray, List.set_cons_zero, List.set_cons_succ, List.getElem_toArray, List.getElem_cons_succ, List.getElem_cons_zero]
      refine wpAnyH_take (i := 9) (v := ?_) rfl (by kernel_rfl) (by kernel_rfl) (by kernel_rfl) (fun _ _ _ h => h) (Or.inl ⟨by rfl, ?_⟩) hH ?_
      rotate_left
      · (intro v hS; go_simp; try with_reducible rfl)
      simp only [Act.put, List.setIfInBounds_toArray, List.set_cons_zero, List.set_cons_succ, List.getElem_toArray, List.getElem_cons_succ, List.getElem_cons_zero]
      refine wpAnyH_done (by kernel_rfl) ?_ _
      go_wp2
      go_ret2
      rw [HVN.out]
      exact ⟨(FU.out _ G5.out).1, rfl⟩
    | some L' =>
    simp only [] at he
    obtain ⟨a6, c6, bs6, he, hO6, hnd6, hin6, hna6⟩ := he
    subst he
    refine hK.out _ _ (HV.out _ G5.out) (fun hH2 => ?_)
    have hwf := HWF.out L' rfl
    have hln := wfB_len hwf
    have HWV : Hid (uniV f (k, n, d) (k', n', d') = if wOk L' k n d 10 60 = true then some L' else none) := HW0.out.2 L' rfl
    have CR := l4goT L' hwf (by omega) 10 d k n a1 l1 c1 a6 L'.len c6 u5 (by omega) hO6.reads (FU.out _ G5.out).2.2.2.1 (by rw [← (FU.out _ G5.out).2.2.2.1.1]; exact (gT_ok HK1.out).1) (gT_ok HK1.out).2 HS.out.2.2.1
    have e1 : (11 : Int) - ((10 : Nat) : Int) = 1 := by omega
    rw [e1] at CR
    have CR : Hid _ := CR
    have HO : Hid (SlB u5 a6 L'.len L' ∧ wfB L') := ⟨hO6.reads, hwf⟩
    obtain ⟨⟨x0, x1, x2⟩, -⟩ := three (FU.out _ G5.out).2.1
    have hqu := lt_of_block (FU.out _ G5.out).2.1
    clear HW0 HWF HS CU hT hO6 hnd6 hin6 hna6 e1 hwf hln HN
    clear hK K hH
    have hH := hH2
    clear hH2
    simp only [Act.put, List.setIfInBounds_toArray, List.set_cons_zero, List.set_cons_succ, List.getElem_toArray, List.getElem_cons_succ, List.getElem_cons_zero]
    refine wpAnyH_take (i := 5) (v := ?_) rfl (by kernel_rfl) (by kernel_rfl) (by kernel_rfl) (fun _ _ _ h => h) (Or.inl ⟨by rfl, ?_⟩) hH ?_
    rotate_left
    · (intro v hS; go_simp; try with_reducible rfl)
    simp only [Act.put, List.setIfInBounds_toArray, List.set_cons_zero, List.set_cons_succ, List.getElem_toArray, List.getElem_cons_succ, List.getElem_cons_zero]
    refine wpAnyH_take (i := 6) (v := ?_) rfl (by kernel_rfl) (by kernel_rfl) (by kernel_rfl) (fun _ _ _ h => h) (Or.inl ⟨by rfl, ?_⟩) hH ?_
    rotate_left
    · (intro v hS; go_simp; try with_reducible rfl)
    simp only [Act.put, List.setIfInBounds_toArray, List.set_cons_zero, List.set_cons_succ, List.getElem_toArray, List.getElem_cons_succ, List.getElem_cons_zero]
    refine wpAnyH_take (i := 7) (v := ?_) rfl (by kernel_rfl) (by kernel_rfl) (by kernel_rfl) (fun _ _ _ h => h) (Or.inl ⟨by rfl, ?_⟩) hH ?_
    rotate_left
    · (intro v hS; go_simp; try with_reducible rfl)
    simp only [Act.put, List.setIfInBounds_toArray, List.set_cons_zero, List.set_cons_succ, List.getElem_toArray, List.getElem_cons_succ, List.getElem_cons_zero]
    refine wpAnyH_take (i := 8) (v := ?_) rfl (by kernel_rfl) (by kernel_rfl) (by kernel_rfl) (fun _ _ _ h => h) (Or.inl ⟨by rfl, ?_⟩) hH ?_
    rotate_left
    · (intro v hS; go_simp; try with_reducible rfl)
    simp only [Act.put, List.setIfInBounds_toArray, List.set_cons_zero, List.set_cons_succ, List.getElem_toArray, List.getElem_cons_succ, List.getElem_cons_zero]
    refine wpAnyH_take (i := 9) (v := ?_) rfl (by kernel_rfl) (by kernel_rfl) (by kernel_rfl) (fun _ _ _ h => h) (Or.inl ⟨by rfl, ?_⟩) hH ?_
    rotate_left
    · (intro v hS; go_simp; try with_reducible rfl)
    simp only [Act.put, List.setIfInBounds_toArray, List.set_cons_zero, List.set_cons_succ, List.getElem_toArray, List.getElem_cons_succ, List.getElem_cons_zero]
    refine wpAnyH_done (by kernel_rfl) ?_ _
    go_wp2_with fail
    refine Calls.mono CR.out ?_
    intro e w6 hr
    obtain ⟨k1, n1, z1, d1, a3, l3, c3, bs3, he, hg, hN1, hok1, hno1⟩ := hr.out
    subst he
    have ga := World.grownBy_alloc w6 (.cells #[.int .i64 k1, .int .i64 n1, .slice a3 l3 c3] 25) none
    have G6 : Hid (W0.grownBy (w6.alloc (.cells #[.int .i64 k1, .int .i64 n1, .slice a3 l3 c3] 25)) none ∧ u5.grownBy (w6.alloc (.cells #[.int .i64 k1, .int .i64 n1, .slice a3 l3 c3] 25)) none) := ⟨grown_trans (grown_trans G5.out hg) ga, grown_trans hg ga⟩
    clear CR hr hg ga x0 x1 x2 hN1 hqu
    cases hwo : wOk L' k n d 10 60 with
    | false =>
      have HV2 : Hid (uniV f (k, n, d) (k', n', d') = none) := by show _ = _; rw [HWV.out]; simp [hwo]
      have hz : z1 < 0 := hno1 hwo
      clear hwo hok1 hno1
      simp only []
      go_wp2
      go_ret2
      rw [HV2.out]
      exact ⟨(FU.out _ G6.out.1).1, rfl⟩
    | true =>
      have HV2 : Hid (uniV f (k, n, d) (k', n', d') = some L') := by show _ = _; rw [HWV.out]; simp [hwo]
      have hz : ¬ (z1 < 0) := (hok1 hwo).1
      have CL : Hid _ := l4copyT L' a6 L'.len c6 (w6.alloc (.cells #[.int .i64 k1, .int .i64 n1, .slice a3 l3 c3] 25)) (HO.out.1.none G6.out.2) HO.out.2
      clear hwo hok1 hno1
      simp only []
      go_wp2_with fail
      refine Calls.mono CL.out ?_
      rintro e w7 ⟨a7, c7, bs7, rfl, hN, hg, hna⟩
      have HE : Hid (NewB (w6.alloc (.cells #[.int .i64 k1, .int .i64 n1, .slice a3 l3 c3] 25)) w7 25 44 a7 L'.len c7 L' bs7 ∧ w.grownBy w7 none ∧ (c7 = 0 → a7 = none) ∧ w.heap.size ≤ (w6.alloc (.cells #[.int .i64 k1, .int .i64 n1, .slice a3 l3 c3] 25)).heap.size) := ⟨hN, grown_trans (FU.out _ G6.out.1).1 hg, hna, (FU.out _ G6.out.1).1.size⟩
      clear CL hN hg hna
      simp only []
      go_wp2
      go_ret2
      rw [HV2.out]
      exact ⟨HE.out.2.1, a7, c7, bs7, rfl, ⟨HE.out.1.1, HE.out.1.2.1, fun x hx => Nat.le_trans HE.out.2.2.2 (HE.out.1.2.2 x hx)⟩, HE.out.2.2.1⟩
end Go.Proofs.Ytmlganaiajhjeaa.By
