/-
  laws.sameTy, by its contract. No statement is proved here.
-/
import Derived.Test.YtjchjdcaampghaaDoorTSameJ
namespace Go.Proofs.YtjchjdcaampghaaDoor.By
open Go.RowKit
set_option linter.unusedVariables false
set_option linter.unusedSimpArgs false

set_option maxHeartbeats 2000000 in
theorem sameTyT (m : Nat) : ∀ (d d' : F) (k n k' n' : Int) (a a' : Option Addr) (l c l' c' : Nat) (w : World), d.size < m → SlF w a l d → SlF w a' l' d' →
    Calls Tryd.prog 8 #[.agg #[.int .i64 k, .int .i64 n, .slice a l c], .agg #[.int .i64 k', .int .i64 n', .slice a' l' c']] w fun e u => e = .returned (.bool (eqV k n d k' n' d')) ∧ w.grownBy u none := by
  induction m with
  | zero => intro d d' k n k' n' a a' l c l' c' w hm; exact absurd hm (Nat.not_lt_zero _)
  | succ m ih =>
    intro d d' k n k' n' a a' l c l' c' w hm h h'
    have hfl := h.1
    have hfl' := h'.1
    have hl := h.2.1
    have g0 := grown_alloc (grown_alloc (World.grownBy.refl w none) (.cells #[.int .i64 k, .int .i64 n, .slice a l c] 25)) (.cells #[.int .i64 k', .int .i64 n', .slice a' l' c'] 25)
    by_cases hk : k = k'
    rotate_left
    · have E : Hid (eqV k n d k' n' d' = false) := by show _ = _; simp [eqV, hk]
      have G0 : Hid _ := g0
      clear ih g0
      go_enter Tryd.func8, Tryd.ntmps8
      go_wp2
      go_ret
      exact ⟨by rw [E.out]; rfl, G0.out⟩
    subst hk
    by_cases hn : n = n'
    rotate_left
    · have E : Hid (eqV k n d k n' d' = false) := by show _ = _; simp [eqV, hn]
      have G0 : Hid _ := g0
      clear ih g0
      go_enter Tryd.func8, Tryd.ntmps8
      go_wp2
      go_ret
      exact ⟨by rw [E.out]; rfl, G0.out⟩
    subst hn
    by_cases hll : l = l'
    rotate_left
    · have E : Hid (eqV k n d k n d' = false) := eqV_len (by omega)
      have hll' : ¬ (l : Int) = l' := by omega
      have G0 : Hid _ := g0
      clear ih g0
      go_enter Tryd.func8, Tryd.ntmps8
      go_wp2
      go_ret
      exact ⟨by rw [E.out]; rfl, G0.out⟩
    subst hll
    have E : Hid (eqV k n d k n d' = eqB d d') := by show _ = _; simp [eqV]
    have b1 := (alloc2_blocks w (.cells #[.int .i64 k, .int .i64 n, .slice a l c] 25) (.cells #[.int .i64 k, .int .i64 n, .slice a' l c'] 25))
    rcases h.cases with ⟨rfl, rfl⟩ | ⟨b, o, rfl, hin, -, hpos⟩
    · obtain rfl : d' = .nil := F.nil_of_len hfl'
      have G0 : Hid _ := g0
      clear ih g0 b1
      go_enter Tryd.func8, Tryd.ntmps8
      go_wp2
      refine wp_loop_rounds 1 ?_
      rw [rounds_succ]
      go_wp2
      go_ret
      exact ⟨by rw [E.out]; rfl, G0.out⟩
    rcases h'.cases with ⟨rfl, rfl⟩ | ⟨b', o', rfl, hin', -, -⟩
    · exact absurd hpos (by omega)
    obtain ⟨b1, b2, -⟩ := b1
    have IH : Hid _ := ih
    have IN : Hid (InF _ d b o ∧ InF _ d' b' o') := ⟨hin.none g0, hin'.none g0⟩
    have G0 : Hid (w.grownBy _ none) := g0
    have B0 : Hid (_ = some _ ∧ _ = some _) := ⟨(three b1).1.2.2, (three b2).1.2.2⟩
    clear ih hin hin' h h' g0 b1 b2
    go_enter Tryd.func8, Tryd.ntmps8
    go_wp2
    generalize ((w.alloc (.cells #[.int .i64 k, .int .i64 n, .slice (some ⟨b, o, none⟩) l c] 25)).alloc (.cells #[.int .i64 k, .int .i64 n, .slice (some ⟨b', o', none⟩) l c'] 25)) = W0 at *
    go_loopw [5] (fun i wr => ∃ (j : Nat) (R R' : F), j ≤ l ∧ i = .int .i64 j ∧ W0.grownBy wr none ∧ InF wr R b (o + j * 3) ∧ InF wr R' b' (o' + j * 3) ∧ R.size ≤ d.size ∧ R.len + j = l ∧ R'.len + j = l ∧ Hid (eqB d d' = eqB R R')) (fun i _ => l - (intOf i).toNat)
    case atStart => exact ⟨0, d, d', Nat.zero_le _, rfl, World.grownBy.refl _ _, by simpa using IN.out.1, by simpa using IN.out.2, Nat.le_refl _, by omega, by omega, rfl⟩
    case round =>
      obtain ⟨j, R, R', hj, rfl, hg, hR, hR', hRs, hRl, hRl', hv⟩ := hrel
      have x2 := hg.cell B0.out.1 (by simp)
      have y2 := hg.cell B0.out.2 (by simp)
      by_cases hlt : j < l
      · obtain ⟨q, hq⟩ : ∃ q, R.len = q + 1 := ⟨R.len - 1, by omega⟩
        obtain ⟨k1, n1, d1, R1, rfl, hR1⟩ := F.cons_of_len hq
        obtain ⟨q', hq'⟩ : ∃ q, R'.len = q + 1 := ⟨R'.len - 1, by omega⟩
        obtain ⟨k2, n2, d2, R2, rfl, hR2⟩ := F.cons_of_len hq'
        obtain ⟨a1, l1, x1, c0, c1, c2, hd, hT⟩ := hR.out
        obtain ⟨a2, l2, x3, d0, dd1, dd2, hd', hT'⟩ := hR'.out
        have e3 : o + j * 3 + 3 = o + (j + 1) * 3 := by omega
        have e3' : o' + j * 3 + 3 = o' + (j + 1) * 3 := by omega
        rw [e3] at hT
        rw [e3'] at hT'
        have hds : d1.size < m := by simp only [F.size] at hRs hm; omega
        have gd := grown_drew (World.grownBy.refl wr none)
        have CC : Hid _ := IH.out d1 d2 k1 n1 k2 n2 a1 a2 l1 x1 l2 x3 wr.drew hds (hd.none gd) (hd'.none gd)
        have TT : Hid (Tri b (o + j * 3) (.int .i64 k1) (.int .i64 n1) (.slice a1 l1 x1) wr.drew ∧ Tri b' (o' + j * 3) (.int .i64 k2) (.int .i64 n2) (.slice a2 l2 x3) wr.drew ∧ wr.drew.cell? ⟨w.heap.size, 2, none⟩ = some (.slice (some ⟨b, o, none⟩) l c) ∧ wr.drew.cell? ⟨w.heap.size + 1, 2, none⟩ = some (.slice (some ⟨b', o', none⟩) l c')) := ⟨Tri.none ⟨c0, c1, c2⟩ gd, Tri.none ⟨d0, dd1, dd2⟩ gd, gd.cell x2 (by simp), gd.cell y2 (by simp)⟩
        have FX : Hid (InF wr.drew R1 b (o + (j + 1) * 3) ∧ InF wr.drew R2 b' (o' + (j + 1) * 3) ∧ W0.grownBy wr.drew none) := ⟨hT.none gd, hT'.none gd, grown_trans hg gd⟩
        have hRs' : R1.size ≤ d.size := by simp only [F.size] at hRs; omega
        clear hd hd' hR hR' hT hT' hg IN IH c0 c1 c2 d0 dd1 dd2 gd hRs
        go_wp2_with fail
        clear x2 y2
        refine wp_region_held_drew (S := (fun u => Tri b (o + j * 3) (.int .i64 k1) (.int .i64 n1) (.slice a1 l1 x1) u ∧ Tri b' (o' + j * 3) (.int .i64 k2) (.int .i64 n2) (.slice a2 l2 x3) u ∧ u.cell? ⟨w.heap.size, 2, none⟩ = some (.slice (some ⟨b, o, none⟩) l c) ∧ u.cell? ⟨w.heap.size + 1, 2, none⟩ = some (.slice (some ⟨b', o', none⟩) l c'))) (by kernel_rfl) TT.out (fun hH => ?_)
        generalize wr.drew = u at *
        clear wr
        simp only [List.size_toArray, List.length_cons, List.length_nil, Nat.reduceAdd, Array.replicate, List.replicate]
        refine wpAnyH_take (i := 0) (v := ?_) rfl (by kernel_rfl) (by kernel_rfl) (by kernel_rfl) (fun _ _ _ h => h) (Or.inl ⟨by rfl, ?_⟩) hH ?_
        rotate_left
        · (intro v hS; obtain ⟨⟨s0, s1, s2⟩, ⟨t0, t1, t2⟩, x2, y2⟩ := hS; go_simp; try with_reducible rfl)
        simp only [Act.put, List.setIfInBounds_toArray, List.set_cons_zero, List.set_cons_succ, List.getElem_toArray, List.getElem_cons_succ, List.getElem_cons_zero]
        refine wpAnyH_take (i := 1) (v := ?_) rfl (by kernel_rfl) (by kernel_rfl) (by kernel_rfl) (fun _ _ _ h => h) (Or.inl ⟨by rfl, ?_⟩) hH ?_
        rotate_left
        · (intro v hS; obtain ⟨⟨s0, s1, s2⟩, ⟨t0, t1, t2⟩, x2, y2⟩ := hS; go_simp; try with_reducible rfl)
        simp only [Act.put, List.setIfInBounds_toArray, List.set_cons_zero, List.set_cons_succ, List.getElem_toArray, List.getElem_cons_succ, List.getElem_cons_zero]
        refine wpAnyH_take (i := 2) (v := ?_) rfl (by kernel_rfl) (by kernel_rfl) (by kernel_rfl) (fun _ _ _ h => h) (Or.inl ⟨by rfl, ?_⟩) hH ?_
        rotate_left
        · (intro v hS; obtain ⟨⟨s0, s1, s2⟩, ⟨t0, t1, t2⟩, x2, y2⟩ := hS; go_simp; try with_reducible rfl)
        simp only [Act.put, List.setIfInBounds_toArray, List.set_cons_zero, List.set_cons_succ, List.getElem_toArray, List.getElem_cons_succ, List.getElem_cons_zero]
        refine wpAnyH_take (i := 3) (v := ?_) rfl (by kernel_rfl) (by kernel_rfl) (by kernel_rfl) (fun _ _ _ h => h) (Or.inl ⟨by rfl, ?_⟩) hH ?_
        rotate_left
        · (intro v hS; obtain ⟨⟨s0, s1, s2⟩, ⟨t0, t1, t2⟩, x2, y2⟩ := hS; go_simp; try with_reducible rfl)
        simp only [Act.put, List.setIfInBounds_toArray, List.set_cons_zero, List.set_cons_succ, List.getElem_toArray, List.getElem_cons_succ, List.getElem_cons_zero]
        refine wpAnyH_take (i := 4) (v := ?_) rfl (by kernel_rfl) (by kernel_rfl) (by kernel_rfl) (fun _ _ _ h => h) (Or.inl ⟨by rfl, ?_⟩) hH ?_
        rotate_left
        · (intro v hS; obtain ⟨⟨s0, s1, s2⟩, ⟨t0, t1, t2⟩, x2, y2⟩ := hS; go_simp; try with_reducible rfl)
        simp only [Act.put, List.setIfInBounds_toArray, List.set_cons_zero, List.set_cons_succ, List.getElem_toArray, List.getElem_cons_succ, List.getElem_cons_zero]
        refine wpAnyH_take (i := 5) (v := ?_) rfl (by kernel_rfl) (by kernel_rfl) (by kernel_rfl) (fun _ _ _ h => h) (Or.inl ⟨by rfl, ?_⟩) hH ?_
        rotate_left
        · (intro v hS; obtain ⟨⟨s0, s1, s2⟩, ⟨t0, t1, t2⟩, x2, y2⟩ := hS; go_simp; try with_reducible rfl)
        simp only [Act.put, List.setIfInBounds_toArray, List.set_cons_zero, List.set_cons_succ, List.getElem_toArray, List.getElem_cons_succ, List.getElem_cons_zero]
        refine wpAnyH_take (i := 6) (v := ?_) rfl (by kernel_rfl) (by kernel_rfl) (by kernel_rfl) (fun _ _ _ h => h) (Or.inl ⟨by rfl, ?_⟩) hH ?_
        rotate_left
        · (intro v hS; obtain ⟨⟨s0, s1, s2⟩, ⟨t0, t1, t2⟩, x2, y2⟩ := hS; go_simp; try with_reducible rfl)
        simp only [Act.put, List.setIfInBounds_toArray, List.set_cons_zero, List.set_cons_succ, List.getElem_toArray, List.getElem_cons_succ, List.getElem_cons_zero]
        refine wpAnyH_take (i := 7) (v := ?_) rfl (by kernel_rfl) (by kernel_rfl) (by kernel_rfl) (fun _ _ _ h => h) (Or.inl ⟨by rfl, ?_⟩) hH ?_
        rotate_left
        · (intro v hS; obtain ⟨⟨s0, s1, s2⟩, ⟨t0, t1, t2⟩, x2, y2⟩ := hS; go_simp; try with_reducible rfl)
        simp only [Act.put, List.setIfInBounds_toArray, List.set_cons_zero, List.set_cons_succ, List.getElem_toArray, List.getElem_cons_succ, List.getElem_cons_zero]
        refine wpAnyH_take (i := 8) (v := ?_) rfl (by kernel_rfl) (by kernel_rfl) (by kernel_rfl) (fun _ _ _ h => h) (Or.inl ⟨by rfl, ?_⟩) hH ?_
        rotate_left
        · (intro v hS; obtain ⟨⟨s0, s1, s2⟩, ⟨t0, t1, t2⟩, x2, y2⟩ := hS; go_simp; try with_reducible rfl)
        simp only [Act.put, List.setIfInBounds_toArray, List.set_cons_zero, List.set_cons_succ, List.getElem_toArray, List.getElem_cons_succ, List.getElem_cons_zero]
        refine wpAnyH_take (i := 9) (v := ?_) rfl (by kernel_rfl) (by kernel_rfl) (by kernel_rfl) (fun _ _ _ h => h) (Or.inl ⟨by rfl, ?_⟩) hH ?_
        rotate_left
        · (intro v hS; obtain ⟨⟨s0, s1, s2⟩, ⟨t0, t1, t2⟩, x2, y2⟩ := hS; go_simp; try with_reducible rfl)
        simp only [Act.put, List.setIfInBounds_toArray, List.set_cons_zero, List.set_cons_succ, List.getElem_toArray, List.getElem_cons_succ, List.getElem_cons_zero]
        refine wpAnyH_ready (rs := [10]) (by kernel_rfl) (by simp) ?_
        refine AllReadyH.cons rfl (fun K hK => ?_) AllReadyH.nil
        go_simp
        refine Calls.mono CC.out ?_
        rintro e u2 ⟨rfl, hgu⟩
        refine hK.out _ _ ⟨TT.out.1.none hgu, TT.out.2.1.none hgu, hgu.cell TT.out.2.2.1 (by simp), hgu.cell TT.out.2.2.2 (by simp)⟩ (fun hH2 => ?_)
        clear hK K hH
        have hH := hH2
        clear hH2
        have FY : Hid (InF u2 R1 b (o + (j + 1) * 3) ∧ InF u2 R2 b' (o' + (j + 1) * 3) ∧ W0.grownBy u2 none) := ⟨FX.out.1.none hgu, FX.out.2.1.none hgu, grown_trans FX.out.2.2 hgu⟩
        clear FX hgu CC TT
        simp only [Act.put, List.setIfInBounds_toArray, List.set_cons_zero, List.set_cons_succ, List.getElem_toArray, List.getElem_cons_succ, List.getElem_cons_zero]
        cases hb : eqV k1 n1 d1 k2 n2 d2 with
        | true =>
          have hv2 : Hid (eqB d d' = eqB R1 R2) := by show _ = _; rw [hv.out, eqB_cons, hb, Bool.true_and]
          clear hv hb
          refine wpAnyH_take (i := 11) (v := ?_) rfl (by kernel_rfl) (by kernel_rfl) (by kernel_rfl) (fun _ _ _ h => h) (Or.inl ⟨by rfl, ?_⟩) hH ?_
          rotate_left
          · (intro v hS; go_simp; try with_reducible rfl)
          simp only [Act.put, List.setIfInBounds_toArray, List.set_cons_zero, List.set_cons_succ, List.getElem_toArray, List.getElem_cons_succ, List.getElem_cons_zero]
          refine wpAnyH_done (by kernel_rfl) ?_ _
          go_wp2
          go_roundw
          case rel => exact ⟨j + 1, R1, R2, by omega, by go_num, FY.out.2.2, FY.out.1, FY.out.2.1, hRs', by omega, by omega, hv2⟩
          case measure => simp [intOf]; omega
        | false =>
          have hv2 : Hid (eqB d d' = false) := by show _ = _; rw [hv.out, eqB_cons, hb, Bool.false_and]
          clear hv hb
          refine wpAnyH_take (i := 11) (v := ?_) rfl (by kernel_rfl) (by kernel_rfl) (by kernel_rfl) (fun _ _ _ h => h) (Or.inl ⟨by rfl, ?_⟩) hH ?_
          rotate_left
          · (intro v hS; go_simp; try with_reducible rfl)
          simp only [Act.put, List.setIfInBounds_toArray, List.set_cons_zero, List.set_cons_succ, List.getElem_toArray, List.getElem_cons_succ, List.getElem_cons_zero]
          refine wpAnyH_done (by kernel_rfl) ?_ _
          go_wp2
          go_ret
          exact ⟨by rw [E.out, hv2.out]; rfl, grown_trans G0.out FY.out.2.2⟩
      · obtain rfl : j = l := by omega
        obtain rfl : R = .nil := F.nil_of_len (by omega)
        obtain rfl : R' = .nil := F.nil_of_len (by omega)
        have hv2 : Hid (eqB d d' = true) := hv.out
        clear hv
        go_wp2
        go_ret
        exact ⟨by rw [E.out, hv2.out]; rfl, grown_trans G0.out hg⟩

end Go.Proofs.YtjchjdcaampghaaDoor.By
