/-
  The law's own comparison of two trees that are the same, for this seat's proofs. No statement is proved here.
-/
import Derived.Test.YtbeejgacdcncgaaTHelp
import Derived.Deep.RegionHeld
namespace Go.Proofs.Ytbeejgacdcncgaa.By
open Go.RowKit
set_option linter.unusedVariables false
set_option linter.unusedSimpArgs false

/-- Three cells from off on. -/
def Tri (b off : Nat) (v0 v1 v2 : Value) (w : World) : Prop := w.cell? ⟨b, off, none⟩ = some v0 ∧ w.cell? ⟨b, off + 1, none⟩ = some v1 ∧ w.cell? ⟨b, off + 2, none⟩ = some v2
theorem Tri.none {b off : Nat} {v0 v1 v2 : Value} {w w' : World} (h : Tri b off v0 v1 v2 w) (hg : w.grownBy w' Option.none) : Tri b off v0 v1 v2 w' :=
  ⟨hg.cell h.1 (by simp), hg.cell h.2.1 (by simp), hg.cell h.2.2 (by simp)⟩

set_option maxHeartbeats 1000000 in
theorem eqT_of {a a' : Option Addr} {l c c' : Nat} (k n : Int) (w : World)
    (H : ∀ w', w.grownBy w' none → Calls Try.prog 28 #[.slice a l c, .slice a' l c'] w' fun e u => e = .returned (.bool true) ∧ w'.grownBy u none) :
    Calls Try.prog 20 #[.agg #[.int .i64 k, .int .i64 n, .slice a l c], .agg #[.int .i64 k, .int .i64 n, .slice a' l c']] w fun e u => e = .returned (.bool true) ∧ w.grownBy u none := by
  have HH : Hid _ := H
  clear H
  go_enter Try.func20, Try.ntmps20
  go_wp2_with fail
  have g0 := grown_alloc (grown_alloc (World.grownBy.refl w none) (.cells #[.int .i64 k, .int .i64 n, .slice a l c] 34)) (.cells #[.int .i64 k, .int .i64 n, .slice a' l c'] 34)
  refine Calls.mono (HH.out _ g0) ?_
  rintro e u ⟨rfl, hg⟩
  have G : Hid (w.grownBy u none) := grown_trans g0 hg
  clear g0 hg HH
  simp only []
  go_wp2
  go_ret
  exact ⟨rfl, G.out⟩

set_option maxHeartbeats 2000000 in
theorem eqS (m : Nat) : ∀ (f : F) (a a' : Option Addr) (l c c' : Nat) (w : World), f.size ≤ m → SlF w a l f → SlF w a' l f →
    Calls Try.prog 28 #[.slice a l c, .slice a' l c'] w fun e u => e = .returned (.bool true) ∧ w.grownBy u none := by
  induction m with
  | zero =>
    intro f a a' l c c' w hm h h'
    have hlen := f.len_le
    obtain ⟨e1, e2, -⟩ := h
    obtain rfl : l = 0 := by omega
    go_enter Try.func28, Try.ntmps28
    go_wp2
    refine wp_loop_rounds 1 ?_
    rw [rounds_succ]
    go_wp2
    go_ret
    exact ⟨rfl, World.grownBy.refl _ _⟩
  | succ m ih =>
    intro f a a' l c c' w hm h h'
    have hlen := f.len_le
    have hl := h.2.1
    have hfl := h.1
    rcases h.cases with ⟨rfl, rfl⟩ | ⟨b, o, rfl, hin, -, hpos⟩
    · go_enter Try.func28, Try.ntmps28
      go_wp2
      refine wp_loop_rounds 1 ?_
      rw [rounds_succ]
      go_wp2
      go_ret
      exact ⟨rfl, World.grownBy.refl _ _⟩
    rcases h'.cases with ⟨rfl, rfl⟩ | ⟨b', o', rfl, hin', -, -⟩
    · exact absurd hpos (by omega)
    have IH : Hid _ := ih
    have IN : Hid (InF w f b o ∧ InF w f b' o') := ⟨hin, hin'⟩
    clear ih hin hin' h h'
    go_enter Try.func28, Try.ntmps28
    go_wp2
    go_loopw [5] (fun i wr => ∃ (j : Nat) (R : F), j ≤ l ∧ i = .int .i64 j ∧ w.grownBy wr none ∧ InF wr R b (o + j * 3) ∧ InF wr R b' (o' + j * 3) ∧ R.size ≤ f.size ∧ R.len + j = l) (fun i _ => l - (intOf i).toNat)
    case atStart => exact ⟨0, f, Nat.zero_le _, rfl, World.grownBy.refl _ _, by simpa using IN.out.1, by simpa using IN.out.2, Nat.le_refl _, by omega⟩
    case round =>
      obtain ⟨j, R, hj, rfl, hg, hR, hR', hRs, hRl⟩ := hrel
      by_cases hlt : j < l
      · obtain ⟨q, hq⟩ : ∃ q, R.len = q + 1 := ⟨R.len - 1, by omega⟩
        obtain ⟨kk, nn, d, R1, rfl, hR1⟩ := F.cons_of_len hq
        obtain ⟨a1, l1, x1, c0, c1, c2, hd, hR2⟩ := hR.out
        obtain ⟨a2, l2, x2, d0, d1, d2, hd', hR2'⟩ := hR'.out
        obtain rfl : l1 = l2 := hd.1.symm.trans hd'.1
        have e3 : o + j * 3 + 3 = o + (j + 1) * 3 := by omega
        have e3' : o' + j * 3 + 3 = o' + (j + 1) * 3 := by omega
        rw [e3] at hR2
        rw [e3'] at hR2'
        have hds : d.size ≤ m := by simp only [F.size] at hRs hm; omega
        have gd := grown_drew (World.grownBy.refl wr none)
        have C := eqT_of (a := a1) (a' := a2) (l := l1) (c := x1) (c' := x2) kk nn wr.drew (fun w' hw' => IH.out d a1 a2 l1 x1 x2 w' hds (hd.none (grown_trans gd hw')) (hd'.none (grown_trans gd hw')))
        have CC : Hid _ := C
        have TT : Hid (Tri b (o + j * 3) (.int .i64 kk) (.int .i64 nn) (.slice a1 l1 x1) wr.drew ∧ Tri b' (o' + j * 3) (.int .i64 kk) (.int .i64 nn) (.slice a2 l1 x2) wr.drew) := ⟨Tri.none ⟨c0, c1, c2⟩ gd, Tri.none ⟨d0, d1, d2⟩ gd⟩
        have FX : Hid (InF wr.drew R1 b (o + (j + 1) * 3) ∧ InF wr.drew R1 b' (o' + (j + 1) * 3) ∧ w.grownBy wr.drew none) := ⟨hR2.none gd, hR2'.none gd, grown_trans hg gd⟩
        have hRs' : R1.size ≤ f.size := by simp only [F.size] at hRs; omega
        clear C hd hd' hR hR' hR2 hR2' hg IN IH c0 c1 c2 d0 d1 d2 gd hRs
        go_wp2_with fail
        refine wp_region_held_drew (S := (fun u => Tri b (o + j * 3) (.int .i64 kk) (.int .i64 nn) (.slice a1 l1 x1) u ∧ Tri b' (o' + j * 3) (.int .i64 kk) (.int .i64 nn) (.slice a2 l1 x2) u)) (by kernel_rfl) TT.out (fun hH => ?_)
        generalize wr.drew = u at *
        clear wr
        simp only [List.size_toArray, List.length_cons, List.length_nil, Nat.reduceAdd, Array.replicate, List.replicate]
        refine wpAnyH_take (i := 0) (v := ?_) rfl (by kernel_rfl) (by kernel_rfl) (by kernel_rfl) (fun _ _ _ h => h) (Or.inl ⟨by rfl, ?_⟩) hH ?_
        rotate_left
        · (intro v hS; obtain ⟨⟨s0, s1, s2⟩, t0, t1, t2⟩ := hS; go_simp; try with_reducible rfl)
        simp only [Act.put, List.setIfInBounds_toArray, List.set_cons_zero, List.set_cons_succ, List.getElem_toArray, List.getElem_cons_succ, List.getElem_cons_zero]
        refine wpAnyH_take (i := 1) (v := ?_) rfl (by kernel_rfl) (by kernel_rfl) (by kernel_rfl) (fun _ _ _ h => h) (Or.inl ⟨by rfl, ?_⟩) hH ?_
        rotate_left
        · (intro v hS; obtain ⟨⟨s0, s1, s2⟩, t0, t1, t2⟩ := hS; go_simp; try with_reducible rfl)
        simp only [Act.put, List.setIfInBounds_toArray, List.set_cons_zero, List.set_cons_succ, List.getElem_toArray, List.getElem_cons_succ, List.getElem_cons_zero]
        refine wpAnyH_take (i := 2) (v := ?_) rfl (by kernel_rfl) (by kernel_rfl) (by kernel_rfl) (fun _ _ _ h => h) (Or.inl ⟨by rfl, ?_⟩) hH ?_
        rotate_left
        · (intro v hS; obtain ⟨⟨s0, s1, s2⟩, t0, t1, t2⟩ := hS; go_simp; try with_reducible rfl)
        simp only [Act.put, List.setIfInBounds_toArray, List.set_cons_zero, List.set_cons_succ, List.getElem_toArray, List.getElem_cons_succ, List.getElem_cons_zero]
        refine wpAnyH_take (i := 3) (v := ?_) rfl (by kernel_rfl) (by kernel_rfl) (by kernel_rfl) (fun _ _ _ h => h) (Or.inl ⟨by rfl, ?_⟩) hH ?_
        rotate_left
        · (intro v hS; obtain ⟨⟨s0, s1, s2⟩, t0, t1, t2⟩ := hS; go_simp; try with_reducible rfl)
        simp only [Act.put, List.setIfInBounds_toArray, List.set_cons_zero, List.set_cons_succ, List.getElem_toArray, List.getElem_cons_succ, List.getElem_cons_zero]
        refine wpAnyH_take (i := 4) (v := ?_) rfl (by kernel_rfl) (by kernel_rfl) (by kernel_rfl) (fun _ _ _ h => h) (Or.inl ⟨by rfl, ?_⟩) hH ?_
        rotate_left
        · (intro v hS; obtain ⟨⟨s0, s1, s2⟩, t0, t1, t2⟩ := hS; go_simp; try with_reducible rfl)
        simp only [Act.put, List.setIfInBounds_toArray, List.set_cons_zero, List.set_cons_succ, List.getElem_toArray, List.getElem_cons_succ, List.getElem_cons_zero]
        refine wpAnyH_take (i := 5) (v := ?_) rfl (by kernel_rfl) (by kernel_rfl) (by kernel_rfl) (fun _ _ _ h => h) (Or.inl ⟨by rfl, ?_⟩) hH ?_
        rotate_left
        · (intro v hS; obtain ⟨⟨s0, s1, s2⟩, t0, t1, t2⟩ := hS; go_simp; try with_reducible rfl)
        simp only [Act.put, List.setIfInBounds_toArray, List.set_cons_zero, List.set_cons_succ, List.getElem_toArray, List.getElem_cons_succ, List.getElem_cons_zero]
        refine wpAnyH_take (i := 6) (v := ?_) rfl (by kernel_rfl) (by kernel_rfl) (by kernel_rfl) (fun _ _ _ h => h) (Or.inl ⟨by rfl, ?_⟩) hH ?_
        rotate_left
        · (intro v hS; obtain ⟨⟨s0, s1, s2⟩, t0, t1, t2⟩ := hS; go_simp; try with_reducible rfl)
        simp only [Act.put, List.setIfInBounds_toArray, List.set_cons_zero, List.set_cons_succ, List.getElem_toArray, List.getElem_cons_succ, List.getElem_cons_zero]
        refine wpAnyH_take (i := 7) (v := ?_) rfl (by kernel_rfl) (by kernel_rfl) (by kernel_rfl) (fun _ _ _ h => h) (Or.inl ⟨by rfl, ?_⟩) hH ?_
        rotate_left
        · (intro v hS; obtain ⟨⟨s0, s1, s2⟩, t0, t1, t2⟩ := hS; go_simp; try with_reducible rfl)
        simp only [Act.put, List.setIfInBounds_toArray, List.set_cons_zero, List.set_cons_succ, List.getElem_toArray, List.getElem_cons_succ, List.getElem_cons_zero]
        refine wpAnyH_ready (rs := [8]) (by kernel_rfl) (by simp) ?_
        refine AllReadyH.cons rfl (fun K hK => ?_) AllReadyH.nil
        go_simp
        refine Calls.mono CC.out ?_
        rintro e u2 ⟨rfl, hgu⟩
        refine hK.out _ _ ⟨TT.out.1.none hgu, TT.out.2.none hgu⟩ (fun hH2 => ?_)
        clear hK K hH
        have hH := hH2
        clear hH2
        have FY : Hid (InF u2 R1 b (o + (j + 1) * 3) ∧ InF u2 R1 b' (o' + (j + 1) * 3) ∧ w.grownBy u2 none) := ⟨FX.out.1.none hgu, FX.out.2.1.none hgu, grown_trans FX.out.2.2 hgu⟩
        clear FX hgu CC
        simp only [Act.put, List.setIfInBounds_toArray, List.set_cons_zero, List.set_cons_succ, List.getElem_toArray, List.getElem_cons_succ, List.getElem_cons_zero]
        refine wpAnyH_take (i := 9) (v := ?_) rfl (by kernel_rfl) (by kernel_rfl) (by kernel_rfl) (fun _ _ _ h => h) (Or.inl ⟨by rfl, ?_⟩) hH ?_
        rotate_left
        · (intro v hS; go_simp; try with_reducible rfl)
        simp only [Act.put, List.setIfInBounds_toArray, List.set_cons_zero, List.set_cons_succ, List.getElem_toArray, List.getElem_cons_succ, List.getElem_cons_zero]
        refine wpAnyH_done (by kernel_rfl) ?_ _
        go_wp2
        go_roundw
        case rel => exact ⟨j + 1, R1, by omega, by go_num, FY.out.2.2, FY.out.1, FY.out.2.1, hRs', by omega⟩
        case measure => simp [intOf]; omega
      · obtain rfl : j = l := by omega
        go_wp2
        go_ret
        exact ⟨rfl, hg⟩
end Go.Proofs.Ytbeejgacdcncgaa.By
