/-
  Contracts of the law's own helpers for binds (how large, a copy, the same). No statement is proved here.
-/
import Derived.Test.YtmlganaiajhjeaaUB
import Derived.Test.YtmlganaiajhjeaaTLaw
import Derived.Deep.RegionHeld
namespace Go.Proofs.Ytmlganaiajhjeaa.By
open Go.RowKit
set_option linter.unusedVariables false
set_option linter.unusedSimpArgs false

def szVB (f : B) (L : Int) : Int := if (f.size : Int) ≤ L then L - f.size else -1
def szRB (R : B) (L : Int) : Int := if (R.size : Int) - R.len ≤ L then L - (R.size - R.len) else -1
theorem szRB_nil {L : Int} (h : 0 ≤ L) : szRB .nil L = L := by
  have : szRB .nil L = if (0 : Int) ≤ L then L - 0 else -1 := rfl
  rw [this, if_pos h, Int.sub_zero]
theorem szRB_all {f : B} {L : Int} {l : Nat} (h : f.len = l) : szVB f L = szRB f (L - l) := by
  unfold szVB szRB
  by_cases hs : (f.size : Int) ≤ L
  · rw [if_pos hs, if_pos (by omega)]; omega
  · rw [if_neg hs, if_neg (by omega)]
theorem szRB_cons {v k n : Int} {d : F} {r : B} {L : Int} (h : (d.size : Int) ≤ L) : szRB (.cons v k n d r) L = szRB r (L - d.size) := by
  unfold szRB
  have e1 : ((B.cons v k n d r).size : Int) = 1 + d.size + r.size := by simp [B.size]
  have e2 : ((B.cons v k n d r).len : Int) = r.len + 1 := by simp [B.len]
  rw [e1, e2]
  by_cases hq : (r.size : Int) - r.len ≤ L - d.size
  · rw [if_pos (by omega), if_pos hq]; omega
  · rw [if_neg (by omega), if_neg hq]
theorem szRB_less {v k n : Int} {d : F} {r : B} {L : Int} (h : ¬ (d.size : Int) ≤ L) : szRB (.cons v k n d r) L = -1 := by
  have := r.len_le
  unfold szRB
  have e1 : ((B.cons v k n d r).size : Int) = 1 + d.size + r.size := by simp [B.size]
  have e2 : ((B.cons v k n d r).len : Int) = r.len + 1 := by simp [B.len]
  rw [e1, e2, if_neg (by omega)]

set_option maxHeartbeats 1000000 in
theorem szBd (d : F) (v k n : Int) (a : Option Addr) (l c : Nat) (L : Int) (w : World) (h : SlF w a l d) (h0 : 0 ≤ L) (h1 : L ≤ 1048576) :
    Calls Try.prog 59 #[.agg #[.int .i64 v, .int .i64 k, .int .i64 n, .slice a l c], .int .i64 L] w fun e u => e = .returned (.int .i64 (szV d L)) ∧ w.grownBy u none := by
  have g0 := World.grownBy_alloc w (.cells #[.int .i64 v, .int .i64 k, .int .i64 n, .slice a l c] 86) none
  have H0 : Hid _ := szTr d k n a l c L _ (h.none g0) h0 h1
  have G0 : Hid (w.grownBy _ none) := g0
  clear g0 h
  go_enter Try.func59, Try.ntmps59
  go_wp2_with fail
  refine Calls.mono H0.out ?_
  rintro e u ⟨rfl, hg⟩
  have G1 : Hid (w.grownBy u none) := grown_trans G0.out hg
  clear hg G0 H0
  simp only []
  by_cases hs : (d.size : Int) ≤ L
  · have e1 : szV d L = L - d.size := if_pos hs
    have E : Hid (szV d L = L - d.size) := e1
    rw [e1]
    clear e1
    go_wp2
    go_ret
    exact ⟨by rw [E.out]; rfl, G1.out⟩
  · have e1 : szV d L = -1 := if_neg hs
    have E : Hid (szV d L = -1) := e1
    rw [e1]
    clear e1
    go_wp2
    go_ret
    exact ⟨by rw [E.out]; rfl, G1.out⟩

set_option maxHeartbeats 2000000 in
theorem szBs (f : B) (a : Option Addr) (l c : Nat) (L : Int) (w : World) (h : SlB w a l f) (h0 : 0 ≤ L) (h1 : L ≤ 1048576) :
    Calls Try.prog 31 #[.slice a l c, .int .i64 L] w fun e u => e = .returned (.int .i64 (szVB f L)) ∧ w.grownBy u none := by
  have hlen := f.len_le
  have hl := h.2.1
  have hfl := h.1
  by_cases hneg : L - (l : Int) < 0
  · have ev : szVB f L = -1 := if_neg (by omega)
    rw [ev]
    go_enter Try.func31, Try.ntmps31
    go_wp2
    go_ret
    exact ⟨rfl, World.grownBy.refl _ _⟩
  rcases h.cases with ⟨rfl, rfl⟩ | ⟨b, o, rfl, hin, -, hpos⟩
  · go_enter Try.func31, Try.ntmps31
    go_wp2
    refine wp_loop_rounds 1 ?_
    rw [rounds_succ]
    go_wp2
    go_ret
    exact ⟨by simp [szVB, B.size, h0], World.grownBy.refl _ _⟩
  have IN : Hid (InB w f b o) := hin
  clear hin h
  go_enter Try.func31, Try.ntmps31
  go_wp2
  go_loopw [1, 5] (fun v i wr => ∃ (j : Nat) (R : B) (Lj : Int), j ≤ l ∧ i = .int .i64 j ∧ v = .int .i64 Lj ∧ 0 ≤ Lj ∧ Lj ≤ 1048576 ∧ w.grownBy wr none ∧ InB wr R b (o + j * 4) ∧ R.len + j = l ∧ R.size ≤ f.size ∧ szVB f L = szRB R Lj) (fun _ i _ => l - (intOf i).toNat)
  case atStart =>
    refine ⟨0, f, _, Nat.zero_le _, rfl, rfl, by omega, by omega, World.grownBy.refl _ _, by simpa using IN.out, by omega, Nat.le_refl _, szRB_all hfl⟩
  case round =>
    obtain ⟨j, R, Lj, hj, rfl, rfl, hj0, hj1, hg, hR, hRl, hRs, hv⟩ := hrel
    by_cases hlt : j < l
    · obtain ⟨q, hq⟩ : ∃ q, R.len = q + 1 := ⟨R.len - 1, by omega⟩
      obtain ⟨vv, kk, nn, d, R', rfl, hR'⟩ := B.cons_of_len hq
      obtain ⟨⟨a', l', c', ⟨c0, c1, c2, c3⟩, hd⟩, hR2⟩ := hR
      have e3 : o + j * 4 + 4 = o + (j + 1) * 4 := by omega
      rw [e3] at hR2
      have lens := R'.len_le
      have CC : Hid _ := szBd d vv kk nn a' l' c' Lj wr hd hj0 hj1
      have HV : Hid (szVB f L = _) := hv
      have FX : Hid (InB wr R' b (o + (j + 1) * 4) ∧ w.grownBy wr none) := ⟨hR2, hg⟩
      clear hd hR2 hg hv IN
      go_wp2_with fail
      refine Calls.mono CC.out ?_
      rintro e u ⟨rfl, hgu⟩
      obtain ⟨hR2, hg⟩ := FX.out
      have FY : Hid (InB u R' b (o + (j + 1) * 4) ∧ w.grownBy u none) := ⟨hR2.none hgu, grown_trans hg hgu⟩
      clear hR2 hg hgu CC c0 c1 c2 c3 FX
      simp only []
      by_cases hs : (d.size : Int) ≤ Lj
      · have e1 : szV d Lj = Lj - d.size := if_pos hs
        rw [e1]
        clear e1
        go_wp2
        go_roundw
        case rel =>
          refine ⟨j + 1, R', _, by omega, by go_num, rfl, by omega, by omega, FY.out.2, FY.out.1, by omega, by simp only [B.size] at hRs; omega, HV.out.trans (szRB_cons hs)⟩
        case measure => simp [intOf]; omega
      · have e1 : szV d Lj = -1 := if_neg hs
        rw [e1]
        have E : Hid (szVB f L = -1) := HV.out.trans (szRB_less hs)
        clear e1
        go_wp2
        go_ret
        exact ⟨by rw [E.out]; rfl, FY.out.2⟩
    · obtain rfl : j = l := by omega
      obtain rfl : R = .nil := B.nil_of_len (by omega)
      have E : Hid (szVB f L = Lj) := hv.trans (szRB_nil hj0)
      clear hv
      go_wp2
      go_ret
      exact ⟨by rw [E.out]; rfl, hg⟩

set_option maxHeartbeats 1000000 in
theorem eqBd (d : F) (v k n : Int) (a a' : Option Addr) (l c c' : Nat) (w : World) (h : SlF w a l d) (h' : SlF w a' l d) :
    Calls Try.prog 65 #[.agg #[.int .i64 v, .int .i64 k, .int .i64 n, .slice a l c], .agg #[.int .i64 v, .int .i64 k, .int .i64 n, .slice a' l c']] w fun e u => e = .returned (.bool true) ∧ w.grownBy u none := by
  have g0 := grown_alloc (grown_alloc (World.grownBy.refl w none) (.cells #[.int .i64 v, .int .i64 k, .int .i64 n, .slice a l c] 44)) (.cells #[.int .i64 v, .int .i64 k, .int .i64 n, .slice a' l c'] 44)
  have CC : Hid _ := eqTr d k n a a' l c c' _ (h.none g0) (h'.none g0)
  have G0 : Hid (w.grownBy _ none) := g0
  clear g0 h h'
  go_enter Try.func65, Try.ntmps65
  go_wp2_with fail
  refine Calls.mono CC.out ?_
  rintro e u ⟨rfl, hg⟩
  have G : Hid (w.grownBy u none) := grown_trans G0.out hg
  clear G0 hg CC
  simp only []
  go_wp2
  go_ret
  exact ⟨rfl, G.out⟩

set_option maxHeartbeats 2000000 in
theorem eqBs (f : B) (a a' : Option Addr) (l c c' : Nat) (w : World) (h : SlB w a l f) (h' : SlB w a' l f) :
    Calls Try.prog 34 #[.slice a l c, .slice a' l c'] w fun e u => e = .returned (.bool true) ∧ w.grownBy u none := by
  have hl := h.2.1
  have hfl := h.1
  rcases h.cases with ⟨rfl, rfl⟩ | ⟨b, o, rfl, hin, -, hpos⟩
  · go_enter Try.func34, Try.ntmps34
    go_wp2
    refine wp_loop_rounds 1 ?_
    rw [rounds_succ]
    go_wp2
    go_ret
    exact ⟨rfl, World.grownBy.refl _ _⟩
  rcases h'.cases with ⟨rfl, rfl⟩ | ⟨b', o', rfl, hin', -, -⟩
  · exact absurd hpos (by omega)
  have IN : Hid (InB w f b o ∧ InB w f b' o') := ⟨hin, hin'⟩
  clear hin hin' h h'
  go_enter Try.func34, Try.ntmps34
  go_wp2
  go_loopw [5] (fun i wr => ∃ (j : Nat) (R : B), j ≤ l ∧ i = .int .i64 j ∧ w.grownBy wr none ∧ InB wr R b (o + j * 4) ∧ InB wr R b' (o' + j * 4) ∧ R.size ≤ f.size ∧ R.len + j = l) (fun i _ => l - (intOf i).toNat)
  case atStart => exact ⟨0, f, Nat.zero_le _, rfl, World.grownBy.refl _ _, by simpa using IN.out.1, by simpa using IN.out.2, Nat.le_refl _, by omega⟩
  case round =>
    obtain ⟨j, R, hj, rfl, hg, hR, hR', hRs, hRl⟩ := hrel
    by_cases hlt : j < l
    · obtain ⟨q, hq⟩ : ∃ q, R.len = q + 1 := ⟨R.len - 1, by omega⟩
      obtain ⟨vv, kk, nn, d, R1, rfl, hR1⟩ := B.cons_of_len hq
      obtain ⟨⟨a1, l1, x1, ⟨c0, c1, c2, c3⟩, hd⟩, hR2⟩ := hR
      obtain ⟨⟨a2, l2, x2, ⟨d0, d1, d2, d3⟩, hd'⟩, hR2'⟩ := hR'
      obtain rfl : l1 = l2 := hd.1.symm.trans hd'.1
      have e3 : o + j * 4 + 4 = o + (j + 1) * 4 := by omega
      have e3' : o' + j * 4 + 4 = o' + (j + 1) * 4 := by omega
      rw [e3] at hR2
      rw [e3'] at hR2'
      have gd := grown_drew (World.grownBy.refl wr none)
      have CC : Hid _ := eqBd d vv kk nn a1 a2 l1 x1 x2 wr.drew (hd.none gd) (hd'.none gd)
      have TT : Hid (Qua b (o + j * 4) (.int .i64 vv) (.int .i64 kk) (.int .i64 nn) (.slice a1 l1 x1) wr.drew ∧ Qua b' (o' + j * 4) (.int .i64 vv) (.int .i64 kk) (.int .i64 nn) (.slice a2 l1 x2) wr.drew) := ⟨Qua.none ⟨c0, c1, c2, c3⟩ gd, Qua.none ⟨d0, d1, d2, d3⟩ gd⟩
      have FX : Hid (InB wr.drew R1 b (o + (j + 1) * 4) ∧ InB wr.drew R1 b' (o' + (j + 1) * 4) ∧ w.grownBy wr.drew none) := ⟨hR2.none gd, hR2'.none gd, grown_trans hg gd⟩
      have hRs' : R1.size ≤ f.size := by simp only [B.size] at hRs; omega
      clear hd hd' hR2 hR2' hg IN c0 c1 c2 c3 d0 d1 d2 d3 gd hRs
      go_wp2_with fail
      refine wp_region_held_drew (S := (fun u => Qua b (o + j * 4) (.int .i64 vv) (.int .i64 kk) (.int .i64 nn) (.slice a1 l1 x1) u ∧ Qua b' (o' + j * 4) (.int .i64 vv) (.int .i64 kk) (.int .i64 nn) (.slice a2 l1 x2) u)) (by kernel_rfl) TT.out (fun hH => ?_)
      generalize wr.drew = u at *
      clear wr
      simp only [List.size_toArray, List.length_cons, List.length_nil, Nat.reduceAdd, Array.replicate, List.replicate]
      refine wpAnyH_take (i := 0) (v := ?_) rfl (by kernel_rfl) (by kernel_rfl) (by kernel_rfl) (fun _ _ _ h => h) (Or.inl ⟨by rfl, ?_⟩) hH ?_
      rotate_left
      · (intro v hS; obtain ⟨⟨s0, s1, s2, s3⟩, t0, t1, t2, t3⟩ := hS; go_simp; try with_reducible rfl)
      simp only [Act.put, List.setIfInBounds_toArray, List.set_cons_zero, List.set_cons_succ, List.getElem_toArray, List.getElem_cons_succ, List.getElem_cons_zero]
      refine wpAnyH_take (i := 1) (v := ?_) rfl (by kernel_rfl) (by kernel_rfl) (by kernel_rfl) (fun _ _ _ h => h) (Or.inl ⟨by rfl, ?_⟩) hH ?_
      rotate_left
      · (intro v hS; obtain ⟨⟨s0, s1, s2, s3⟩, t0, t1, t2, t3⟩ := hS; go_simp; try with_reducible rfl)
      simp only [Act.put, List.setIfInBounds_toArray, List.set_cons_zero, List.set_cons_succ, List.getElem_toArray, List.getElem_cons_succ, List.getElem_cons_zero]
      refine wpAnyH_take (i := 2) (v := ?_) rfl (by kernel_rfl) (by kernel_rfl) (by kernel_rfl) (fun _ _ _ h => h) (Or.inl ⟨by rfl, ?_⟩) hH ?_
      rotate_left
      · (intro v hS; obtain ⟨⟨s0, s1, s2, s3⟩, t0, t1, t2, t3⟩ := hS; go_simp; try with_reducible rfl)
      simp only [Act.put, List.setIfInBounds_toArray, List.set_cons_zero, List.set_cons_succ, List.getElem_toArray, List.getElem_cons_succ, List.getElem_cons_zero]
      refine wpAnyH_take (i := 3) (v := ?_) rfl (by kernel_rfl) (by kernel_rfl) (by kernel_rfl) (fun _ _ _ h => h) (Or.inl ⟨by rfl, ?_⟩) hH ?_
      rotate_left
      · (intro v hS; obtain ⟨⟨s0, s1, s2, s3⟩, t0, t1, t2, t3⟩ := hS; go_simp; try with_reducible rfl)
      simp only [Act.put, List.setIfInBounds_toArray, List.set_cons_zero, List.set_cons_succ, List.getElem_toArray, List.getElem_cons_succ, List.getElem_cons_zero]
      refine wpAnyH_take (i := 4) (v := ?_) rfl (by kernel_rfl) (by kernel_rfl) (by kernel_rfl) (fun _ _ _ h => h) (Or.inl ⟨by rfl, ?_⟩) hH ?_
      rotate_left
      · (intro v hS; obtain ⟨⟨s0, s1, s2, s3⟩, t0, t1, t2, t3⟩ := hS; go_simp; try with_reducible rfl)
      simp only [Act.put, List.setIfInBounds_toArray, List.set_cons_zero, List.set_cons_succ, List.getElem_toArray, List.getElem_cons_succ, List.getElem_cons_zero]
      refine wpAnyH_take (i := 5) (v := ?_) rfl (by kernel_rfl) (by kernel_rfl) (by kernel_rfl) (fun _ _ _ h => h) (Or.inl ⟨by rfl, ?_⟩) hH ?_
      rotate_left
      · (intro v hS; obtain ⟨⟨s0, s1, s2, s3⟩, t0, t1, t2, t3⟩ := hS; go_simp; try with_reducible rfl)
      simp only [Act.put, List.setIfInBounds_toArray, List.set_cons_zero, List.set_cons_succ, List.getElem_toArray, List.getElem_cons_succ, List.getElem_cons_zero]
      refine wpAnyH_take (i := 6) (v := ?_) rfl (by kernel_rfl) (by kernel_rfl) (by kernel_rfl) (fun _ _ _ h => h) (Or.inl ⟨by rfl, ?_⟩) hH ?_
      rotate_left
      · (intro v hS; obtain ⟨⟨s0, s1, s2, s3⟩, t0, t1, t2, t3⟩ := hS; go_simp; try with_reducible rfl)
      simp only [Act.put, List.setIfInBounds_toArray, List.set_cons_zero, List.set_cons_succ, List.getElem_toArray, List.getElem_cons_succ, List.getElem_cons_zero]
      refine wpAnyH_take (i := 7) (v := ?_) rfl (by kernel_rfl) (by kernel_rfl) (by kernel_rfl) (fun _ _ _ h => h) (Or.inl ⟨by rfl, ?_⟩) hH ?_
      rotate_left
      · (intro v hS; obtain ⟨⟨s0, s1, s2, s3⟩, t0, t1, t2, t3⟩ := hS; go_simp; try with_reducible rfl)
      simp only [Act.put, List.setIfInBounds_toArray, List.set_cons_zero, List.set_cons_succ, List.getElem_toArray, List.getElem_cons_succ, List.getElem_cons_zero]
      refine wpAnyH_ready (rs := [8]) (by kernel_rfl) (by simp) ?_
      refine AllReadyH.cons rfl (fun K hK => ?_) AllReadyH.nil
      go_simp
      refine Calls.mono CC.out ?_
      rintro e u2 ⟨rfl, hgu⟩
      refine hK.out _ _ ⟨TT.out.1.none hgu, TT.out.2.none hgu⟩ (fun hH2 => ?_)
      clear hK K hH
      have hH := hH2
      clear hH2
      have FY : Hid (InB u2 R1 b (o + (j + 1) * 4) ∧ InB u2 R1 b' (o' + (j + 1) * 4) ∧ w.grownBy u2 none) := ⟨FX.out.1.none hgu, FX.out.2.1.none hgu, grown_trans FX.out.2.2 hgu⟩
      clear FX hgu CC
      simp only [Act.put, List.setIfInBounds_toArray, List.set_cons_zero, List.set_cons_succ, List.getElem_toArray, List.getElem_cons_succ, List.getElem_cons_zero]
      refine wpAnyH_take (i := 9) (v := ?_) rfl (by kernel_rfl) (by kernel_rfl) (by kernel_rfl) (fun _ _ _ h => h) (Or.inl ⟨by rfl, ?_⟩) hH ?_
      rotate_left
      · (intro v hS; go_simp; try with_reducible rfl)
      simp only [Act.put, List.setIfInBounds_toArray, List.set_cons_zero, List.set_cons_succ, List.getElem_toArray, List.getElem_cons_succ, List.getElem_cons_zero]
      refine wpAnyH_done (by kernel_rfl) ?_ _
      go_wp2
      go_roundw
      case rel => exact ⟨j + 1, R1, by omega, by go_num, FY.out.2.2, FY.out.1, FY.out.2.1, hRs', by omega⟩
      case measure => simp [intOf]; omega
    · obtain rfl : j = l := by omega
      go_wp2
      go_ret
      exact ⟨rfl, hg⟩
end Go.Proofs.Ytmlganaiajhjeaa.By
