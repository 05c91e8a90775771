/-
  laws.sameTy and laws.has by their contracts; what stands for variables, and the variables of it. No statement is proved here.
-/
import Derived.Test.YtmlganaiajhjeaaTEq
import Derived.Test.YtmlganaiajhjeaaTOk
import Derived.Test.YtmlganaiajhjeaaTVl
import Derived.Test.YtmlganaiajhjeaaTSub
namespace Go.Proofs.Ytmlganaiajhjeaa.By
open Go.RowKit
set_option linter.unusedVariables false
set_option linter.unusedSimpArgs false

/-- Whether two lists of trees are the same. -/
def eqB : F → F → Bool
  | .nil, .nil => true
  | .nil, .cons _ _ _ _ => false
  | .cons _ _ _ _, .nil => false
  | .cons k n d r, .cons k' n' d' r' => (decide (k = k') && (decide (n = n') && eqB d d')) && eqB r r'
def eqV (k n : Int) (d : F) (k' n' : Int) (d' : F) : Bool := decide (k = k') && (decide (n = n') && eqB d d')
theorem eqB_cons (k n : Int) (d r : F) (k' n' : Int) (d' r' : F) : eqB (.cons k n d r) (.cons k' n' d' r') = (eqV k n d k' n' d' && eqB r r') := rfl
theorem eqB_len {f : F} : ∀ {g : F}, eqB f g = true → f.len = g.len := by
  induction f with
  | nil => intro g h; cases g with
    | nil => rfl
    | cons => simp [eqB] at h
  | cons k n d r _ ih => intro g h; cases g with
    | nil => simp [eqB] at h
    | cons k' n' d' r' => simp only [eqB, Bool.and_eq_true] at h; simp only [F.len, ih h.2]
theorem eqB_iff {f : F} : ∀ {g : F}, eqB f g = true ↔ f = g := by
  induction f with
  | nil => intro g; cases g <;> simp [eqB]
  | cons k n d r ihd ihr => intro g; cases g with
    | nil => simp [eqB]
    | cons k' n' d' r' => simp only [eqB, Bool.and_eq_true, decide_eq_true_eq, ihd, ihr, F.cons.injEq]; constructor <;> (intro h; simp_all)
theorem eqV_len {k n k' n' : Int} {d d' : F} (h : d.len ≠ d'.len) : eqV k n d k' n' d' = false := by
  cases hb : eqB d d' with
  | true => exact absurd (eqB_len hb) h
  | false => simp [eqV, hb]

set_option maxHeartbeats 2000000 in
theorem sameTyT (m : Nat) : ∀ (d d' : F) (k n k' n' : Int) (a a' : Option Addr) (l c l' c' : Nat) (w : World), d.size < m → SlF w a l d → SlF w a' l' d' →
    Calls Try.prog 11 #[.agg #[.int .i64 k, .int .i64 n, .slice a l c], .agg #[.int .i64 k', .int .i64 n', .slice a' l' c']] w fun e u => e = .returned (.bool (eqV k n d k' n' d')) ∧ w.grownBy u none := by
  induction m with
  | zero => intro d d' k n k' n' a a' l c l' c' w hm; exact absurd hm (Nat.not_lt_zero _)
  | succ m ih =>
    intro d d' k n k' n' a a' l c l' c' w hm h h'
    have hfl := h.1
    have hfl' := h'.1
    have hl := h.2.1
    have g0 := grown_alloc (grown_alloc (World.grownBy.refl w none) (.cells #[.int .i64 k, .int .i64 n, .slice a l c] 25)) (.cells #[.int .i64 k', .int .i64 n', .slice a' l' c'] 25)
    by_cases hk : k = k'
    rotate_left
    · have E : Hid (eqV k n d k' n' d' = false) := by show _ = _; simp [eqV, hk]
      have G0 : Hid _ := g0
      clear ih g0
      go_enter Try.func11, Try.ntmps11
      go_wp2
      go_ret
      exact ⟨by rw [E.out]; rfl, G0.out⟩
    subst hk
    by_cases hn : n = n'
    rotate_left
    · have E : Hid (eqV k n d k n' d' = false) := by show _ = _; simp [eqV, hn]
      have G0 : Hid _ := g0
      clear ih g0
      go_enter Try.func11, Try.ntmps11
      go_wp2
      go_ret
      exact ⟨by rw [E.out]; rfl, G0.out⟩
    subst hn
    by_cases hll : l = l'
    rotate_left
    · have E : Hid (eqV k n d k n d' = false) := eqV_len (by omega)
      have hll' : ¬ (l : Int) = l' := by omega
      have G0 : Hid _ := g0
      clear ih g0
      go_enter Try.func11, Try.ntmps11
      go_wp2
      go_ret
      exact ⟨by rw [E.out]; rfl, G0.out⟩
    subst hll
    have E : Hid (eqV k n d k n d' = eqB d d') := by show _ = _; simp [eqV]
    have b1 := (alloc2_blocks w (.cells #[.int .i64 k, .int .i64 n, .slice a l c] 25) (.cells #[.int .i64 k, .int .i64 n, .slice a' l c'] 25))
    rcases h.cases with ⟨rfl, rfl⟩ | ⟨b, o, rfl, hin, -, hpos⟩
    · obtain rfl : d' = .nil := F.nil_of_len hfl'
      have G0 : Hid _ := g0
      clear ih g0 b1
      go_enter Try.func11, Try.ntmps11
      go_wp2
      refine wp_loop_rounds 1 ?_
      rw [rounds_succ]
      go_wp2
      go_ret
      exact ⟨by rw [E.out]; rfl, G0.out⟩
    rcases h'.cases with ⟨rfl, rfl⟩ | ⟨b', o', rfl, hin', -, -⟩
    · exact absurd hpos (by omega)
    obtain ⟨b1, b2, -⟩ := b1
    have IH : Hid _ := ih
    have IN : Hid (InF _ d b o ∧ InF _ d' b' o') := ⟨hin.none g0, hin'.none g0⟩
    have G0 : Hid (w.grownBy _ none) := g0
    have B0 : Hid (_ = some _ ∧ _ = some _) := ⟨(three b1).1.2.2, (three b2).1.2.2⟩
    clear ih hin hin' h h' g0 b1 b2
    go_enter Try.func11, Try.ntmps11
    go_wp2
    generalize ((w.alloc (.cells #[.int .i64 k, .int .i64 n, .slice (some ⟨b, o, none⟩) l c] 25)).alloc (.cells #[.int .i64 k, .int .i64 n, .slice (some ⟨b', o', none⟩) l c'] 25)) = W0 at *
    go_loopw [5] (fun i wr => ∃ (j : Nat) (R R' : F), j ≤ l ∧ i = .int .i64 j ∧ W0.grownBy wr none ∧ InF wr R b (o + j * 3) ∧ InF wr R' b' (o' + j * 3) ∧ R.size ≤ d.size ∧ R.len + j = l ∧ R'.len + j = l ∧ Hid (eqB d d' = eqB R R')) (fun i _ => l - (intOf i).toNat)
    case atStart => exact ⟨0, d, d', Nat.zero_le _, rfl, World.grownBy.refl _ _, by simpa using IN.out.1, by simpa using IN.out.2, Nat.le_refl _, by omega, by omega, rfl⟩
    case round =>
      obtain ⟨j, R, R', hj, rfl, hg, hR, hR', hRs, hRl, hRl', hv⟩ := hrel
      have x2 := hg.cell B0.out.1 (by simp)
      have y2 := hg.cell B0.out.2 (by simp)
      by_cases hlt : j < l
      · obtain ⟨q, hq⟩ : ∃ q, R.len = q + 1 := ⟨R.len - 1, by omega⟩
        obtain ⟨k1, n1, d1, R1, rfl, hR1⟩ := F.cons_of_len hq
        obtain ⟨q', hq'⟩ : ∃ q, R'.len = q + 1 := ⟨R'.len - 1, by omega⟩
        obtain ⟨k2, n2, d2, R2, rfl, hR2⟩ := F.cons_of_len hq'
        obtain ⟨a1, l1, x1, c0, c1, c2, hd, hT⟩ := hR.out
        obtain ⟨a2, l2, x3, d0, dd1, dd2, hd', hT'⟩ := hR'.out
        have e3 : o + j * 3 + 3 = o + (j + 1) * 3 := by omega
        have e3' : o' + j * 3 + 3 = o' + (j + 1) * 3 := by omega
        rw [e3] at hT
        rw [e3'] at hT'
        have hds : d1.size < m := by simp only [F.size] at hRs hm; omega
        have gd := grown_drew (World.grownBy.refl wr none)
        have CC : Hid _ := IH.out d1 d2 k1 n1 k2 n2 a1 a2 l1 x1 l2 x3 wr.drew hds (hd.none gd) (hd'.none gd)
        have TT : Hid (Tri b (o + j * 3) (.int .i64 k1) (.int .i64 n1) (.slice a1 l1 x1) wr.drew ∧ Tri b' (o' + j * 3) (.int .i64 k2) (.int .i64 n2) (.slice a2 l2 x3) wr.drew ∧ wr.drew.cell? ⟨w.heap.size, 2, none⟩ = some (.slice (some ⟨b, o, none⟩) l c) ∧ wr.drew.cell? ⟨w.heap.size + 1, 2, none⟩ = some (.slice (some ⟨b', o', none⟩) l c')) := ⟨Tri.none ⟨c0, c1, c2⟩ gd, Tri.none ⟨d0, dd1, dd2⟩ gd, gd.cell x2 (by simp), gd.cell y2 (by simp)⟩
        have FX : Hid (InF wr.drew R1 b (o + (j + 1) * 3) ∧ InF wr.drew R2 b' (o' + (j + 1) * 3) ∧ W0.grownBy wr.drew none) := ⟨hT.none gd, hT'.none gd, grown_trans hg gd⟩
        have hRs' : R1.size ≤ d.size := by simp only [F.size] at hRs; omega
        clear hd hd' hR hR' hT hT' hg IN IH c0 c1 c2 d0 dd1 dd2 gd hRs
        go_wp2_with fail
        clear x2 y2
        refine wp_region_held_drew (S := (fun u => Tri b (o + j * 3) (.int .i64 k1) (.int .i64 n1) (.slice a1 l1 x1) u ∧ Tri b' (o' + j * 3) (.int .i64 k2) (.int .i64 n2) (.slice a2 l2 x3) u ∧ u.cell? ⟨w.heap.size, 2, none⟩ = some (.slice (some ⟨b, o, none⟩) l c) ∧ u.cell? ⟨w.heap.size + 1, 2, none⟩ = some (.slice (some ⟨b', o', none⟩) l c'))) (by kernel_rfl) TT.out (fun hH => ?_)
        generalize wr.drew = u at *
        clear wr
        simp only [List.size_toArray, List.length_cons, List.length_nil, Nat.reduceAdd, Array.replicate, List.replicate]
        refine wpAnyH_take (i := 0) (v := ?_) rfl (by kernel_rfl) (by kernel_rfl) (by kernel_rfl) (fun _ _ _ h => h) (Or.inl ⟨by rfl, ?_⟩) hH ?_
        rotate_left
        · (intro v hS; obtain ⟨⟨s0, s1, s2⟩, ⟨t0, t1, t2⟩, x2, y2⟩ := hS; go_simp; try with_reducible rfl)
        simp only [Act.put, List.setIfInBounds_toArray, List.set_cons_zero, List.set_cons_succ, List.getElem_toArray, List.getElem_cons_succ, List.getElem_cons_zero]
        refine wpAnyH_take (i := 1) (v := ?_) rfl (by kernel_rfl) (by kernel_rfl) (by kernel_rfl) (fun _ _ _ h => h) (Or.inl ⟨by rfl, ?_⟩) hH ?_
        rotate_left
        · (intro v hS; obtain ⟨⟨s0, s1, s2⟩, ⟨t0, t1, t2⟩, x2, y2⟩ := hS; go_simp; try with_reducible rfl)
        simp only [Act.put, List.setIfInBounds_toArray, List.set_cons_zero, List.set_cons_succ, List.getElem_toArray, List.getElem_cons_succ, List.getElem_cons_zero]
        refine wpAnyH_take (i := 2) (v := ?_) rfl (by kernel_rfl) (by kernel_rfl) (by kernel_rfl) (fun _ _ _ h => h) (Or.inl ⟨by rfl, ?_⟩) hH ?_
        rotate_left
        · (intro v hS; obtain ⟨⟨s0, s1, s2⟩, ⟨t0, t1, t2⟩, x2, y2⟩ := hS; go_simp; try with_reducible rfl)
        simp only [Act.put, List.setIfInBounds_toArray, List.set_cons_zero, List.set_cons_succ, List.getElem_toArray, List.getElem_cons_succ, List.getElem_cons_zero]
        refine wpAnyH_take (i := 3) (v := ?_) rfl (by kernel_rfl) (by kernel_rfl) (by kernel_rfl) (fun _ _ _ h => h) (Or.inl ⟨by rfl, ?_⟩) hH ?_
        rotate_left
        · (intro v hS; obtain ⟨⟨s0, s1, s2⟩, ⟨t0, t1, t2⟩, x2, y2⟩ := hS; go_simp; try with_reducible rfl)
        simp only [Act.put, List.setIfInBounds_toArray, List.set_cons_zero, List.set_cons_succ, List.getElem_toArray, List.getElem_cons_succ, List.getElem_cons_zero]
        refine wpAnyH_take (i := 4) (v := ?_) rfl (by kernel_rfl) (by kernel_rfl) (by kernel_rfl) (fun _ _ _ h => h) (Or.inl ⟨by rfl, ?_⟩) hH ?_
        rotate_left
        · (intro v hS; obtain ⟨⟨s0, s1, s2⟩, ⟨t0, t1, t2⟩, x2, y2⟩ := hS; go_simp; try with_reducible rfl)
        simp only [Act.put, List.setIfInBounds_toArray, List.set_cons_zero, List.set_cons_succ, List.getElem_toArray, List.getElem_cons_succ, List.getElem_cons_zero]
        refine wpAnyH_take (i := 5) (v := ?_) rfl (by kernel_rfl) (by kernel_rfl) (by kernel_rfl) (fun _ _ _ h => h) (Or.inl ⟨by rfl, ?_⟩) hH ?_
        rotate_left
        · (intro v hS; obtain ⟨⟨s0, s1, s2⟩, ⟨t0, t1, t2⟩, x2, y2⟩ := hS; go_simp; try with_reducible rfl)
        simp only [Act.put, List.setIfInBounds_toArray, List.set_cons_zero, List.set_cons_succ, List.getElem_toArray, List.getElem_cons_succ, List.getElem_cons_zero]
        refine wpAnyH_take (i := 6) (v := ?_) rfl (by kernel_rfl) (by kernel_rfl) (by kernel_rfl) (fun _ _ _ h => h) (Or.inl ⟨by rfl, ?_⟩) hH ?_
        rotate_left
        · (intro v hS; obtain ⟨⟨s0, s1, s2⟩, ⟨t0, t1, t2⟩, x2, y2⟩ := hS; go_simp; try with_reducible rfl)
        simp only [Act.put, List.setIfInBounds_toArray, List.set_cons_zero, List.set_cons_succ, List.getElem_toArray, List.getElem_cons_succ, List.getElem_cons_zero]
        refine wpAnyH_take (i := 7) (v := ?_) rfl (by kernel_rfl) (by kernel_rfl) (by kernel_rfl) (fun _ _ _ h => h) (Or.inl ⟨by rfl, ?_⟩) hH ?_
        rotate_left
        · (intro v hS; obtain ⟨⟨s0, s1, s2⟩, ⟨t0, t1, t2⟩, x2, y2⟩ := hS; go_simp; try with_reducible rfl)
        simp only [Act.put, List.setIfInBounds_toArray, List.set_cons_zero, List.set_cons_succ, List.getElem_toArray, List.getElem_cons_succ, List.getElem_cons_zero]
        refine wpAnyH_take (i := 8) (v := ?_) rfl (by kernel_rfl) (by kernel_rfl) (by kernel_rfl) (fun _ _ _ h => h) (Or.inl ⟨by rfl, ?_⟩) hH ?_
        rotate_left
        · (intro v hS; obtain ⟨⟨s0, s1, s2⟩, ⟨t0, t1, t2⟩, x2, y2⟩ := hS; go_simp; try with_reducible rfl)
        simp only [Act.put, List.setIfInBounds_toArray, List.set_cons_zero, List.set_cons_succ, List.getElem_toArray, List.getElem_cons_succ, List.getElem_cons_zero]
        refine wpAnyH_take (i := 9) (v := ?_) rfl (by kernel_rfl) (by kernel_rfl) (by kernel_rfl) (fun _ _ _ h => h) (Or.inl ⟨by rfl, ?_⟩) hH ?_
        rotate_left
        · (intro v hS; obtain ⟨⟨s0, s1, s2⟩, ⟨t0, t1, t2⟩, x2, y2⟩ := hS; go_simp; try with_reducible rfl)
        simp only [Act.put, List.setIfInBounds_toArray, List.set_cons_zero, List.set_cons_succ, List.getElem_toArray, List.getElem_cons_succ, List.getElem_cons_zero]
        refine wpAnyH_ready (rs := [10]) (by kernel_rfl) (by simp) ?_
        refine AllReadyH.cons rfl (fun K hK => ?_) AllReadyH.nil
        go_simp
        refine Calls.mono CC.out ?_
        rintro e u2 ⟨rfl, hgu⟩
        refine hK.out _ _ ⟨TT.out.1.none hgu, TT.out.2.1.none hgu, hgu.cell TT.out.2.2.1 (by simp), hgu.cell TT.out.2.2.2 (by simp)⟩ (fun hH2 => ?_)
        clear hK K hH
        have hH := hH2
        clear hH2
        have FY : Hid (InF u2 R1 b (o + (j + 1) * 3) ∧ InF u2 R2 b' (o' + (j + 1) * 3) ∧ W0.grownBy u2 none) := ⟨FX.out.1.none hgu, FX.out.2.1.none hgu, grown_trans FX.out.2.2 hgu⟩
        clear FX hgu CC TT
        simp only [Act.put, List.setIfInBounds_toArray, List.set_cons_zero, List.set_cons_succ, List.getElem_toArray, List.getElem_cons_succ, List.getElem_cons_zero]
        cases hb : eqV k1 n1 d1 k2 n2 d2 with
        | true =>
          have hv2 : Hid (eqB d d' = eqB R1 R2) := by show _ = _; rw [hv.out, eqB_cons, hb, Bool.true_and]
          clear hv hb
          refine wpAnyH_take (i := 11) (v := ?_) rfl (by kernel_rfl) (by kernel_rfl) (by kernel_rfl) (fun _ _ _ h => h) (Or.inl ⟨by rfl, ?_⟩) hH ?_
          rotate_left
          · (intro v hS; go_simp; try with_reducible rfl)
          simp only [Act.put, List.setIfInBounds_toArray, List.set_cons_zero, List.set_cons_succ, List.getElem_toArray, List.getElem_cons_succ, List.getElem_cons_zero]
          refine wpAnyH_done (by kernel_rfl) ?_ _
          go_wp2
          go_roundw
          case rel => exact ⟨j + 1, R1, R2, by omega, by go_num, FY.out.2.2, FY.out.1, FY.out.2.1, hRs', by omega, by omega, hv2⟩
          case measure => simp [intOf]; omega
        | false =>
          have hv2 : Hid (eqB d d' = false) := by show _ = _; rw [hv.out, eqB_cons, hb, Bool.false_and]
          clear hv hb
          refine wpAnyH_take (i := 11) (v := ?_) rfl (by kernel_rfl) (by kernel_rfl) (by kernel_rfl) (fun _ _ _ h => h) (Or.inl ⟨by rfl, ?_⟩) hH ?_
          rotate_left
          · (intro v hS; go_simp; try with_reducible rfl)
          simp only [Act.put, List.setIfInBounds_toArray, List.set_cons_zero, List.set_cons_succ, List.getElem_toArray, List.getElem_cons_succ, List.getElem_cons_zero]
          refine wpAnyH_done (by kernel_rfl) ?_ _
          go_wp2
          go_ret
          exact ⟨by rw [E.out, hv2.out]; rfl, grown_trans G0.out FY.out.2.2⟩
      · obtain rfl : j = l := by omega
        obtain rfl : R = .nil := F.nil_of_len (by omega)
        obtain rfl : R' = .nil := F.nil_of_len (by omega)
        have hv2 : Hid (eqB d d' = true) := hv.out
        clear hv
        go_wp2
        go_ret
        exact ⟨by rw [E.out, hv2.out]; rfl, grown_trans G0.out hg⟩

set_option maxRecDepth 8000 in
set_option maxHeartbeats 1000000 in
theorem hasT (a : Option Addr) (n c : Nat) (zs : List Int) (x : Int) (w : World) (h : ReadsI w a n zs) (hn : n ≤ 1000) :
    Calls Try.prog 14 #[.slice a n c, .int .i64 x] w fun e u => e = .returned (.bool (decide (x ∈ zs))) ∧ w.grownBy u none := by
  obtain ⟨hl, h⟩ := h
  by_cases h0 : n = 0
  · subst h0
    obtain rfl : zs = [] := List.eq_nil_of_length_eq_zero hl
    clear h
    go_enter Try.func14, Try.ntmps14
    go_wp2
    refine wp_loop_rounds 1 ?_
    rw [rounds_succ]
    go_wp2
    go_ret
    exact ⟨by simp, World.grownBy.refl _ _⟩
  rcases h with h | ⟨b, off, rfl, hc⟩
  · exact absurd h h0
  go_enter Try.func14, Try.ntmps14
  go_wp2
  go_loopw [5] (fun i wr => ∃ j : Nat, j ≤ n ∧ i = .int .i64 j ∧ Hid (w.grownBy wr none) ∧ Hid (x ∉ zs.take j)) (fun i _ => n - (intOf i).toNat)
  case atStart => exact ⟨0, Nat.zero_le _, rfl, World.grownBy.refl _ _, by show _ ∉ _; simp⟩
  case round =>
    obtain ⟨j, hj, rfl, hg, hx⟩ := hrel
    by_cases hlt : j < n
    · have hlt' : (j : Int) < n := by omega
      have hcj := (cell_of_heap (hg.out.block b (block_lt_of_cell (hc j hlt)) (by simp))).trans (hc j hlt)
      have HY : Hid (∃ y, zs.getD j 0 = y) := ⟨_, rfl⟩
      obtain ⟨y, hy⟩ := HY.out
      rw [hy] at hcj
      have EY : Hid (zs.getD j 0 = y) := hy
      have hgj : zs[j]? = some y := by rw [← EY.out]; simp [List.getD_eq_getElem?_getD, show j < zs.length by omega]
      have HG : Hid (zs[j]? = some y) := hgj
      clear hc hy HY EY hgj
      by_cases hyx : y = x
      · subst hyx
        have HF : Hid (decide (y ∈ zs) = true) := by show _ = _; simp only [decide_eq_true_eq]; exact List.mem_of_getElem? HG.out
        clear HG hx
        go_wp2
        go_ret
        exact ⟨by rw [HF.out]; rfl, hg.out⟩
      · have hb : (y == x) = false := by simp [hyx]
        have HX : Hid (x ∉ zs.take (j + 1)) := by
          show _ ∉ _
          have hjl : j < zs.length := by omega
          have e : zs[j] = y := by have := HG.out; rw [List.getElem?_eq_getElem hjl] at this; exact Option.some.inj this
          rw [List.take_succ_eq_append_getElem hjl, List.mem_append, e, List.mem_singleton]
          rintro (h | h)
          · exact hx.out h
          · exact hyx h.symm
        clear hx HG
        go_wp2
        go_roundw
        case rel => exact ⟨j + 1, by omega, by go_num, hg, HX⟩
        case measure => simp [intOf]; omega
    · obtain rfl : j = n := by omega
      have HF : Hid (decide (x ∈ zs) = false) := by
        show _ = _
        have := hx.out
        rw [List.take_of_length_le (by omega)] at this
        simpa using this
      clear hx
      go_wp2
      go_ret
      exact ⟨by rw [HF.out]; rfl, hg.out⟩

end Go.Proofs.Ytmlganaiajhjeaa.By
