/-
  Lists of Layout: how they lie in memory, how great they are, two that read the same compared, and their copies: the law's own helpers by their contracts. No statement is proved here.
-/
import Derived.Test.YtpdkgmagjhibkaaGreatDoorSLayoutAlso
import Derived.Test.YtpdkgmagjhibkaaGreatDoorSBaAlso
import Derived.Deep.DeepCutAuto
import Derived.Deep.RegionHeld
namespace Go.Proofs.YtpdkgmagjhibkaaGreatDoor.By
open Go.RowKit
set_option linter.unusedVariables false
set_option linter.unusedSimpArgs false

/-- Layout from a cell on, 1 cells each; their parts are read in wp. -/
def InLayout (w wp : World) : List RLayout → Nat → Nat → Prop
  | [], _, _ => True
  | x :: r, b, off => (∃ a1 l1 c1, (w.cell? ⟨b, off, none⟩ = some (.slice a1 l1 c1)) ∧ RdLayout wp x a1 l1) ∧ InLayout w wp r b (off + 1)
def SlLayout (w : World) (a : Option Addr) (l : Nat) (xs : List RLayout) : Prop :=
  xs.length = l ∧ l ≤ 9223372036854775807 ∧ (l = 0 ∨ ∃ b o, a = some ⟨b, o, none⟩ ∧ InLayout w w xs b o)
theorem InLayout.move {w wp u up : World} {xs : List RLayout} {b off b' off' : Nat} (h : InLayout w wp xs b off) (hc : ∀ i v, i < xs.length * 1 → w.cell? ⟨b, off + i, none⟩ = some v → u.cell? ⟨b', off' + i, none⟩ = some v) (k : CLe wp up) : InLayout u up xs b' off' := by
  induction xs generalizing off off' with
  | nil => trivial
  | cons x r ih =>
    obtain ⟨⟨a1, l1, c1, h0, hp⟩, hr⟩ := h
    refine ⟨⟨a1, l1, c1, by simpa using hc 0 _ (by simp) h0, hp.le k⟩, ih hr (fun i v hi hv => ?_)⟩
    have := hc (i + 1) v (by simp; omega) (by rw [show off + (i + 1) = off + 1 + i by omega]; exact hv)
    rw [show off' + 1 + i = off' + (i + 1) by omega]; exact this
theorem InLayout.le {w wp u up : World} {xs : List RLayout} {b off : Nat} (h : InLayout w wp xs b off) (k : CLe w u) (k2 : CLe wp up) : InLayout u up xs b off := h.move (fun i v _ hv => k _ _ hv) k2
theorem InLayout.app {w wp : World} {P Q : List RLayout} {b off : Nat} (h : InLayout w wp P b off) (k : InLayout w wp Q b (off + P.length * 1)) : InLayout w wp (P ++ Q) b off := by
  induction P generalizing off with
  | nil => simpa using k
  | cons x r ih =>
    refine ⟨h.1, ih h.2 ?_⟩
    rw [show off + 1 + r.length * 1 = off + (x :: r).length * 1 by simp; omega]; exact k
theorem SlLayout.le {w u : World} {a : Option Addr} {l : Nat} {xs : List RLayout} (h : SlLayout w a l xs) (k : CLe w u) : SlLayout u a l xs := by
  obtain ⟨h1, h2, h3⟩ := h
  refine ⟨h1, h2, ?_⟩
  rcases h3 with h3 | ⟨b, o, e, h3⟩
  · exact .inl h3
  · exact .inr ⟨b, o, e, h3.le k k⟩
theorem SlLayout.none {w u : World} {a : Option Addr} {l : Nat} {xs : List RLayout} (h : SlLayout w a l xs) (k : w.grownBy u Option.none) : SlLayout u a l xs := h.le (CLe.grown k)
theorem SlLayout.cases {w : World} {a : Option Addr} {l : Nat} {xs : List RLayout} (h : SlLayout w a l xs) : (l = 0 ∧ xs = []) ∨ ∃ b o, a = some ⟨b, o, Option.none⟩ ∧ InLayout w w xs b o ∧ 0 < l := by
  obtain ⟨h1, h2, h3⟩ := h
  by_cases h0 : l = 0
  · exact .inl ⟨h0, List.eq_nil_of_length_eq_zero (by omega)⟩
  · rcases h3 with h3 | ⟨b, o, e, h3⟩
    · exact absurd h3 h0
    · exact .inr ⟨b, o, e, h3, by omega⟩
def szLayouts : List RLayout → Nat
  | [] => 0
  | x :: r => 1 + szLayout x + szLayouts r
theorem szLayouts_len : ∀ xs : List RLayout, xs.length ≤ szLayouts xs
  | [] => Nat.le_refl _
  | x :: r => by have := szLayouts_len r; simp only [List.length_cons, szLayouts]; omega

set_option maxRecDepth 4000 in
set_option maxHeartbeats 4000000 in
theorem szLayoutsT (xs : List RLayout) (a : Option Addr) (l c : Nat) (L : Int) (w : World) (h : SlLayout w a l xs) (h0 : 0 ≤ L) (h1 : L ≤ 1048576) :
    Calls Tryz.prog 22 #[.slice a l c, .int .i64 L] w fun e u => SzW L (szLayouts xs) e ∧ w.grownBy u none := by
  have hlen := szLayouts_len xs
  have hl := h.2.1
  have hfl := h.1
  by_cases hneg : L - (l : Int) < 0
  · go_enter Tryz.func22, Tryz.ntmps22
    go_wp2
    go_ret
    exact ⟨⟨-1, rfl, .inl rfl⟩, World.grownBy.refl _ _⟩
  rcases h.cases with ⟨rfl, rfl⟩ | ⟨b, o, rfl, hin, hpos⟩
  · go_enter Tryz.func22, Tryz.ntmps22
    go_wp2
    refine wp_loop_rounds 1 ?_
    rw [rounds_succ]
    go_wp2
    go_ret
    exact ⟨⟨_, rfl, .inr ⟨by omega, by simp [szLayouts]⟩⟩, World.grownBy.refl _ _⟩
  have IN : Hid (InLayout w w xs b o) := hin
  clear hin h
  go_enter Tryz.func22, Tryz.ntmps22
  go_wp2
  go_loopw [1, 5] (fun v i wr => ∃ (j : Nat) (R : List RLayout) (Lj : Int), j ≤ l ∧ i = .int .i64 j ∧ v = .int .i64 Lj ∧ 0 ≤ Lj ∧ Lj ≤ 1048576 ∧ Hid (w.grownBy wr none ∧ InLayout wr wr R b (o + j * 1)) ∧ R.length + j = l ∧ Hid (Lj - (szLayouts R - R.length : Int) ≤ L - szLayouts xs)) (fun _ i _ => l - (intOf i).toNat)
  case atStart =>
    refine ⟨0, xs, _, Nat.zero_le _, rfl, rfl, by omega, by omega, ⟨World.grownBy.refl _ _, by simpa using IN.out⟩, by omega, ?_⟩
    show (_ : Int) ≤ _
    omega
  case round =>
    obtain ⟨j, R, Lj, hj, rfl, rfl, hj0, hj1, HR, hRl, HV⟩ := hrel
    by_cases hlt : j < l
    · obtain ⟨x, R', rfl⟩ : ∃ x R', R = x :: R' := by
        cases R with
        | nil => simp at hRl; omega
        | cons x R' => exact ⟨x, R', rfl⟩
      obtain ⟨hg, ⟨a1, l1, c1, k0, hd⟩, hR2⟩ := HR.out
      rw [show o + j * 1 + 1 = o + (j + 1) * 1 by omega] at hR2
      have CC : Hid _ := szLayoutT x a1 l1 c1 Lj wr hd hj0 hj1
      have FX : Hid (InLayout wr wr R' b (o + (j + 1) * 1) ∧ w.grownBy wr none) := ⟨hR2, hg⟩
      clear hd hR2 hg IN HR
      simp only [List.length_cons] at hRl
      simp only [Nat.mul_one] at k0
      go_wp2_with fail
      refine Calls.mono CC.out ?_
      rintro e u ⟨⟨r, he, hr⟩, hgu⟩
      subst he
      have FY : Hid (w.grownBy u none ∧ InLayout u u R' b (o + (j + 1) * 1)) := ⟨grown_trans FX.out.2 hgu, FX.out.1.le (CLe.grown hgu) (CLe.grown hgu)⟩
      have hl2 := szLayouts_len R'
      have hv := HV.out
      simp only [szLayouts, List.length_cons] at hv
      clear CC hgu FX k0 HV
      simp only []
      rcases hr with rfl | ⟨hr0, hr1⟩
      · go_wp2
        go_ret
        exact ⟨⟨-1, rfl, .inl rfl⟩, FY.out.1⟩
      · have HV2 : Hid (r - (szLayouts R' - R'.length : Int) ≤ L - szLayouts xs) := by show (_ : Int) ≤ _; omega
        clear hv
        go_wp2
        go_roundw
        case rel => exact ⟨j + 1, R', r, by omega, by go_num, rfl, by omega, by omega, FY, by omega, HV2⟩
        case measure => simp [intOf]; omega
    · obtain rfl : j = l := by omega
      obtain rfl : R = [] := List.eq_nil_of_length_eq_zero (by omega)
      have E : Hid ((Lj ≤ L - szLayouts xs) ∧ w.grownBy wr none) := ⟨by have := HV.out; simp [szLayouts] at this; omega, HR.out.1⟩
      clear HR IN HV
      go_wp2
      go_ret
      exact ⟨⟨Lj, rfl, .inr ⟨hj0, by have := E.out.1; omega⟩⟩, E.out.2⟩

set_option maxRecDepth 4000 in
set_option maxHeartbeats 4000000 in
theorem eqLayoutsT (xs : List RLayout) (a a' : Option Addr) (l c c' : Nat) (w : World) (h : SlLayout w a l xs) (h' : SlLayout w a' l xs) (hs : szLayouts xs ≤ 1048576) :
    Calls Tryz.prog 30 #[.slice a l c, .slice a' l c'] w fun e u => e = .returned (.bool true) ∧ w.grownBy u none := by
  have hl := h.2.1
  have hfl := h.1
  rcases h.cases with ⟨rfl, rfl⟩ | ⟨b, o, rfl, hin, hpos⟩
  · go_enter Tryz.func30, Tryz.ntmps30
    go_wp2
    refine wp_loop_rounds 1 ?_
    rw [rounds_succ]
    go_wp2
    go_ret
    exact ⟨rfl, World.grownBy.refl _ _⟩
  rcases h'.cases with ⟨rfl, rfl⟩ | ⟨b', o', rfl, hin', -⟩
  · exact absurd hpos (by omega)
  have IN : Hid (InLayout w w xs b o ∧ InLayout w w xs b' o') := ⟨hin, hin'⟩
  clear hin hin' h h'
  go_enter Tryz.func30, Tryz.ntmps30
  go_wp2
  go_loopw [5] (fun i wr => ∃ (j : Nat) (R : List RLayout), j ≤ l ∧ i = .int .i64 j ∧ Hid (w.grownBy wr none ∧ InLayout wr wr R b (o + j * 1) ∧ InLayout wr wr R b' (o' + j * 1)) ∧ szLayouts R ≤ 1048576 ∧ R.length + j = l) (fun i _ => l - (intOf i).toNat)
  case atStart => exact ⟨0, xs, Nat.zero_le _, rfl, ⟨World.grownBy.refl _ _, by simpa using IN.out.1, by simpa using IN.out.2⟩, hs, by omega⟩
  case round =>
    obtain ⟨j, R, hj, rfl, HR, hRs, hRl⟩ := hrel
    by_cases hlt : j < l
    · obtain ⟨x, R', rfl⟩ : ∃ x R', R = x :: R' := by
        cases R with
        | nil => simp at hRl; omega
        | cons x R' => exact ⟨x, R', rfl⟩
      obtain ⟨hg, ⟨⟨a1, l1, c1, k0, hd⟩, hR2⟩, ⟨⟨f1, n1, g1, m0, hd2⟩, hR3⟩⟩ := HR.out
      rw [show o + j * 1 + 1 = o + (j + 1) * 1 by omega] at hR2
      rw [show o' + j * 1 + 1 = o' + (j + 1) * 1 by omega] at hR3
      obtain rfl : l1 = n1 := by have := hd.1; have := hd2.1; omega
      simp only [szLayouts] at hRs
      have gd := grown_drew (World.grownBy.refl wr none)
      have gc := CLe.grown gd
      have CC : Hid _ := eqLayoutT x a1 f1 l1 c1 g1 wr.drew (hd.none gd) (hd2.none gd) (by omega)
      simp only [Nat.mul_one] at k0 m0
      have TT : Hid (∀ u, wr.grownBy u none → ((u.cell? ⟨b, o + j, none⟩ = some (.slice a1 l1 c1)) ∧ u.cell? ⟨b', o' + j, none⟩ = some (.slice f1 l1 g1))) := fun u hu => ⟨hu.cell k0 (by simp), hu.cell m0 (by simp)⟩
      have FX : Hid (w.grownBy wr.drew none ∧ InLayout wr.drew wr.drew R' b (o + (j + 1) * 1) ∧ InLayout wr.drew wr.drew R' b' (o' + (j + 1) * 1) ∧ wr.grownBy wr.drew none) := ⟨grown_trans hg gd, hR2.le gc gc, hR3.le gc gc, gd⟩
      clear hd hd2 hR2 hR3 hg IN HR gd gc k0 m0
      simp only [List.length_cons] at hRl
      go_wp2_with fail
      refine wp_region_held_drew (S := (fun u => ((u.cell? ⟨b, o + j, none⟩ = some (.slice a1 l1 c1)) ∧ u.cell? ⟨b', o' + j, none⟩ = some (.slice f1 l1 g1)))) (by kernel_rfl) (TT.out _ FX.out.2.2.2) (fun hH => ?_)
      generalize wr.drew = u at *
      simp only [List.size_toArray, List.length_cons, List.length_nil, Nat.reduceAdd, Array.replicate, List.replicate]
      refine wpAnyH_take (i := 0) (v := ?_) rfl (by kernel_rfl) (by kernel_rfl) (by kernel_rfl) (fun _ _ _ h => h) (Or.inl ⟨by rfl, ?_⟩) hH ?_
      rotate_left
      · (intro v hS; obtain ⟨s0, t0⟩ := hS; go_simp; try with_reducible rfl)
      simp only [Act.put, List.setIfInBounds_toArray, List.set_cons_zero, List.set_cons_succ, List.getElem_toArray, List.getElem_cons_succ, List.getElem_cons_zero]
      refine wpAnyH_take (i := 1) (v := ?_) rfl (by kernel_rfl) (by kernel_rfl) (by kernel_rfl) (fun _ _ _ h => h) (Or.inl ⟨by rfl, ?_⟩) hH ?_
      rotate_left
      · (intro v hS; obtain ⟨s0, t0⟩ := hS; go_simp; try with_reducible rfl)
      simp only [Act.put, List.setIfInBounds_toArray, List.set_cons_zero, List.set_cons_succ, List.getElem_toArray, List.getElem_cons_succ, List.getElem_cons_zero]
      refine wpAnyH_take (i := 2) (v := ?_) rfl (by kernel_rfl) (by kernel_rfl) (by kernel_rfl) (fun _ _ _ h => h) (Or.inl ⟨by rfl, ?_⟩) hH ?_
      rotate_left
      · (intro v hS; obtain ⟨s0, t0⟩ := hS; go_simp; try with_reducible rfl)
      simp only [Act.put, List.setIfInBounds_toArray, List.set_cons_zero, List.set_cons_succ, List.getElem_toArray, List.getElem_cons_succ, List.getElem_cons_zero]
      refine wpAnyH_take (i := 3) (v := ?_) rfl (by kernel_rfl) (by kernel_rfl) (by kernel_rfl) (fun _ _ _ h => h) (Or.inl ⟨by rfl, ?_⟩) hH ?_
      rotate_left
      · (intro v hS; obtain ⟨s0, t0⟩ := hS; go_simp; try with_reducible rfl)
      simp only [Act.put, List.setIfInBounds_toArray, List.set_cons_zero, List.set_cons_succ, List.getElem_toArray, List.getElem_cons_succ, List.getElem_cons_zero]
      refine wpAnyH_take (i := 4) (v := ?_) rfl (by kernel_rfl) (by kernel_rfl) (by kernel_rfl) (fun _ _ _ h => h) (Or.inl ⟨by rfl, ?_⟩) hH ?_
      rotate_left
      · (intro v hS; obtain ⟨s0, t0⟩ := hS; go_simp; try with_reducible rfl)
      simp only [Act.put, List.setIfInBounds_toArray, List.set_cons_zero, List.set_cons_succ, List.getElem_toArray, List.getElem_cons_succ, List.getElem_cons_zero]
      refine wpAnyH_take (i := 5) (v := ?_) rfl (by kernel_rfl) (by kernel_rfl) (by kernel_rfl) (fun _ _ _ h => h) (Or.inl ⟨by rfl, ?_⟩) hH ?_
      rotate_left
      · (intro v hS; obtain ⟨s0, t0⟩ := hS; go_simp; try with_reducible rfl)
      simp only [Act.put, List.setIfInBounds_toArray, List.set_cons_zero, List.set_cons_succ, List.getElem_toArray, List.getElem_cons_succ, List.getElem_cons_zero]
      refine wpAnyH_take (i := 6) (v := ?_) rfl (by kernel_rfl) (by kernel_rfl) (by kernel_rfl) (fun _ _ _ h => h) (Or.inl ⟨by rfl, ?_⟩) hH ?_
      rotate_left
      · (intro v hS; obtain ⟨s0, t0⟩ := hS; go_simp; try with_reducible rfl)
      simp only [Act.put, List.setIfInBounds_toArray, List.set_cons_zero, List.set_cons_succ, List.getElem_toArray, List.getElem_cons_succ, List.getElem_cons_zero]
      refine wpAnyH_take (i := 7) (v := ?_) rfl (by kernel_rfl) (by kernel_rfl) (by kernel_rfl) (fun _ _ _ h => h) (Or.inl ⟨by rfl, ?_⟩) hH ?_
      rotate_left
      · (intro v hS; obtain ⟨s0, t0⟩ := hS; go_simp; try with_reducible rfl)
      simp only [Act.put, List.setIfInBounds_toArray, List.set_cons_zero, List.set_cons_succ, List.getElem_toArray, List.getElem_cons_succ, List.getElem_cons_zero]
      refine wpAnyH_ready (rs := [8]) (by kernel_rfl) (by simp) ?_
      refine AllReadyH.cons rfl (fun K hK => ?_) AllReadyH.nil
      go_simp
      refine Calls.mono CC.out ?_
      rintro e u2 ⟨he, hgu⟩
      subst he
      refine hK.out _ _ (TT.out _ (grown_trans FX.out.2.2.2 hgu)) (fun hH2 => ?_)
      clear hK K hH
      have hH := hH2
      clear hH2
      have FY : Hid (w.grownBy u2 none ∧ InLayout u2 u2 R' b (o + (j + 1) * 1) ∧ InLayout u2 u2 R' b' (o' + (j + 1) * 1)) := ⟨grown_trans FX.out.1 hgu, FX.out.2.1.le (CLe.grown hgu) (CLe.grown hgu), FX.out.2.2.1.le (CLe.grown hgu) (CLe.grown hgu)⟩
      clear FX hgu CC TT
      simp only [Act.put, List.setIfInBounds_toArray, List.set_cons_zero, List.set_cons_succ, List.getElem_toArray, List.getElem_cons_succ, List.getElem_cons_zero]
      refine wpAnyH_take (i := 9) (v := ?_) rfl (by kernel_rfl) (by kernel_rfl) (by kernel_rfl) (fun _ _ _ h => h) (Or.inl ⟨by rfl, ?_⟩) hH ?_
      rotate_left
      · (intro v hS; go_simp; try with_reducible rfl)
      simp only [Act.put, List.setIfInBounds_toArray, List.set_cons_zero, List.set_cons_succ, List.getElem_toArray, List.getElem_cons_succ, List.getElem_cons_zero]
      refine wpAnyH_done (by kernel_rfl) ?_ _
      go_wp2
      go_roundw
      case rel => exact ⟨j + 1, R', by omega, by go_num, FY, by omega, by omega⟩
      case measure => simp [intOf]; omega
    · obtain rfl : j = l := by omega
      have E : Hid (w.grownBy wr none) := HR.out.1
      clear HR IN
      go_wp2
      go_ret
      exact ⟨rfl, E.out⟩

theorem BlkN.putsLayout {w : World} {t : TypeId} {g k : Nat} (h : BlkN w t g k) (j : Nat) (hj : j + 0 < k) (v0 : Value) : BlkN (w.setCell ⟨g, j, none⟩ v0) t g k ∧ w.grownBy (w.setCell ⟨g, j, none⟩ v0) (some g) ∧ (w.setCell ⟨g, j, none⟩ v0).cell? ⟨g, j, none⟩ = some v0 ∧ ∀ i, i < j → (w.setCell ⟨g, j, none⟩ v0).cell? ⟨g, i, none⟩ = w.cell? ⟨g, i, none⟩ := by
  obtain ⟨h0, k0, c0, o0⟩ := h.set j (by omega) v0
  exact ⟨h0, k0, c0, fun i hi => o0 i (by omega)⟩

theorem infoSLayout : (Tryz.prog.info? 86).map (fun i => (i.zero, i.size, i.bytes)) = some (some (.agg #[.slice none 0 0]), 1, 24) := by kernel_rfl

theorem makeSLayout (n : Nat) (hn : n ≤ 4194304) (w : World) : (Instr.makeSlice 29 (.int .i64 (n : Int)) (.int .i64 (n : Int))).run Tryz.prog w = .ok (.slice (some ⟨w.heap.size, 0, none⟩) n n) (w.alloc (.cells (madeCells #[.slice none 0 0] (n * 1)) 86)) := by
  obtain ⟨i0, hi, hz0, hz1, hz2⟩ := info_parts infoSLayout
  have h := run_make (P := Tryz.prog) (w := w) 29 86 i0 _ Tryz.underlying29 hi hz0 .i64 .i64 (n : Int) (n : Int) (by omega) (by omega) (by rw [hz2]; omega) (by omega)
  rw [hz1] at h
  simpa [Value.cells] using h
theorem makeSLayout0 (w : World) : (Instr.makeSlice 29 (.int .i64 0) (.int .i64 0)).run Tryz.prog w = .ok (.slice (some ⟨w.heap.size, 0, none⟩) 0 0) (w.alloc (.cells (madeCells #[.slice none 0 0] 0) 86)) := makeSLayout 0 (by omega) w
theorem madeSLayout_blk (w : World) (n : Nat) : BlkN (w.alloc (.cells (madeCells #[.slice none 0 0] (n * 1)) 86)) 86 w.heap.size (n * 1) := ⟨_, heap_alloc_new w _, by simp [madeCells]⟩

set_option maxRecDepth 4000 in
set_option maxHeartbeats 4000000 in
theorem toLayoutsT (xs : List RLayout) (a : Option Addr) (l c : Nat) (w : World) (h : SlLayout w a l xs) (hs : szLayouts xs ≤ 1048576) :
    Calls Tryz.prog 27 #[.slice a l c] w fun e u => ∃ a' c', e = .returned (.slice a' l c') ∧ w.grownBy u none ∧ SlLayout (hideZ u w.heap.size) a' l xs := by
  have hlen := szLayouts_len xs
  have hl := h.2.1
  have hfl := h.1
  rcases h.cases with ⟨rfl, rfl⟩ | ⟨b, o, rfl, hin, hpos⟩
  · have hmk := makeSLayout0
    go_enter Tryz.func27, Tryz.ntmps27
    go_wp2
    refine wp_loop_rounds 1 ?_
    rw [rounds_succ]
    go_wp2
    go_ret
    exact ⟨_, _, rfl, World.grownBy_alloc _ _ _, ⟨rfl, by omega, .inl rfl⟩⟩
  have hmk := makeSLayout l (by omega)
  have hb0 := madeSLayout_blk w l
  have IN : Hid (InLayout w w xs b o) := hin
  have HB : Hid _ := hb0
  clear hin h hb0
  simp only [Nat.mul_one] at hmk HB
  go_enter Tryz.func27, Tryz.ntmps27
  go_wp2
  go_loopw [4] (fun i wr => ∃ (j : Nat) (P R : List RLayout), j ≤ l ∧ i = .int .i64 j ∧ P.length = j ∧ R.length + j = l ∧ szLayouts R ≤ 1048576 ∧ Hid (w.grownBy wr none ∧ InLayout w w R b (o + j * 1) ∧ BlkN wr 86 w.heap.size (l) ∧ InLayout wr (hideZ wr (w.heap.size + 1)) P w.heap.size 0 ∧ P ++ R = xs)) (fun i _ => l - (intOf i).toNat)
  case atStart => exact ⟨0, [], xs, Nat.zero_le _, rfl, rfl, by omega, hs, World.grownBy_alloc _ _ _, by simpa using IN.out, HB.out, trivial, rfl⟩
  case round =>
    obtain ⟨j, P, R, hj, rfl, hPl, hRl, hRs, HR⟩ := hrel
    by_cases hlt : j < l
    · obtain ⟨x, R', rfl⟩ : ∃ x R', R = x :: R' := by
        cases R with
        | nil => simp at hRl; omega
        | cons x R' => exact ⟨x, R', rfl⟩
      obtain ⟨hg, ⟨⟨a1, l1, c1, k0, hd⟩, hR2⟩, hB, hP, hcs⟩ := HR.out
      rw [show o + j * 1 + 1 = o + (j + 1) * 1 by omega] at hR2
      simp only [szLayouts] at hRs
      simp only [List.length_cons] at hRl
      have k0 := hg.cell k0 (by simp)
      simp only [Nat.mul_one] at k0
      have CC : Hid _ := toLayoutT x a1 l1 c1 wr (hd.none hg) (by omega)
      have FX : Hid (w.grownBy wr none ∧ InLayout w w R' b (o + (j + 1) * 1) ∧ BlkN wr 86 w.heap.size (l) ∧ InLayout wr (hideZ wr (w.heap.size + 1)) P w.heap.size 0 ∧ (P ++ [x]) ++ R' = xs) := ⟨hg, hR2, hB, hP, by rw [List.append_assoc]; exact hcs⟩
      clear hd hR2 hg hB hP hcs IN HR hmk HB
      go_wp2_with fail
      refine Calls.mono CC.out ?_
      rintro e u ⟨t1, w1, he, hgu, hr⟩
      subst he
      have hBu := FX.out.2.2.1.of (hgu.block _ FX.out.2.2.1.lt (by simp))
      obtain ⟨q0, qq0⟩ := hBu.has (j) (by omega)
      have ff0 := hBu.free (j)
      have FY : Hid (BlkN u 86 w.heap.size (l) ∧ wr.grownBy u none ∧ RdLayout (hideZ u wr.heap.size) x t1 l1) := ⟨hBu, hgu, hr⟩
      clear CC hgu hr hBu k0
      simp only []
      go_wp2
      obtain ⟨hg, hR2, hB, hP, hcs⟩ := FX.out
      obtain ⟨hBu, hgu, hr⟩ := FY.out
      have hsz := hB.lt
      obtain ⟨hB3, hk3, tq, hoth⟩ := hBu.putsLayout (j) (by omega) (.slice t1 l1 w1)
      have hfx : ∀ i, w.heap.size + 1 ≤ i → i < wr.heap.size → _ = wr.heap[i]? := fun i h1 h2 => (hk3.block i (Nat.lt_of_lt_of_le h2 hgu.size) (by simp; omega)).trans (hgu.block i h2 (by simp))
      have hfu : ∀ i, wr.heap.size ≤ i → i < u.heap.size → _ = u.heap[i]? := fun i h1 h2 => hk3.block i h2 (by simp; omega)
      have hP2 := hP.move (b' := w.heap.size) (off' := 0) (fun i v hi hv => (hoth (0 + i) (by rw [hPl] at hi; omega)).trans (hgu.cell hv (by simp))) (CLe.hidz (Nat.le_refl _) hfx)
      have cl := CLe.hidz (lo' := w.heap.size + 1) (by omega) hfu
      have hQ := hP2.app (Q := [x]) ⟨⟨t1, l1, w1, by rw [hPl, Nat.zero_add, Nat.mul_one]; exact tq, hr.le cl⟩, trivial⟩
      go_roundw
      case rel => exact ⟨j + 1, P ++ [x], R', by omega, by go_num, by simp [hPl], by omega, by omega, grown_into (grown_trans hg hgu) hk3 (Nat.le_refl _), hR2, hB3, hQ, hcs⟩
      case measure => simp [intOf]; omega
    · obtain rfl : j = l := by omega
      obtain rfl : R = [] := List.eq_nil_of_length_eq_zero (by omega)
      obtain ⟨hg, -, hB, hP, hcs⟩ := HR.out
      rw [List.append_nil] at hcs
      subst hcs
      have FQ : Hid (w.grownBy wr none ∧ SlLayout (hideZ wr w.heap.size) (some ⟨w.heap.size, 0, none⟩) j P) := ⟨hg, hPl, by omega, .inr ⟨_, _, rfl, hP.move (fun i v hi hv => (hideZ_cell (Nat.le_refl _) hB).trans hv) (CLe.hidz (Nat.le_succ _) (fun _ _ _ => rfl))⟩⟩
      clear hg hB hP HR IN HB
      go_wp2
      go_ret
      exact ⟨_, _, rfl, FQ.out.1, FQ.out.2⟩
end Go.Proofs.YtpdkgmagjhibkaaGreatDoor.By
