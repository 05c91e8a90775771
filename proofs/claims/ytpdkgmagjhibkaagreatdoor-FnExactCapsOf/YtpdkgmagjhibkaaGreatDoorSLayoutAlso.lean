/-
  Several texts in one (STyss, SLayout). No statement is proved here.
-/
import Derived.Test.YtpdkgmagjhibkaaGreatDoorSBaAlso
import Derived.Deep.DeepCutAuto
import Derived.Deep.RegionHeld
import Derived.Test.YtpdkgmagjhibkaaGreatDoorEC0Also
namespace Go.Proofs.YtpdkgmagjhibkaaGreatDoor.By
open Go.RowKit
set_option linter.unusedVariables false
set_option linter.unusedSimpArgs false

/-- TyS from a cell on, 1 cells each; their parts are read in wp. -/
def InTys (w wp : World) : List F → Nat → Nat → Prop
  | [], _, _ => True
  | x :: r, b, off => (∃ a1 l1 c1, (w.cell? ⟨b, off, none⟩ = some (.slice a1 l1 c1)) ∧ SlF wp a1 l1 x) ∧ InTys w wp r b (off + 1)
def SlTys (w : World) (a : Option Addr) (l : Nat) (xs : List F) : Prop :=
  xs.length = l ∧ l ≤ 9223372036854775807 ∧ (l = 0 ∨ ∃ b o, a = some ⟨b, o, none⟩ ∧ InTys w w xs b o)
theorem InTys.move {w wp u up : World} {xs : List F} {b off b' off' : Nat} (h : InTys w wp xs b off) (hc : ∀ i v, i < xs.length * 1 → w.cell? ⟨b, off + i, none⟩ = some v → u.cell? ⟨b', off' + i, none⟩ = some v) (k : CLe wp up) : InTys u up xs b' off' := by
  induction xs generalizing off off' with
  | nil => trivial
  | cons x r ih =>
    obtain ⟨⟨a1, l1, c1, h0, hp⟩, hr⟩ := h
    refine ⟨⟨a1, l1, c1, by simpa using hc 0 _ (by simp) h0, hp.le k⟩, ih hr (fun i v hi hv => ?_)⟩
    have := hc (i + 1) v (by simp; omega) (by rw [show off + (i + 1) = off + 1 + i by omega]; exact hv)
    rw [show off' + 1 + i = off' + (i + 1) by omega]; exact this
theorem InTys.le {w wp u up : World} {xs : List F} {b off : Nat} (h : InTys w wp xs b off) (k : CLe w u) (k2 : CLe wp up) : InTys u up xs b off := h.move (fun i v _ hv => k _ _ hv) k2
theorem InTys.app {w wp : World} {P Q : List F} {b off : Nat} (h : InTys w wp P b off) (k : InTys w wp Q b (off + P.length * 1)) : InTys w wp (P ++ Q) b off := by
  induction P generalizing off with
  | nil => simpa using k
  | cons x r ih =>
    refine ⟨h.1, ih h.2 ?_⟩
    rw [show off + 1 + r.length * 1 = off + (x :: r).length * 1 by simp; omega]; exact k
theorem SlTys.le {w u : World} {a : Option Addr} {l : Nat} {xs : List F} (h : SlTys w a l xs) (k : CLe w u) : SlTys u a l xs := by
  obtain ⟨h1, h2, h3⟩ := h
  refine ⟨h1, h2, ?_⟩
  rcases h3 with h3 | ⟨b, o, e, h3⟩
  · exact .inl h3
  · exact .inr ⟨b, o, e, h3.le k k⟩
theorem SlTys.none {w u : World} {a : Option Addr} {l : Nat} {xs : List F} (h : SlTys w a l xs) (k : w.grownBy u Option.none) : SlTys u a l xs := h.le (CLe.grown k)
theorem SlTys.cases {w : World} {a : Option Addr} {l : Nat} {xs : List F} (h : SlTys w a l xs) : (l = 0 ∧ xs = []) ∨ ∃ b o, a = some ⟨b, o, Option.none⟩ ∧ InTys w w xs b o ∧ 0 < l := by
  obtain ⟨h1, h2, h3⟩ := h
  by_cases h0 : l = 0
  · exact .inl ⟨h0, List.eq_nil_of_length_eq_zero (by omega)⟩
  · rcases h3 with h3 | ⟨b, o, e, h3⟩
    · exact absurd h3 h0
    · exact .inr ⟨b, o, e, h3, by omega⟩
def szTyss : List F → Nat
  | [] => 0
  | x :: r => 1 + (x).size + szTyss r
theorem szTyss_len : ∀ xs : List F, xs.length ≤ szTyss xs
  | [] => Nat.le_refl _
  | x :: r => by have := szTyss_len r; simp only [List.length_cons, szTyss]; omega

set_option maxRecDepth 4000 in
set_option maxHeartbeats 4000000 in
theorem szTyssT (xs : List F) (a : Option Addr) (l c : Nat) (L : Int) (w : World) (h : SlTys w a l xs) (h0 : 0 ≤ L) (h1 : L ≤ 1048576) :
    Calls Tryz.prog 66 #[.slice a l c, .int .i64 L] w fun e u => SzW L (szTyss xs) e ∧ w.grownBy u none := by
  have hlen := szTyss_len xs
  have hl := h.2.1
  have hfl := h.1
  by_cases hneg : L - (l : Int) < 0
  · go_enter Tryz.func66, Tryz.ntmps66
    go_wp2
    go_ret
    exact ⟨⟨-1, rfl, .inl rfl⟩, World.grownBy.refl _ _⟩
  rcases h.cases with ⟨rfl, rfl⟩ | ⟨b, o, rfl, hin, hpos⟩
  · go_enter Tryz.func66, Tryz.ntmps66
    go_wp2
    refine wp_loop_rounds 1 ?_
    rw [rounds_succ]
    go_wp2
    go_ret
    exact ⟨⟨_, rfl, .inr ⟨by omega, by simp [szTyss]⟩⟩, World.grownBy.refl _ _⟩
  have IN : Hid (InTys w w xs b o) := hin
  clear hin h
  go_enter Tryz.func66, Tryz.ntmps66
  go_wp2
  go_loopw [1, 5] (fun v i wr => ∃ (j : Nat) (R : List F) (Lj : Int), j ≤ l ∧ i = .int .i64 j ∧ v = .int .i64 Lj ∧ 0 ≤ Lj ∧ Lj ≤ 1048576 ∧ Hid (w.grownBy wr none ∧ InTys wr wr R b (o + j * 1)) ∧ R.length + j = l ∧ Hid (Lj - (szTyss R - R.length : Int) ≤ L - szTyss xs)) (fun _ i _ => l - (intOf i).toNat)
  case atStart =>
    refine ⟨0, xs, _, Nat.zero_le _, rfl, rfl, by omega, by omega, ⟨World.grownBy.refl _ _, by simpa using IN.out⟩, by omega, ?_⟩
    show (_ : Int) ≤ _
    omega
  case round =>
    obtain ⟨j, R, Lj, hj, rfl, rfl, hj0, hj1, HR, hRl, HV⟩ := hrel
    by_cases hlt : j < l
    · obtain ⟨x, R', rfl⟩ : ∃ x R', R = x :: R' := by
        cases R with
        | nil => simp at hRl; omega
        | cons x R' => exact ⟨x, R', rfl⟩
      obtain ⟨hg, ⟨a1, l1, c1, k0, hd⟩, hR2⟩ := HR.out
      rw [show o + j * 1 + 1 = o + (j + 1) * 1 by omega] at hR2
      have CC : Hid _ := szTsW x a1 l1 c1 Lj wr hd hj0 hj1
      have FX : Hid (InTys wr wr R' b (o + (j + 1) * 1) ∧ w.grownBy wr none) := ⟨hR2, hg⟩
      clear hd hR2 hg IN HR
      simp only [List.length_cons] at hRl
      simp only [Nat.mul_one] at k0
      go_wp2_with fail
      refine Calls.mono CC.out ?_
      rintro e u ⟨⟨r, he, hr⟩, hgu⟩
      subst he
      have FY : Hid (w.grownBy u none ∧ InTys u u R' b (o + (j + 1) * 1)) := ⟨grown_trans FX.out.2 hgu, FX.out.1.le (CLe.grown hgu) (CLe.grown hgu)⟩
      have hl2 := szTyss_len R'
      have hv := HV.out
      simp only [szTyss, List.length_cons] at hv
      clear CC hgu FX k0 HV
      simp only []
      rcases hr with rfl | ⟨hr0, hr1⟩
      · go_wp2
        go_ret
        exact ⟨⟨-1, rfl, .inl rfl⟩, FY.out.1⟩
      · have HV2 : Hid (r - (szTyss R' - R'.length : Int) ≤ L - szTyss xs) := by show (_ : Int) ≤ _; omega
        clear hv
        go_wp2
        go_roundw
        case rel => exact ⟨j + 1, R', r, by omega, by go_num, rfl, by omega, by omega, FY, by omega, HV2⟩
        case measure => simp [intOf]; omega
    · obtain rfl : j = l := by omega
      obtain rfl : R = [] := List.eq_nil_of_length_eq_zero (by omega)
      have E : Hid ((Lj ≤ L - szTyss xs) ∧ w.grownBy wr none) := ⟨by have := HV.out; simp [szTyss] at this; omega, HR.out.1⟩
      clear HR IN HV
      go_wp2
      go_ret
      exact ⟨⟨Lj, rfl, .inr ⟨hj0, by have := E.out.1; omega⟩⟩, E.out.2⟩

set_option maxRecDepth 4000 in
set_option maxHeartbeats 4000000 in
theorem eqTyssT (xs : List F) (a a' : Option Addr) (l c c' : Nat) (w : World) (h : SlTys w a l xs) (h' : SlTys w a' l xs) (hs : szTyss xs ≤ 1048576) :
    Calls Tryz.prog 81 #[.slice a l c, .slice a' l c'] w fun e u => e = .returned (.bool true) ∧ w.grownBy u none := by
  have hl := h.2.1
  have hfl := h.1
  rcases h.cases with ⟨rfl, rfl⟩ | ⟨b, o, rfl, hin, hpos⟩
  · go_enter Tryz.func81, Tryz.ntmps81
    go_wp2
    refine wp_loop_rounds 1 ?_
    rw [rounds_succ]
    go_wp2
    go_ret
    exact ⟨rfl, World.grownBy.refl _ _⟩
  rcases h'.cases with ⟨rfl, rfl⟩ | ⟨b', o', rfl, hin', -⟩
  · exact absurd hpos (by omega)
  have IN : Hid (InTys w w xs b o ∧ InTys w w xs b' o') := ⟨hin, hin'⟩
  clear hin hin' h h'
  go_enter Tryz.func81, Tryz.ntmps81
  go_wp2
  go_loopw [5] (fun i wr => ∃ (j : Nat) (R : List F), j ≤ l ∧ i = .int .i64 j ∧ Hid (w.grownBy wr none ∧ InTys wr wr R b (o + j * 1) ∧ InTys wr wr R b' (o' + j * 1)) ∧ szTyss R ≤ 1048576 ∧ R.length + j = l) (fun i _ => l - (intOf i).toNat)
  case atStart => exact ⟨0, xs, Nat.zero_le _, rfl, ⟨World.grownBy.refl _ _, by simpa using IN.out.1, by simpa using IN.out.2⟩, hs, by omega⟩
  case round =>
    obtain ⟨j, R, hj, rfl, HR, hRs, hRl⟩ := hrel
    by_cases hlt : j < l
    · obtain ⟨x, R', rfl⟩ : ∃ x R', R = x :: R' := by
        cases R with
        | nil => simp at hRl; omega
        | cons x R' => exact ⟨x, R', rfl⟩
      obtain ⟨hg, ⟨⟨a1, l1, c1, k0, hd⟩, hR2⟩, ⟨⟨f1, n1, g1, m0, hd2⟩, hR3⟩⟩ := HR.out
      rw [show o + j * 1 + 1 = o + (j + 1) * 1 by omega] at hR2
      rw [show o' + j * 1 + 1 = o' + (j + 1) * 1 by omega] at hR3
      obtain rfl : l1 = n1 := by have := hd.1; have := hd2.1; omega
      simp only [szTyss] at hRs
      have gd := grown_drew (World.grownBy.refl wr none)
      have gc := CLe.grown gd
      have CC : Hid _ := eqS x.size x a1 f1 l1 c1 g1 wr.drew (Nat.le_refl _) (hd.none gd) (hd2.none gd)
      simp only [Nat.mul_one] at k0 m0
      have TT : Hid (∀ u, wr.grownBy u none → ((u.cell? ⟨b, o + j, none⟩ = some (.slice a1 l1 c1)) ∧ u.cell? ⟨b', o' + j, none⟩ = some (.slice f1 l1 g1))) := fun u hu => ⟨hu.cell k0 (by simp), hu.cell m0 (by simp)⟩
      have FX : Hid (w.grownBy wr.drew none ∧ InTys wr.drew wr.drew R' b (o + (j + 1) * 1) ∧ InTys wr.drew wr.drew R' b' (o' + (j + 1) * 1) ∧ wr.grownBy wr.drew none) := ⟨grown_trans hg gd, hR2.le gc gc, hR3.le gc gc, gd⟩
      clear hd hd2 hR2 hR3 hg IN HR gd gc k0 m0
      simp only [List.length_cons] at hRl
      go_wp2_with fail
      refine wp_region_held_drew (S := (fun u => ((u.cell? ⟨b, o + j, none⟩ = some (.slice a1 l1 c1)) ∧ u.cell? ⟨b', o' + j, none⟩ = some (.slice f1 l1 g1)))) (by kernel_rfl) (TT.out _ FX.out.2.2.2) (fun hH => ?_)
      generalize wr.drew = u at *
      simp only [List.size_toArray, List.length_cons, List.length_nil, Nat.reduceAdd, Array.replicate, List.replicate]
      refine wpAnyH_take (i := 0) (v := ?_) rfl (by kernel_rfl) (by kernel_rfl) (by kernel_rfl) (fun _ _ _ h => h) (Or.inl ⟨by rfl, ?_⟩) hH ?_
      rotate_left
      · (intro v hS; obtain ⟨s0, t0⟩ := hS; go_simp; try with_reducible rfl)
      simp only [Act.put, List.setIfInBounds_toArray, List.set_cons_zero, List.set_cons_succ, List.getElem_toArray, List.getElem_cons_succ, List.getElem_cons_zero]
      refine wpAnyH_take (i := 1) (v := ?_) rfl (by kernel_rfl) (by kernel_rfl) (by kernel_rfl) (fun _ _ _ h => h) (Or.inl ⟨by rfl, ?_⟩) hH ?_
      rotate_left
      · (intro v hS; obtain ⟨s0, t0⟩ := hS; go_simp; try with_reducible rfl)
      simp only [Act.put, List.setIfInBounds_toArray, List.set_cons_zero, List.set_cons_succ, List.getElem_toArray, List.getElem_cons_succ, List.getElem_cons_zero]
      refine wpAnyH_take (i := 2) (v := ?_) rfl (by kernel_rfl) (by kernel_rfl) (by kernel_rfl) (fun _ _ _ h => h) (Or.inl ⟨by rfl, ?_⟩) hH ?_
      rotate_left
      · (intro v hS; obtain ⟨s0, t0⟩ := hS; go_simp; try with_reducible rfl)
      simp only [Act.put, List.setIfInBounds_toArray, List.set_cons_zero, List.set_cons_succ, List.getElem_toArray, List.getElem_cons_succ, List.getElem_cons_zero]
      refine wpAnyH_take (i := 3) (v := ?_) rfl (by kernel_rfl) (by kernel_rfl) (by kernel_rfl) (fun _ _ _ h => h) (Or.inl ⟨by rfl, ?_⟩) hH ?_
      rotate_left
      · (intro v hS; obtain ⟨s0, t0⟩ := hS; go_simp; try with_reducible rfl)
      simp only [Act.put, List.setIfInBounds_toArray, List.set_cons_zero, List.set_cons_succ, List.getElem_toArray, List.getElem_cons_succ, List.getElem_cons_zero]
      refine wpAnyH_take (i := 4) (v := ?_) rfl (by kernel_rfl) (by kernel_rfl) (by kernel_rfl) (fun _ _ _ h => h) (Or.inl ⟨by rfl, ?_⟩) hH ?_
      rotate_left
      · (intro v hS; obtain ⟨s0, t0⟩ := hS; go_simp; try with_reducible rfl)
      simp only [Act.put, List.setIfInBounds_toArray, List.set_cons_zero, List.set_cons_succ, List.getElem_toArray, List.getElem_cons_succ, List.getElem_cons_zero]
      refine wpAnyH_take (i := 5) (v := ?_) rfl (by kernel_rfl) (by kernel_rfl) (by kernel_rfl) (fun _ _ _ h => h) (Or.inl ⟨by rfl, ?_⟩) hH ?_
      rotate_left
      · (intro v hS; obtain ⟨s0, t0⟩ := hS; go_simp; try with_reducible rfl)
      simp only [Act.put, List.setIfInBounds_toArray, List.set_cons_zero, List.set_cons_succ, List.getElem_toArray, List.getElem_cons_succ, List.getElem_cons_zero]
      refine wpAnyH_take (i := 6) (v := ?_) rfl (by kernel_rfl) (by kernel_rfl) (by kernel_rfl) (fun _ _ _ h => h) (Or.inl ⟨by rfl, ?_⟩) hH ?_
      rotate_left
      · (intro v hS; obtain ⟨s0, t0⟩ := hS; go_simp; try with_reducible rfl)
      simp only [Act.put, List.setIfInBounds_toArray, List.set_cons_zero, List.set_cons_succ, List.getElem_toArray, List.getElem_cons_succ, List.getElem_cons_zero]
      refine wpAnyH_take (i := 7) (v := ?_) rfl (by kernel_rfl) (by kernel_rfl) (by kernel_rfl) (fun _ _ _ h => h) (Or.inl ⟨by rfl, ?_⟩) hH ?_
      rotate_left
      · (intro v hS; obtain ⟨s0, t0⟩ := hS; go_simp; try with_reducible rfl)
      simp only [Act.put, List.setIfInBounds_toArray, List.set_cons_zero, List.set_cons_succ, List.getElem_toArray, List.getElem_cons_succ, List.getElem_cons_zero]
      refine wpAnyH_ready (rs := [8]) (by kernel_rfl) (by simp) ?_
      refine AllReadyH.cons rfl (fun K hK => ?_) AllReadyH.nil
      go_simp
      refine Calls.mono CC.out ?_
      rintro e u2 ⟨he, hgu⟩
      subst he
      refine hK.out _ _ (TT.out _ (grown_trans FX.out.2.2.2 hgu)) (fun hH2 => ?_)
      clear hK K hH
      have hH := hH2
      clear hH2
      have FY : Hid (w.grownBy u2 none ∧ InTys u2 u2 R' b (o + (j + 1) * 1) ∧ InTys u2 u2 R' b' (o' + (j + 1) * 1)) := ⟨grown_trans FX.out.1 hgu, FX.out.2.1.le (CLe.grown hgu) (CLe.grown hgu), FX.out.2.2.1.le (CLe.grown hgu) (CLe.grown hgu)⟩
      clear FX hgu CC TT
      simp only [Act.put, List.setIfInBounds_toArray, List.set_cons_zero, List.set_cons_succ, List.getElem_toArray, List.getElem_cons_succ, List.getElem_cons_zero]
      refine wpAnyH_take (i := 9) (v := ?_) rfl (by kernel_rfl) (by kernel_rfl) (by kernel_rfl) (fun _ _ _ h => h) (Or.inl ⟨by rfl, ?_⟩) hH ?_
      rotate_left
      · (intro v hS; go_simp; try with_reducible rfl)
      simp only [Act.put, List.setIfInBounds_toArray, List.set_cons_zero, List.set_cons_succ, List.getElem_toArray, List.getElem_cons_succ, List.getElem_cons_zero]
      refine wpAnyH_done (by kernel_rfl) ?_ _
      go_wp2
      go_roundw
      case rel => exact ⟨j + 1, R', by omega, by go_num, FY, by omega, by omega⟩
      case measure => simp [intOf]; omega
    · obtain rfl : j = l := by omega
      have E : Hid (w.grownBy wr none) := HR.out.1
      clear HR IN
      go_wp2
      go_ret
      exact ⟨rfl, E.out⟩

theorem BlkN.putsTys {w : World} {t : TypeId} {g k : Nat} (h : BlkN w t g k) (j : Nat) (hj : j + 0 < k) (v0 : Value) : BlkN (w.setCell ⟨g, j, none⟩ v0) t g k ∧ w.grownBy (w.setCell ⟨g, j, none⟩ v0) (some g) ∧ (w.setCell ⟨g, j, none⟩ v0).cell? ⟨g, j, none⟩ = some v0 ∧ ∀ i, i < j → (w.setCell ⟨g, j, none⟩ v0).cell? ⟨g, i, none⟩ = w.cell? ⟨g, i, none⟩ := by
  obtain ⟨h0, k0, c0, o0⟩ := h.set j (by omega) v0
  exact ⟨h0, k0, c0, fun i hi => o0 i (by omega)⟩

theorem infoSTys : (Tryz.prog.info? 58).map (fun i => (i.zero, i.size, i.bytes)) = some (some (.slice none 0 0), 1, 24) := by kernel_rfl

theorem makeSTys (n : Nat) (hn : n ≤ 4194304) (w : World) : (Instr.makeSlice 84 (.int .i64 (n : Int)) (.int .i64 (n : Int))).run Tryz.prog w = .ok (.slice (some ⟨w.heap.size, 0, none⟩) n n) (w.alloc (.cells (madeCells #[.slice none 0 0] (n * 1)) 58)) := by
  obtain ⟨i0, hi, hz0, hz1, hz2⟩ := info_parts infoSTys
  have h := run_make (P := Tryz.prog) (w := w) 84 58 i0 _ Tryz.underlying84 hi hz0 .i64 .i64 (n : Int) (n : Int) (by omega) (by omega) (by rw [hz2]; omega) (by omega)
  rw [hz1] at h
  simpa [Value.cells] using h
theorem makeSTys0 (w : World) : (Instr.makeSlice 84 (.int .i64 0) (.int .i64 0)).run Tryz.prog w = .ok (.slice (some ⟨w.heap.size, 0, none⟩) 0 0) (w.alloc (.cells (madeCells #[.slice none 0 0] 0) 58)) := makeSTys 0 (by omega) w
theorem madeSTys_blk (w : World) (n : Nat) : BlkN (w.alloc (.cells (madeCells #[.slice none 0 0] (n * 1)) 58)) 58 w.heap.size (n * 1) := ⟨_, heap_alloc_new w _, by simp [madeCells]⟩

set_option maxRecDepth 4000 in
set_option maxHeartbeats 4000000 in
theorem toTyssT (xs : List F) (a : Option Addr) (l c : Nat) (w : World) (h : SlTys w a l xs) (hs : szTyss xs ≤ 1048576) :
    Calls Tryz.prog 77 #[.slice a l c] w fun e u => ∃ a' c', e = .returned (.slice a' l c') ∧ w.grownBy u none ∧ SlTys (hideZ u w.heap.size) a' l xs := by
  have hlen := szTyss_len xs
  have hl := h.2.1
  have hfl := h.1
  rcases h.cases with ⟨rfl, rfl⟩ | ⟨b, o, rfl, hin, hpos⟩
  · have hmk := makeSTys0
    go_enter Tryz.func77, Tryz.ntmps77
    go_wp2
    refine wp_loop_rounds 1 ?_
    rw [rounds_succ]
    go_wp2
    go_ret
    exact ⟨_, _, rfl, World.grownBy_alloc _ _ _, ⟨rfl, by omega, .inl rfl⟩⟩
  have hmk := makeSTys l (by omega)
  have hb0 := madeSTys_blk w l
  have IN : Hid (InTys w w xs b o) := hin
  have HB : Hid _ := hb0
  clear hin h hb0
  simp only [Nat.mul_one] at hmk HB
  go_enter Tryz.func77, Tryz.ntmps77
  go_wp2
  go_loopw [4] (fun i wr => ∃ (j : Nat) (P R : List F), j ≤ l ∧ i = .int .i64 j ∧ P.length = j ∧ R.length + j = l ∧ szTyss R ≤ 1048576 ∧ Hid (w.grownBy wr none ∧ InTys w w R b (o + j * 1) ∧ BlkN wr 58 w.heap.size (l) ∧ InTys wr (hideZ wr (w.heap.size + 1)) P w.heap.size 0 ∧ P ++ R = xs)) (fun i _ => l - (intOf i).toNat)
  case atStart => exact ⟨0, [], xs, Nat.zero_le _, rfl, rfl, by omega, hs, World.grownBy_alloc _ _ _, by simpa using IN.out, HB.out, trivial, rfl⟩
  case round =>
    obtain ⟨j, P, R, hj, rfl, hPl, hRl, hRs, HR⟩ := hrel
    by_cases hlt : j < l
    · obtain ⟨x, R', rfl⟩ : ∃ x R', R = x :: R' := by
        cases R with
        | nil => simp at hRl; omega
        | cons x R' => exact ⟨x, R', rfl⟩
      obtain ⟨hg, ⟨⟨a1, l1, c1, k0, hd⟩, hR2⟩, hB, hP, hcs⟩ := HR.out
      rw [show o + j * 1 + 1 = o + (j + 1) * 1 by omega] at hR2
      simp only [szTyss] at hRs
      simp only [List.length_cons] at hRl
      have k0 := hg.cell k0 (by simp)
      simp only [Nat.mul_one] at k0
      have CC : Hid _ := toTsW x a1 l1 c1 wr (hd.none hg) (by omega)
      have FX : Hid (w.grownBy wr none ∧ InTys w w R' b (o + (j + 1) * 1) ∧ BlkN wr 58 w.heap.size (l) ∧ InTys wr (hideZ wr (w.heap.size + 1)) P w.heap.size 0 ∧ (P ++ [x]) ++ R' = xs) := ⟨hg, hR2, hB, hP, by rw [List.append_assoc]; exact hcs⟩
      clear hd hR2 hg hB hP hcs IN HR hmk HB
      go_wp2_with fail
      refine Calls.mono CC.out ?_
      rintro e u ⟨t1, w1, he, hgu, hr⟩
      subst he
      have hBu := FX.out.2.2.1.of (hgu.block _ FX.out.2.2.1.lt (by simp))
      obtain ⟨q0, qq0⟩ := hBu.has (j) (by omega)
      have ff0 := hBu.free (j)
      have FY : Hid (BlkN u 58 w.heap.size (l) ∧ wr.grownBy u none ∧ SlF (hideZ u wr.heap.size) t1 l1 x) := ⟨hBu, hgu, hr⟩
      clear CC hgu hr hBu k0
      simp only []
      go_wp2
      obtain ⟨hg, hR2, hB, hP, hcs⟩ := FX.out
      obtain ⟨hBu, hgu, hr⟩ := FY.out
      have hsz := hB.lt
      obtain ⟨hB3, hk3, tq, hoth⟩ := hBu.putsTys (j) (by omega) (.slice t1 l1 w1)
      have hfx : ∀ i, w.heap.size + 1 ≤ i → i < wr.heap.size → _ = wr.heap[i]? := fun i h1 h2 => (hk3.block i (Nat.lt_of_lt_of_le h2 hgu.size) (by simp; omega)).trans (hgu.block i h2 (by simp))
      have hfu : ∀ i, wr.heap.size ≤ i → i < u.heap.size → _ = u.heap[i]? := fun i h1 h2 => hk3.block i h2 (by simp; omega)
      have hP2 := hP.move (b' := w.heap.size) (off' := 0) (fun i v hi hv => (hoth (0 + i) (by rw [hPl] at hi; omega)).trans (hgu.cell hv (by simp))) (CLe.hidz (Nat.le_refl _) hfx)
      have cl := CLe.hidz (lo' := w.heap.size + 1) (by omega) hfu
      have hQ := hP2.app (Q := [x]) ⟨⟨t1, l1, w1, by rw [hPl, Nat.zero_add, Nat.mul_one]; exact tq, hr.le cl⟩, trivial⟩
      go_roundw
      case rel => exact ⟨j + 1, P ++ [x], R', by omega, by go_num, by simp [hPl], by omega, by omega, grown_into (grown_trans hg hgu) hk3 (Nat.le_refl _), hR2, hB3, hQ, hcs⟩
      case measure => simp [intOf]; omega
    · obtain rfl : j = l := by omega
      obtain rfl : R = [] := List.eq_nil_of_length_eq_zero (by omega)
      obtain ⟨hg, -, hB, hP, hcs⟩ := HR.out
      rw [List.append_nil] at hcs
      subst hcs
      have FQ : Hid (w.grownBy wr none ∧ SlTys (hideZ wr w.heap.size) (some ⟨w.heap.size, 0, none⟩) j P) := ⟨hg, hPl, by omega, .inr ⟨_, _, rfl, hP.move (fun i v hi hv => (hideZ_cell (Nat.le_refl _) hB).trans hv) (CLe.hidz (Nat.le_succ _) (fun _ _ _ => rfl))⟩⟩
      clear hg hB hP HR IN HB
      go_wp2
      go_ret
      exact ⟨_, _, rfl, FQ.out.1, FQ.out.2⟩
end Go.Proofs.YtpdkgmagjhibkaaGreatDoor.By

namespace Go.Proofs.YtpdkgmagjhibkaaGreatDoor.By
open Go.RowKit
set_option linter.unusedVariables false
set_option linter.unusedSimpArgs false

structure RLayout where
  cons : List F
def RdLayout (w : World) (x : RLayout) (a1 : Option Addr) (l1 : Nat) : Prop := SlTys w a1 l1 x.cons
theorem RdLayout.le {w u : World} {x : RLayout} {a1 : Option Addr} {l1 : Nat} (h : RdLayout w x a1 l1) (k : CLe w u) : RdLayout u x a1 l1 := (show SlTys w a1 l1 x.cons from h).le k
theorem RdLayout.none {w u : World} {x : RLayout} {a1 : Option Addr} {l1 : Nat} (h : RdLayout w x a1 l1) (k : w.grownBy u Option.none) : RdLayout u x a1 l1 := h.le (CLe.grown k)
def szLayout (x : RLayout) : Nat := szTyss x.cons
theorem blkLayout {w : World} {g : Nat} {t : TypeId} {v0 : Value} (h : w.heap[g]? = some (.cells #[v0] t (0, 0))) : (w.cell? ⟨g, 0, none⟩ = some v0) ∧ ∀ j, w.frozen? ⟨g, j, none⟩ = false := by
  refine ⟨?_, fun j => frozen_of_row w g _ _ t h⟩ <;> (rw [cell_of_row w g _ _ t (0, 0) h]; rfl)
theorem fillLayout {w : World} {p : Nat} {t : TypeId} {o0 : Value} (v0 : Value) (h : w.heap[p]? = some (.cells #[o0] t (0, 0))) :
    (w.setCell ⟨p, 0, none⟩ (v0)).heap[p]? = some (.cells #[v0] t (0, 0)) ∧ w.grownBy (w.setCell ⟨p, 0, none⟩ (v0)) (some p) := by
  have h0 : (w.setCell ⟨p, 0, none⟩ (v0)).heap[p]? = some (.cells #[v0] t (0, 0)) := heap_setCell_same _ p 0 _ t v0 h
  exact ⟨h0, grown_trans (World.grownBy.refl _ _) (grown_setCell _ _ _ _)⟩

set_option maxRecDepth 4000 in
set_option maxHeartbeats 4000000 in
theorem szLayoutT (x : RLayout) (a1 : Option Addr) (l1 c1 : Nat) (L : Int) (w : World) (h : RdLayout w x a1 l1) (h0 : 0 ≤ L) (h1 : L ≤ 1048576) :
    Calls Tryz.prog 39 #[.agg #[.slice a1 l1 c1], .int .i64 L] w fun e u => SzW L (szLayout x) e ∧ w.grownBy u none := by
  have g0 := World.grownBy_alloc w (.cells #[.slice a1 l1 c1] 71) none
  have b0 := heap_alloc_new w (.cells #[.slice a1 l1 c1] 71)
  have HN : Hid (∀ u, w.grownBy u none → RdLayout u x a1 l1) := fun u hu => h.none hu
  clear h
  have L0 : Hid (w.grownBy _ none ∧ _ = some (Obj.cells #[.slice a1 l1 c1] 71)) := ⟨g0, b0⟩
  have C0 : Hid _ := szTyssT (x.cons) a1 l1 c1 L _ ((HN.out _ g0)) h0 h1
  obtain ⟨y0, -⟩ := blkLayout b0
  clear g0 b0
  go_enter Tryz.func39, Tryz.ntmps39
  go_wp2_with fail
  refine Calls.mono C0.out ?_
  rintro e u0 ⟨⟨r0, he, hr⟩, hg⟩
  subst he
  have L1 : Hid (w.grownBy u0 none ∧ u0.heap[w.heap.size]? = some (Obj.cells #[.slice a1 l1 c1] 71)) := ⟨grown_trans L0.out.1 hg, (hg.block _ (lt_of_block L0.out.2) (by simp)).trans L0.out.2⟩
  clear C0 hg L0 y0
  simp only []
  rcases hr with rfl | ⟨hr0, hs0⟩
  · go_wp2
    go_ret
    exact ⟨⟨-1, rfl, .inl rfl⟩, L1.out.1⟩
  go_wp2
  go_ret
  exact ⟨⟨r0, rfl, .inr ⟨hr0, by unfold szLayout; omega⟩⟩, L1.out.1⟩

set_option maxRecDepth 4000 in
set_option maxHeartbeats 4000000 in
theorem eqLayoutT (x : RLayout) (a1 f1 : Option Addr) (l1 c1 g1 : Nat) (w : World) (h : RdLayout w x a1 l1) (h' : RdLayout w x f1 l1) (hs : szLayout x ≤ 1048576) :
    Calls Tryz.prog 51 #[.agg #[.slice a1 l1 c1], .agg #[.slice f1 l1 g1]] w fun e u => e = .returned (.bool true) ∧ w.grownBy u none := by
  have hb1 : szTyss (x.cons) ≤ 1048576 := by unfold szLayout at hs; omega
  have HN : Hid (∀ u, w.grownBy u none → RdLayout u x a1 l1 ∧ RdLayout u x f1 l1) := fun u hu => ⟨h.none hu, h'.none hu⟩
  clear h h'
  obtain ⟨b0, b1, bsz⟩ := alloc2_blocks w (.cells #[.slice a1 l1 c1] 86) (.cells #[.slice f1 l1 g1] 86)
  have g0 := grown_alloc (grown_alloc (World.grownBy.refl w none) (.cells #[.slice a1 l1 c1] 86)) (.cells #[.slice f1 l1 g1] 86)
  have L0 : Hid (w.grownBy _ none ∧ _ = some (Obj.cells #[.slice a1 l1 c1] 86) ∧ _ = some (Obj.cells #[.slice f1 l1 g1] 86)) := ⟨g0, b0, b1⟩
  have C0 : Hid _ := eqTyssT (x.cons) a1 f1 l1 c1 g1 _ ((HN.out _ g0).1) ((HN.out _ g0).2) (hb1)
  obtain ⟨y0, -⟩ := blkLayout b0
  obtain ⟨yy0, -⟩ := blkLayout b1
  clear g0 b0 b1 bsz
  go_enter Tryz.func51, Tryz.ntmps51
  go_wp2_with fail
  refine Calls.mono C0.out ?_
  rintro e u0 ⟨he, hg⟩
  subst he
  have L1 : Hid (w.grownBy u0 none ∧ u0.heap[w.heap.size]? = some (Obj.cells #[.slice a1 l1 c1] 86) ∧ u0.heap[w.heap.size + 1]? = some (Obj.cells #[.slice f1 l1 g1] 86)) := ⟨grown_trans L0.out.1 hg, (hg.block _ (lt_of_block L0.out.2.1) (by simp)).trans L0.out.2.1, (hg.block _ (lt_of_block L0.out.2.2) (by simp)).trans L0.out.2.2⟩
  clear C0 hg L0 y0 yy0
  simp only []
  go_wp2
  go_ret
  exact ⟨rfl, L1.out.1⟩

set_option maxRecDepth 8000 in
set_option maxHeartbeats 8000000 in
theorem toLayoutT (x : RLayout) (a1 : Option Addr) (l1 c1 : Nat) (w : World) (h : RdLayout w x a1 l1) (hs : szLayout x ≤ 1048576) :
    Calls Tryz.prog 49 #[.agg #[.slice a1 l1 c1]] w fun e u => ∃ t1 w1, e = .returned (.agg #[.slice t1 l1 w1]) ∧ w.grownBy u none ∧ RdLayout (hideZ u w.heap.size) x t1 l1 := by
  have HS : Hid (szLayout x ≤ 1048576) := hs
  have HY : Hid (RdLayout w x a1 l1) := h
  have HN : Hid (∀ u, w.grownBy u none → RdLayout u x a1 l1) := fun u hu => h.none hu
  clear h hs
  obtain ⟨b0, b1, b2, bsz⟩ := alloc3_blocks w (.cells #[.slice a1 l1 c1] 71) (.cells #[.slice none 0 0] 86) (.cells #[.slice none 0 0] 86)
  have g0 := grown_alloc (grown_alloc (grown_alloc (World.grownBy.refl w none) (.cells #[.slice a1 l1 c1] 71)) (.cells #[.slice none 0 0] 86)) (.cells #[.slice none 0 0] 86)
  have L0 : Hid (w.grownBy _ none ∧ _ = some (Obj.cells #[.slice a1 l1 c1] 71) ∧ _ = some (Obj.cells #[.slice none 0 0] 86) ∧ _ = some (Obj.cells #[.slice none 0 0] 86) ∧ _ = w.heap.size + 1 + 1 + 1) := ⟨g0, b0, b1, b2, bsz⟩
  have C0 : Hid _ := toTyssT (x.cons) a1 l1 c1 _ ((HN.out _ g0)) (by have := HS.out; unfold szLayout at *; omega)
  obtain ⟨y0, -⟩ := blkLayout b0
  clear g0 b0 b1 b2 bsz
  go_enter Tryz.func49, Tryz.ntmps49
  go_wp2_with fail
  refine Calls.mono C0.out ?_
  rintro e u0 ⟨r1, s1, he, hg, hN⟩
  subst he
  obtain ⟨gv, ck0, ck1, ck2, hsz⟩ := L0.out
  have dk0 := (hg.block _ (lt_of_block ck0) (by simp)).trans ck0
  have dk1 := (hg.block _ (lt_of_block ck1) (by simp)).trans ck1
  have dk2 := (hg.block _ (lt_of_block ck2) (by simp)).trans ck2
  have g2 := grown_trans gv hg
  have hlo := Nat.le_of_eq hsz.symm
  have hhs := hg.size
  generalize ee0 : w.heap.size = p0 at *
  generalize ee1 : p0 + 1 = p1 at *
  generalize ee2 : p1 + 1 = p2 at *
  have nw0 := hN.le (hiz_low (lo' := p2 + 1) hlo)
  clear C0 L0 gv ck0 ck1 ck2 hsz hg hN hlo hhs y0
  have n02 : p0 ≠ p2 := by omega
  have n12 : p1 ≠ p2 := by omega
  have n01 : p0 ≠ p1 := by omega
  have kS0 : u0.grownBy (u0.setCell ⟨p2, 0, none⟩ (.slice r1 l1 s1)) (some p2) := grown_trans (World.grownBy.refl _ _) (grown_setCell _ _ _ _)
  have dd0_0 : (u0.setCell ⟨p2, 0, none⟩ (.slice r1 l1 s1)).heap[p2]? = some (Obj.cells #[.slice r1 l1 s1] 86) := heap_setCell_same _ p2 0 _ _ (.slice r1 l1 s1) dk2
  have m2 : (u0.setCell ⟨p2, 0, none⟩ (.slice r1 l1 s1)).heap[p2]? = some (Obj.cells #[.slice r1 l1 s1] 86) := dd0_0
  have m1 := (kS0.block _ (lt_of_block dk1) (by simp; omega)).trans dk1
  have m0 := (kS0.block _ (lt_of_block dk0) (by simp; omega)).trans dk0
  have gv : w.grownBy (u0.setCell ⟨p2, 0, none⟩ (.slice r1 l1 s1)) none := grown_into g2 kS0 (by omega)
  have hcl : CLe (hideZ u0 (p2 + 1)) (hideZ (u0.setCell ⟨p2, 0, none⟩ (.slice r1 l1 s1)) (p2 + 1)) := hiz_into kS0 (by omega)
  have L1 : Hid (w.grownBy (u0.setCell ⟨p2, 0, none⟩ (.slice r1 l1 s1)) none ∧ (u0.setCell ⟨p2, 0, none⟩ (.slice r1 l1 s1)).heap[p0]? = some (Obj.cells #[.slice a1 l1 c1] 71) ∧ (u0.setCell ⟨p2, 0, none⟩ (.slice r1 l1 s1)).heap[p1]? = some (Obj.cells #[.slice none 0 0] 86) ∧ (u0.setCell ⟨p2, 0, none⟩ (.slice r1 l1 s1)).heap[p2]? = some (Obj.cells #[.slice r1 l1 s1] 86) ∧ (w.heap.size = p0 ∧ p0 + 1 = p1 ∧ p1 + 1 = p2) ∧ SlTys (hideZ (u0.setCell ⟨p2, 0, none⟩ (.slice r1 l1 s1)) (p2 + 1)) r1 l1 (x.cons)) := ⟨gv, m0, m1, m2, ⟨ee0, ee1, ee2⟩, nw0.le hcl⟩
  obtain ⟨mf, kf⟩ := fillLayout (.slice r1 l1 s1) m1
  have GF := grown_into gv kf (by omega)
  have hcf := hiz_into (lo := p2 + 1) kf (by omega)
  have FQ : Hid _ := And.intro mf (And.intro GF (show RdLayout (hideZ _ p0) x (r1) l1 from ((nw0.le hcl).le hcf).le (hiz_low (lo := p2 + 1) (lo' := p0) (by omega))))
  obtain ⟨y0, -⟩ := blkLayout dk0
  obtain ⟨zz0, hfz⟩ := blkLayout dk2
  obtain ⟨x0, hfx⟩ := blkLayout dk1
  have ff0 := hfz 0
  have fx0 := hfx 0
  clear kS0 dd0_0 m2 m1 m0 gv hcl dk0 dk1 dk2 g2 hfz hfx nw0 mf kf GF hcf L1
  have p12 : p2 ≠ p1 := by omega
  simp only []
  go_wp2
  (try simp only [Exit.inBlock, Exit.then])
  refine bodyPost_ret (results_cell_row (P := Tryz.prog) Tryz.results49 _ _ p1 _ _ _ _ rfl FQ.out.1 Tryz.underlying86 rfl (by kernel_rfl)) rfl ?_
  refine ⟨r1, s1, rfl, ?_⟩
  rw [ee0]
  exact FQ.out.2
end Go.Proofs.YtpdkgmagjhibkaaGreatDoor.By
