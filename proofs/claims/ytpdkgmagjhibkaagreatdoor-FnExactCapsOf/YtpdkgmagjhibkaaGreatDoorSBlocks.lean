/-
  Lists of Block: how they lie in memory, how great they are, two that read the same compared, and their copies: the law's own helpers by their contracts. No statement is proved here.
-/
import Derived.Test.YtpdkgmagjhibkaaGreatDoorSBlock
import Derived.Test.YtpdkgmagjhibkaaGreatDoorSBaAlso
import Derived.Deep.DeepCutAuto
import Derived.Deep.RegionHeld
namespace Go.Proofs.YtpdkgmagjhibkaaGreatDoor.By
open Go.RowKit
set_option linter.unusedVariables false
set_option linter.unusedSimpArgs false

/-- Block from a cell on, 9 cells each; their parts are read in wp. -/
def InBlock (w wp : World) : List RBlock → Nat → Nat → Prop
  | [], _, _ => True
  | x :: r, b, off => (∃ a1 l1 c1 a2 l2 c2 a3 l3 c3 a4 l4 c4 a5 l5 c5, (w.cell? ⟨b, off, none⟩ = some (.slice a1 l1 c1) ∧ w.cell? ⟨b, off + 1, none⟩ = some (.int .i64 x.argk) ∧ w.cell? ⟨b, off + 2, none⟩ = some (.int .i64 x.argn) ∧ w.cell? ⟨b, off + 3, none⟩ = some (.slice a2 l2 c2) ∧ w.cell? ⟨b, off + 4, none⟩ = some (.int .i64 x.resk) ∧ w.cell? ⟨b, off + 5, none⟩ = some (.int .i64 x.resn) ∧ w.cell? ⟨b, off + 6, none⟩ = some (.slice a3 l3 c3) ∧ w.cell? ⟨b, off + 7, none⟩ = some (.slice a4 l4 c4) ∧ w.cell? ⟨b, off + 8, none⟩ = some (.slice a5 l5 c5)) ∧ RdBlock wp x a1 l1 a2 l2 a3 l3 a4 l4 a5 l5) ∧ InBlock w wp r b (off + 9)
def SlBlock (w : World) (a : Option Addr) (l : Nat) (xs : List RBlock) : Prop :=
  xs.length = l ∧ l ≤ 9223372036854775807 ∧ (l = 0 ∨ ∃ b o, a = some ⟨b, o, none⟩ ∧ InBlock w w xs b o)
theorem InBlock.move {w wp u up : World} {xs : List RBlock} {b off b' off' : Nat} (h : InBlock w wp xs b off) (hc : ∀ i v, i < xs.length * 9 → w.cell? ⟨b, off + i, none⟩ = some v → u.cell? ⟨b', off' + i, none⟩ = some v) (k : CLe wp up) : InBlock u up xs b' off' := by
  induction xs generalizing off off' with
  | nil => trivial
  | cons x r ih =>
    obtain ⟨⟨a1, l1, c1, a2, l2, c2, a3, l3, c3, a4, l4, c4, a5, l5, c5, ⟨h0, h1, h2, h3, h4, h5, h6, h7, h8⟩, hp⟩, hr⟩ := h
    refine ⟨⟨a1, l1, c1, a2, l2, c2, a3, l3, c3, a4, l4, c4, a5, l5, c5, ⟨by simpa using hc 0 _ (by simp) h0, hc 1 _ (by simp; omega) h1, hc 2 _ (by simp; omega) h2, hc 3 _ (by simp; omega) h3, hc 4 _ (by simp; omega) h4, hc 5 _ (by simp; omega) h5, hc 6 _ (by simp; omega) h6, hc 7 _ (by simp; omega) h7, hc 8 _ (by simp; omega) h8⟩, hp.le k⟩, ih hr (fun i v hi hv => ?_)⟩
    have := hc (i + 9) v (by simp; omega) (by rw [show off + (i + 9) = off + 9 + i by omega]; exact hv)
    rw [show off' + 9 + i = off' + (i + 9) by omega]; exact this
theorem InBlock.le {w wp u up : World} {xs : List RBlock} {b off : Nat} (h : InBlock w wp xs b off) (k : CLe w u) (k2 : CLe wp up) : InBlock u up xs b off := h.move (fun i v _ hv => k _ _ hv) k2
theorem InBlock.app {w wp : World} {P Q : List RBlock} {b off : Nat} (h : InBlock w wp P b off) (k : InBlock w wp Q b (off + P.length * 9)) : InBlock w wp (P ++ Q) b off := by
  induction P generalizing off with
  | nil => simpa using k
  | cons x r ih =>
    refine ⟨h.1, ih h.2 ?_⟩
    rw [show off + 9 + r.length * 9 = off + (x :: r).length * 9 by simp; omega]; exact k
theorem SlBlock.le {w u : World} {a : Option Addr} {l : Nat} {xs : List RBlock} (h : SlBlock w a l xs) (k : CLe w u) : SlBlock u a l xs := by
  obtain ⟨h1, h2, h3⟩ := h
  refine ⟨h1, h2, ?_⟩
  rcases h3 with h3 | ⟨b, o, e, h3⟩
  · exact .inl h3
  · exact .inr ⟨b, o, e, h3.le k k⟩
theorem SlBlock.none {w u : World} {a : Option Addr} {l : Nat} {xs : List RBlock} (h : SlBlock w a l xs) (k : w.grownBy u Option.none) : SlBlock u a l xs := h.le (CLe.grown k)
theorem SlBlock.cases {w : World} {a : Option Addr} {l : Nat} {xs : List RBlock} (h : SlBlock w a l xs) : (l = 0 ∧ xs = []) ∨ ∃ b o, a = some ⟨b, o, Option.none⟩ ∧ InBlock w w xs b o ∧ 0 < l := by
  obtain ⟨h1, h2, h3⟩ := h
  by_cases h0 : l = 0
  · exact .inl ⟨h0, List.eq_nil_of_length_eq_zero (by omega)⟩
  · rcases h3 with h3 | ⟨b, o, e, h3⟩
    · exact absurd h3 h0
    · exact .inr ⟨b, o, e, h3, by omega⟩
def szBlocks : List RBlock → Nat
  | [] => 0
  | x :: r => 1 + szBlock x + szBlocks r
theorem szBlocks_len : ∀ xs : List RBlock, xs.length ≤ szBlocks xs
  | [] => Nat.le_refl _
  | x :: r => by have := szBlocks_len r; simp only [List.length_cons, szBlocks]; omega

set_option maxRecDepth 4000 in
set_option maxHeartbeats 4000000 in
theorem szBlocksT (xs : List RBlock) (a : Option Addr) (l c : Nat) (L : Int) (w : World) (h : SlBlock w a l xs) (h0 : 0 ≤ L) (h1 : L ≤ 1048576) :
    Calls Tryz.prog 23 #[.slice a l c, .int .i64 L] w fun e u => SzW L (szBlocks xs) e ∧ w.grownBy u none := by
  have hlen := szBlocks_len xs
  have hl := h.2.1
  have hfl := h.1
  by_cases hneg : L - (l : Int) < 0
  · go_enter Tryz.func23, Tryz.ntmps23
    go_wp2
    go_ret
    exact ⟨⟨-1, rfl, .inl rfl⟩, World.grownBy.refl _ _⟩
  rcases h.cases with ⟨rfl, rfl⟩ | ⟨b, o, rfl, hin, hpos⟩
  · go_enter Tryz.func23, Tryz.ntmps23
    go_wp2
    refine wp_loop_rounds 1 ?_
    rw [rounds_succ]
    go_wp2
    go_ret
    exact ⟨⟨_, rfl, .inr ⟨by omega, by simp [szBlocks]⟩⟩, World.grownBy.refl _ _⟩
  have IN : Hid (InBlock w w xs b o) := hin
  clear hin h
  go_enter Tryz.func23, Tryz.ntmps23
  go_wp2
  go_loopw [1, 5] (fun v i wr => ∃ (j : Nat) (R : List RBlock) (Lj : Int), j ≤ l ∧ i = .int .i64 j ∧ v = .int .i64 Lj ∧ 0 ≤ Lj ∧ Lj ≤ 1048576 ∧ Hid (w.grownBy wr none ∧ InBlock wr wr R b (o + j * 9)) ∧ R.length + j = l ∧ Hid (Lj - (szBlocks R - R.length : Int) ≤ L - szBlocks xs)) (fun _ i _ => l - (intOf i).toNat)
  case atStart =>
    refine ⟨0, xs, _, Nat.zero_le _, rfl, rfl, by omega, by omega, ⟨World.grownBy.refl _ _, by simpa using IN.out⟩, by omega, ?_⟩
    show (_ : Int) ≤ _
    omega
  case round =>
    obtain ⟨j, R, Lj, hj, rfl, rfl, hj0, hj1, HR, hRl, HV⟩ := hrel
    by_cases hlt : j < l
    · obtain ⟨x, R', rfl⟩ : ∃ x R', R = x :: R' := by
        cases R with
        | nil => simp at hRl; omega
        | cons x R' => exact ⟨x, R', rfl⟩
      obtain ⟨hg, ⟨a1, l1, c1, a2, l2, c2, a3, l3, c3, a4, l4, c4, a5, l5, c5, ⟨k0, k1, k2, k3, k4, k5, k6, k7, k8⟩, hd⟩, hR2⟩ := HR.out
      rw [show o + j * 9 + 9 = o + (j + 1) * 9 by omega] at hR2
      have CC : Hid _ := szBlockT x a1 l1 c1 a2 l2 c2 a3 l3 c3 a4 l4 c4 a5 l5 c5 Lj wr hd hj0 hj1
      have FX : Hid (InBlock wr wr R' b (o + (j + 1) * 9) ∧ w.grownBy wr none) := ⟨hR2, hg⟩
      clear hd hR2 hg IN HR
      simp only [List.length_cons] at hRl
      skip
      go_wp2_with fail
      refine Calls.mono CC.out ?_
      rintro e u ⟨⟨r, he, hr⟩, hgu⟩
      subst he
      have FY : Hid (w.grownBy u none ∧ InBlock u u R' b (o + (j + 1) * 9)) := ⟨grown_trans FX.out.2 hgu, FX.out.1.le (CLe.grown hgu) (CLe.grown hgu)⟩
      have hl2 := szBlocks_len R'
      have hv := HV.out
      simp only [szBlocks, List.length_cons] at hv
      clear CC hgu FX k0 k1 k2 k3 k4 k5 k6 k7 k8 HV
      simp only []
      rcases hr with rfl | ⟨hr0, hr1⟩
      · go_wp2
        go_ret
        exact ⟨⟨-1, rfl, .inl rfl⟩, FY.out.1⟩
      · have HV2 : Hid (r - (szBlocks R' - R'.length : Int) ≤ L - szBlocks xs) := by show (_ : Int) ≤ _; omega
        clear hv
        go_wp2
        go_roundw
        case rel => exact ⟨j + 1, R', r, by omega, by go_num, rfl, by omega, by omega, FY, by omega, HV2⟩
        case measure => simp [intOf]; omega
    · obtain rfl : j = l := by omega
      obtain rfl : R = [] := List.eq_nil_of_length_eq_zero (by omega)
      have E : Hid ((Lj ≤ L - szBlocks xs) ∧ w.grownBy wr none) := ⟨by have := HV.out; simp [szBlocks] at this; omega, HR.out.1⟩
      clear HR IN HV
      go_wp2
      go_ret
      exact ⟨⟨Lj, rfl, .inr ⟨hj0, by have := E.out.1; omega⟩⟩, E.out.2⟩

set_option maxRecDepth 4000 in
set_option maxHeartbeats 4000000 in
theorem eqBlocksT (xs : List RBlock) (a a' : Option Addr) (l c c' : Nat) (w : World) (h : SlBlock w a l xs) (h' : SlBlock w a' l xs) (hs : szBlocks xs ≤ 1048576) :
    Calls Tryz.prog 31 #[.slice a l c, .slice a' l c'] w fun e u => e = .returned (.bool true) ∧ w.grownBy u none := by
  have hl := h.2.1
  have hfl := h.1
  rcases h.cases with ⟨rfl, rfl⟩ | ⟨b, o, rfl, hin, hpos⟩
  · go_enter Tryz.func31, Tryz.ntmps31
    go_wp2
    refine wp_loop_rounds 1 ?_
    rw [rounds_succ]
    go_wp2
    go_ret
    exact ⟨rfl, World.grownBy.refl _ _⟩
  rcases h'.cases with ⟨rfl, rfl⟩ | ⟨b', o', rfl, hin', -⟩
  · exact absurd hpos (by omega)
  have IN : Hid (InBlock w w xs b o ∧ InBlock w w xs b' o') := ⟨hin, hin'⟩
  clear hin hin' h h'
  go_enter Tryz.func31, Tryz.ntmps31
  go_wp2
  go_loopw [5] (fun i wr => ∃ (j : Nat) (R : List RBlock), j ≤ l ∧ i = .int .i64 j ∧ Hid (w.grownBy wr none ∧ InBlock wr wr R b (o + j * 9) ∧ InBlock wr wr R b' (o' + j * 9)) ∧ szBlocks R ≤ 1048576 ∧ R.length + j = l) (fun i _ => l - (intOf i).toNat)
  case atStart => exact ⟨0, xs, Nat.zero_le _, rfl, ⟨World.grownBy.refl _ _, by simpa using IN.out.1, by simpa using IN.out.2⟩, hs, by omega⟩
  case round =>
    obtain ⟨j, R, hj, rfl, HR, hRs, hRl⟩ := hrel
    by_cases hlt : j < l
    · obtain ⟨x, R', rfl⟩ : ∃ x R', R = x :: R' := by
        cases R with
        | nil => simp at hRl; omega
        | cons x R' => exact ⟨x, R', rfl⟩
      obtain ⟨hg, ⟨⟨a1, l1, c1, a2, l2, c2, a3, l3, c3, a4, l4, c4, a5, l5, c5, ⟨k0, k1, k2, k3, k4, k5, k6, k7, k8⟩, hd⟩, hR2⟩, ⟨⟨f1, n1, g1, f2, n2, g2, f3, n3, g3, f4, n4, g4, f5, n5, g5, ⟨m0, m1, m2, m3, m4, m5, m6, m7, m8⟩, hd2⟩, hR3⟩⟩ := HR.out
      rw [show o + j * 9 + 9 = o + (j + 1) * 9 by omega] at hR2
      rw [show o' + j * 9 + 9 = o' + (j + 1) * 9 by omega] at hR3
      obtain rfl : l1 = n1 := by have := hd.1.1; have := hd2.1.1; omega
      obtain rfl : l2 = n2 := by have := hd.2.1.1; have := hd2.2.1.1; omega
      obtain rfl : l3 = n3 := by have := hd.2.2.1.1; have := hd2.2.2.1.1; omega
      obtain rfl : l4 = n4 := by have := hd.2.2.2.1.1; have := hd2.2.2.2.1.1; omega
      obtain rfl : l5 = n5 := by have := hd.2.2.2.2.1; have := hd2.2.2.2.2.1; omega
      simp only [szBlocks] at hRs
      have gd := grown_drew (World.grownBy.refl wr none)
      have gc := CLe.grown gd
      have CC : Hid _ := eqBlockT x a1 f1 l1 c1 g1 a2 f2 l2 c2 g2 a3 f3 l3 c3 g3 a4 f4 l4 c4 g4 a5 f5 l5 c5 g5 wr.drew (hd.none gd) (hd2.none gd) (by omega)
      skip
      have TT : Hid (∀ u, wr.grownBy u none → ((u.cell? ⟨b, o + j * 9, none⟩ = some (.slice a1 l1 c1) ∧ u.cell? ⟨b, o + j * 9 + 1, none⟩ = some (.int .i64 x.argk) ∧ u.cell? ⟨b, o + j * 9 + 2, none⟩ = some (.int .i64 x.argn) ∧ u.cell? ⟨b, o + j * 9 + 3, none⟩ = some (.slice a2 l2 c2) ∧ u.cell? ⟨b, o + j * 9 + 4, none⟩ = some (.int .i64 x.resk) ∧ u.cell? ⟨b, o + j * 9 + 5, none⟩ = some (.int .i64 x.resn) ∧ u.cell? ⟨b, o + j * 9 + 6, none⟩ = some (.slice a3 l3 c3) ∧ u.cell? ⟨b, o + j * 9 + 7, none⟩ = some (.slice a4 l4 c4) ∧ u.cell? ⟨b, o + j * 9 + 8, none⟩ = some (.slice a5 l5 c5)) ∧ u.cell? ⟨b', o' + j * 9, none⟩ = some (.slice f1 l1 g1) ∧ u.cell? ⟨b', o' + j * 9 + 1, none⟩ = some (.int .i64 x.argk) ∧ u.cell? ⟨b', o' + j * 9 + 2, none⟩ = some (.int .i64 x.argn) ∧ u.cell? ⟨b', o' + j * 9 + 3, none⟩ = some (.slice f2 l2 g2) ∧ u.cell? ⟨b', o' + j * 9 + 4, none⟩ = some (.int .i64 x.resk) ∧ u.cell? ⟨b', o' + j * 9 + 5, none⟩ = some (.int .i64 x.resn) ∧ u.cell? ⟨b', o' + j * 9 + 6, none⟩ = some (.slice f3 l3 g3) ∧ u.cell? ⟨b', o' + j * 9 + 7, none⟩ = some (.slice f4 l4 g4) ∧ u.cell? ⟨b', o' + j * 9 + 8, none⟩ = some (.slice f5 l5 g5))) := fun u hu => ⟨⟨hu.cell k0 (by simp), hu.cell k1 (by simp), hu.cell k2 (by simp), hu.cell k3 (by simp), hu.cell k4 (by simp), hu.cell k5 (by simp), hu.cell k6 (by simp), hu.cell k7 (by simp), hu.cell k8 (by simp)⟩, hu.cell m0 (by simp), hu.cell m1 (by simp), hu.cell m2 (by simp), hu.cell m3 (by simp), hu.cell m4 (by simp), hu.cell m5 (by simp), hu.cell m6 (by simp), hu.cell m7 (by simp), hu.cell m8 (by simp)⟩
      have FX : Hid (w.grownBy wr.drew none ∧ InBlock wr.drew wr.drew R' b (o + (j + 1) * 9) ∧ InBlock wr.drew wr.drew R' b' (o' + (j + 1) * 9) ∧ wr.grownBy wr.drew none) := ⟨grown_trans hg gd, hR2.le gc gc, hR3.le gc gc, gd⟩
      clear hd hd2 hR2 hR3 hg IN HR gd gc k0 k1 k2 k3 k4 k5 k6 k7 k8 m0 m1 m2 m3 m4 m5 m6 m7 m8
      simp only [List.length_cons] at hRl
      go_wp2_with fail
      refine wp_region_held_drew (S := (fun u => ((u.cell? ⟨b, o + j * 9, none⟩ = some (.slice a1 l1 c1) ∧ u.cell? ⟨b, o + j * 9 + 1, none⟩ = some (.int .i64 x.argk) ∧ u.cell? ⟨b, o + j * 9 + 2, none⟩ = some (.int .i64 x.argn) ∧ u.cell? ⟨b, o + j * 9 + 3, none⟩ = some (.slice a2 l2 c2) ∧ u.cell? ⟨b, o + j * 9 + 4, none⟩ = some (.int .i64 x.resk) ∧ u.cell? ⟨b, o + j * 9 + 5, none⟩ = some (.int .i64 x.resn) ∧ u.cell? ⟨b, o + j * 9 + 6, none⟩ = some (.slice a3 l3 c3) ∧ u.cell? ⟨b, o + j * 9 + 7, none⟩ = some (.slice a4 l4 c4) ∧ u.cell? ⟨b, o + j * 9 + 8, none⟩ = some (.slice a5 l5 c5)) ∧ u.cell? ⟨b', o' + j * 9, none⟩ = some (.slice f1 l1 g1) ∧ u.cell? ⟨b', o' + j * 9 + 1, none⟩ = some (.int .i64 x.argk) ∧ u.cell? ⟨b', o' + j * 9 + 2, none⟩ = some (.int .i64 x.argn) ∧ u.cell? ⟨b', o' + j * 9 + 3, none⟩ = some (.slice f2 l2 g2) ∧ u.cell? ⟨b', o' + j * 9 + 4, none⟩ = some (.int .i64 x.resk) ∧ u.cell? ⟨b', o' + j * 9 + 5, none⟩ = some (.int .i64 x.resn) ∧ u.cell? ⟨b', o' + j * 9 + 6, none⟩ = some (.slice f3 l3 g3) ∧ u.cell? ⟨b', o' + j * 9 + 7, none⟩ = some (.slice f4 l4 g4) ∧ u.cell? ⟨b', o' + j * 9 + 8, none⟩ = some (.slice f5 l5 g5)))) (by kernel_rfl) (TT.out _ FX.out.2.2.2) (fun hH => ?_)
      generalize wr.drew = u at *
      simp only [List.size_toArray, List.length_cons, List.length_nil, Nat.reduceAdd, Array.replicate, List.replicate]
      refine wpAnyH_take (i := 0) (v := ?_) rfl (by kernel_rfl) (by kernel_rfl) (by kernel_rfl) (fun _ _ _ h => h) (Or.inl ⟨by rfl, ?_⟩) hH ?_
      rotate_left
      · (intro v hS; obtain ⟨⟨s0, s1, s2, s3, s4, s5, s6, s7, s8⟩, t0, t1, t2, t3, t4, t5, t6, t7, t8⟩ := hS; go_simp; try with_reducible rfl)
      simp only [Act.put, List.setIfInBounds_toArray, List.set_cons_zero, List.set_cons_succ, List.getElem_toArray, List.getElem_cons_succ, List.getElem_cons_zero]
      refine wpAnyH_take (i := 1) (v := ?_) rfl (by kernel_rfl) (by kernel_rfl) (by kernel_rfl) (fun _ _ _ h => h) (Or.inl ⟨by rfl, ?_⟩) hH ?_
      rotate_left
      · (intro v hS; obtain ⟨⟨s0, s1, s2, s3, s4, s5, s6, s7, s8⟩, t0, t1, t2, t3, t4, t5, t6, t7, t8⟩ := hS; go_simp; try with_reducible rfl)
      simp only [Act.put, List.setIfInBounds_toArray, List.set_cons_zero, List.set_cons_succ, List.getElem_toArray, List.getElem_cons_succ, List.getElem_cons_zero]
      refine wpAnyH_take (i := 2) (v := ?_) rfl (by kernel_rfl) (by kernel_rfl) (by kernel_rfl) (fun _ _ _ h => h) (Or.inl ⟨by rfl, ?_⟩) hH ?_
      rotate_left
      · (intro v hS; obtain ⟨⟨s0, s1, s2, s3, s4, s5, s6, s7, s8⟩, t0, t1, t2, t3, t4, t5, t6, t7, t8⟩ := hS; go_simp; try with_reducible rfl)
      simp only [Act.put, List.setIfInBounds_toArray, List.set_cons_zero, List.set_cons_succ, List.getElem_toArray, List.getElem_cons_succ, List.getElem_cons_zero]
      refine wpAnyH_take (i := 3) (v := ?_) rfl (by kernel_rfl) (by kernel_rfl) (by kernel_rfl) (fun _ _ _ h => h) (Or.inl ⟨by rfl, ?_⟩) hH ?_
      rotate_left
      · (intro v hS; obtain ⟨⟨s0, s1, s2, s3, s4, s5, s6, s7, s8⟩, t0, t1, t2, t3, t4, t5, t6, t7, t8⟩ := hS; go_simp; try with_reducible rfl)
      simp only [Act.put, List.setIfInBounds_toArray, List.set_cons_zero, List.set_cons_succ, List.getElem_toArray, List.getElem_cons_succ, List.getElem_cons_zero]
      refine wpAnyH_take (i := 4) (v := ?_) rfl (by kernel_rfl) (by kernel_rfl) (by kernel_rfl) (fun _ _ _ h => h) (Or.inl ⟨by rfl, ?_⟩) hH ?_
      rotate_left
      · (intro v hS; obtain ⟨⟨s0, s1, s2, s3, s4, s5, s6, s7, s8⟩, t0, t1, t2, t3, t4, t5, t6, t7, t8⟩ := hS; go_simp; try with_reducible rfl)
      simp only [Act.put, List.setIfInBounds_toArray, List.set_cons_zero, List.set_cons_succ, List.getElem_toArray, List.getElem_cons_succ, List.getElem_cons_zero]
      refine wpAnyH_take (i := 5) (v := ?_) rfl (by kernel_rfl) (by kernel_rfl) (by kernel_rfl) (fun _ _ _ h => h) (Or.inl ⟨by rfl, ?_⟩) hH ?_
      rotate_left
      · (intro v hS; obtain ⟨⟨s0, s1, s2, s3, s4, s5, s6, s7, s8⟩, t0, t1, t2, t3, t4, t5, t6, t7, t8⟩ := hS; go_simp; try with_reducible rfl)
      simp only [Act.put, List.setIfInBounds_toArray, List.set_cons_zero, List.set_cons_succ, List.getElem_toArray, List.getElem_cons_succ, List.getElem_cons_zero]
      refine wpAnyH_take (i := 6) (v := ?_) rfl (by kernel_rfl) (by kernel_rfl) (by kernel_rfl) (fun _ _ _ h => h) (Or.inl ⟨by rfl, ?_⟩) hH ?_
      rotate_left
      · (intro v hS; obtain ⟨⟨s0, s1, s2, s3, s4, s5, s6, s7, s8⟩, t0, t1, t2, t3, t4, t5, t6, t7, t8⟩ := hS; go_simp; try with_reducible rfl)
      simp only [Act.put, List.setIfInBounds_toArray, List.set_cons_zero, List.set_cons_succ, List.getElem_toArray, List.getElem_cons_succ, List.getElem_cons_zero]
      refine wpAnyH_take (i := 7) (v := ?_) rfl (by kernel_rfl) (by kernel_rfl) (by kernel_rfl) (fun _ _ _ h => h) (Or.inl ⟨by rfl, ?_⟩) hH ?_
      rotate_left
      · (intro v hS; obtain ⟨⟨s0, s1, s2, s3, s4, s5, s6, s7, s8⟩, t0, t1, t2, t3, t4, t5, t6, t7, t8⟩ := hS; go_simp; try with_reducible rfl)
      simp only [Act.put, List.setIfInBounds_toArray, List.set_cons_zero, List.set_cons_succ, List.getElem_toArray, List.getElem_cons_succ, List.getElem_cons_zero]
      refine wpAnyH_ready (rs := [8]) (by kernel_rfl) (by simp) ?_
      refine AllReadyH.cons rfl (fun K hK => ?_) AllReadyH.nil
      go_simp
      refine Calls.mono CC.out ?_
      rintro e u2 ⟨he, hgu⟩
      subst he
      refine hK.out _ _ (TT.out _ (grown_trans FX.out.2.2.2 hgu)) (fun hH2 => ?_)
      clear hK K hH
      have hH := hH2
      clear hH2
      have FY : Hid (w.grownBy u2 none ∧ InBlock u2 u2 R' b (o + (j + 1) * 9) ∧ InBlock u2 u2 R' b' (o' + (j + 1) * 9)) := ⟨grown_trans FX.out.1 hgu, FX.out.2.1.le (CLe.grown hgu) (CLe.grown hgu), FX.out.2.2.1.le (CLe.grown hgu) (CLe.grown hgu)⟩
      clear FX hgu CC TT
      simp only [Act.put, List.setIfInBounds_toArray, List.set_cons_zero, List.set_cons_succ, List.getElem_toArray, List.getElem_cons_succ, List.getElem_cons_zero]
      refine wpAnyH_take (i := 9) (v := ?_) rfl (by kernel_rfl) (by kernel_rfl) (by kernel_rfl) (fun _ _ _ h => h) (Or.inl ⟨by rfl, ?_⟩) hH ?_
      rotate_left
      · (intro v hS; go_simp; try with_reducible rfl)
      simp only [Act.put, List.setIfInBounds_toArray, List.set_cons_zero, List.set_cons_succ, List.getElem_toArray, List.getElem_cons_succ, List.getElem_cons_zero]
      refine wpAnyH_done (by kernel_rfl) ?_ _
      go_wp2
      go_roundw
      case rel => exact ⟨j + 1, R', by omega, by go_num, FY, by omega, by omega⟩
      case measure => simp [intOf]; omega
    · obtain rfl : j = l := by omega
      have E : Hid (w.grownBy wr none) := HR.out.1
      clear HR IN
      go_wp2
      go_ret
      exact ⟨rfl, E.out⟩

theorem BlkN.putsBlock {w : World} {t : TypeId} {g k : Nat} (h : BlkN w t g k) (j : Nat) (hj : j + 8 < k) (v0 v1 v2 v3 v4 v5 v6 v7 v8 : Value) : BlkN (((((((((w.setCell ⟨g, j, none⟩ (v0)).setCell ⟨g, j + 1, none⟩ (v1)).setCell ⟨g, j + 2, none⟩ (v2)).setCell ⟨g, j + 3, none⟩ (v3)).setCell ⟨g, j + 4, none⟩ (v4)).setCell ⟨g, j + 5, none⟩ (v5)).setCell ⟨g, j + 6, none⟩ (v6)).setCell ⟨g, j + 7, none⟩ (v7)).setCell ⟨g, j + 8, none⟩ (v8)) t g k ∧ w.grownBy (((((((((w.setCell ⟨g, j, none⟩ (v0)).setCell ⟨g, j + 1, none⟩ (v1)).setCell ⟨g, j + 2, none⟩ (v2)).setCell ⟨g, j + 3, none⟩ (v3)).setCell ⟨g, j + 4, none⟩ (v4)).setCell ⟨g, j + 5, none⟩ (v5)).setCell ⟨g, j + 6, none⟩ (v6)).setCell ⟨g, j + 7, none⟩ (v7)).setCell ⟨g, j + 8, none⟩ (v8)) (some g) ∧ ((((((((((w.setCell ⟨g, j, none⟩ (v0)).setCell ⟨g, j + 1, none⟩ (v1)).setCell ⟨g, j + 2, none⟩ (v2)).setCell ⟨g, j + 3, none⟩ (v3)).setCell ⟨g, j + 4, none⟩ (v4)).setCell ⟨g, j + 5, none⟩ (v5)).setCell ⟨g, j + 6, none⟩ (v6)).setCell ⟨g, j + 7, none⟩ (v7)).setCell ⟨g, j + 8, none⟩ (v8)).cell? ⟨g, j, none⟩ = some v0 ∧ (((((((((w.setCell ⟨g, j, none⟩ (v0)).setCell ⟨g, j + 1, none⟩ (v1)).setCell ⟨g, j + 2, none⟩ (v2)).setCell ⟨g, j + 3, none⟩ (v3)).setCell ⟨g, j + 4, none⟩ (v4)).setCell ⟨g, j + 5, none⟩ (v5)).setCell ⟨g, j + 6, none⟩ (v6)).setCell ⟨g, j + 7, none⟩ (v7)).setCell ⟨g, j + 8, none⟩ (v8)).cell? ⟨g, j + 1, none⟩ = some v1 ∧ (((((((((w.setCell ⟨g, j, none⟩ (v0)).setCell ⟨g, j + 1, none⟩ (v1)).setCell ⟨g, j + 2, none⟩ (v2)).setCell ⟨g, j + 3, none⟩ (v3)).setCell ⟨g, j + 4, none⟩ (v4)).setCell ⟨g, j + 5, none⟩ (v5)).setCell ⟨g, j + 6, none⟩ (v6)).setCell ⟨g, j + 7, none⟩ (v7)).setCell ⟨g, j + 8, none⟩ (v8)).cell? ⟨g, j + 2, none⟩ = some v2 ∧ (((((((((w.setCell ⟨g, j, none⟩ (v0)).setCell ⟨g, j + 1, none⟩ (v1)).setCell ⟨g, j + 2, none⟩ (v2)).setCell ⟨g, j + 3, none⟩ (v3)).setCell ⟨g, j + 4, none⟩ (v4)).setCell ⟨g, j + 5, none⟩ (v5)).setCell ⟨g, j + 6, none⟩ (v6)).setCell ⟨g, j + 7, none⟩ (v7)).setCell ⟨g, j + 8, none⟩ (v8)).cell? ⟨g, j + 3, none⟩ = some v3 ∧ (((((((((w.setCell ⟨g, j, none⟩ (v0)).setCell ⟨g, j + 1, none⟩ (v1)).setCell ⟨g, j + 2, none⟩ (v2)).setCell ⟨g, j + 3, none⟩ (v3)).setCell ⟨g, j + 4, none⟩ (v4)).setCell ⟨g, j + 5, none⟩ (v5)).setCell ⟨g, j + 6, none⟩ (v6)).setCell ⟨g, j + 7, none⟩ (v7)).setCell ⟨g, j + 8, none⟩ (v8)).cell? ⟨g, j + 4, none⟩ = some v4 ∧ (((((((((w.setCell ⟨g, j, none⟩ (v0)).setCell ⟨g, j + 1, none⟩ (v1)).setCell ⟨g, j + 2, none⟩ (v2)).setCell ⟨g, j + 3, none⟩ (v3)).setCell ⟨g, j + 4, none⟩ (v4)).setCell ⟨g, j + 5, none⟩ (v5)).setCell ⟨g, j + 6, none⟩ (v6)).setCell ⟨g, j + 7, none⟩ (v7)).setCell ⟨g, j + 8, none⟩ (v8)).cell? ⟨g, j + 5, none⟩ = some v5 ∧ (((((((((w.setCell ⟨g, j, none⟩ (v0)).setCell ⟨g, j + 1, none⟩ (v1)).setCell ⟨g, j + 2, none⟩ (v2)).setCell ⟨g, j + 3, none⟩ (v3)).setCell ⟨g, j + 4, none⟩ (v4)).setCell ⟨g, j + 5, none⟩ (v5)).setCell ⟨g, j + 6, none⟩ (v6)).setCell ⟨g, j + 7, none⟩ (v7)).setCell ⟨g, j + 8, none⟩ (v8)).cell? ⟨g, j + 6, none⟩ = some v6 ∧ (((((((((w.setCell ⟨g, j, none⟩ (v0)).setCell ⟨g, j + 1, none⟩ (v1)).setCell ⟨g, j + 2, none⟩ (v2)).setCell ⟨g, j + 3, none⟩ (v3)).setCell ⟨g, j + 4, none⟩ (v4)).setCell ⟨g, j + 5, none⟩ (v5)).setCell ⟨g, j + 6, none⟩ (v6)).setCell ⟨g, j + 7, none⟩ (v7)).setCell ⟨g, j + 8, none⟩ (v8)).cell? ⟨g, j + 7, none⟩ = some v7 ∧ (((((((((w.setCell ⟨g, j, none⟩ (v0)).setCell ⟨g, j + 1, none⟩ (v1)).setCell ⟨g, j + 2, none⟩ (v2)).setCell ⟨g, j + 3, none⟩ (v3)).setCell ⟨g, j + 4, none⟩ (v4)).setCell ⟨g, j + 5, none⟩ (v5)).setCell ⟨g, j + 6, none⟩ (v6)).setCell ⟨g, j + 7, none⟩ (v7)).setCell ⟨g, j + 8, none⟩ (v8)).cell? ⟨g, j + 8, none⟩ = some v8) ∧ ∀ i, i < j → (((((((((w.setCell ⟨g, j, none⟩ (v0)).setCell ⟨g, j + 1, none⟩ (v1)).setCell ⟨g, j + 2, none⟩ (v2)).setCell ⟨g, j + 3, none⟩ (v3)).setCell ⟨g, j + 4, none⟩ (v4)).setCell ⟨g, j + 5, none⟩ (v5)).setCell ⟨g, j + 6, none⟩ (v6)).setCell ⟨g, j + 7, none⟩ (v7)).setCell ⟨g, j + 8, none⟩ (v8)).cell? ⟨g, i, none⟩ = w.cell? ⟨g, i, none⟩ := by
  obtain ⟨h0, k0, c0, o0⟩ := h.set (j) (by omega) v0
  obtain ⟨h1, k1, c1, o1⟩ := h0.set (j + 1) (by omega) v1
  obtain ⟨h2, k2, c2, o2⟩ := h1.set (j + 2) (by omega) v2
  obtain ⟨h3, k3, c3, o3⟩ := h2.set (j + 3) (by omega) v3
  obtain ⟨h4, k4, c4, o4⟩ := h3.set (j + 4) (by omega) v4
  obtain ⟨h5, k5, c5, o5⟩ := h4.set (j + 5) (by omega) v5
  obtain ⟨h6, k6, c6, o6⟩ := h5.set (j + 6) (by omega) v6
  obtain ⟨h7, k7, c7, o7⟩ := h6.set (j + 7) (by omega) v7
  obtain ⟨h8, k8, c8, o8⟩ := h7.set (j + 8) (by omega) v8
  exact ⟨h8, grown_trans (grown_trans (grown_trans (grown_trans (grown_trans (grown_trans (grown_trans (grown_trans (k0) k1) k2) k3) k4) k5) k6) k7) k8, ⟨(o8 j (by omega)).trans ((o7 j (by omega)).trans ((o6 j (by omega)).trans ((o5 j (by omega)).trans ((o4 j (by omega)).trans ((o3 j (by omega)).trans ((o2 j (by omega)).trans ((o1 j (by omega)).trans (c0)))))))), (o8 (j + 1) (by omega)).trans ((o7 (j + 1) (by omega)).trans ((o6 (j + 1) (by omega)).trans ((o5 (j + 1) (by omega)).trans ((o4 (j + 1) (by omega)).trans ((o3 (j + 1) (by omega)).trans ((o2 (j + 1) (by omega)).trans (c1))))))), (o8 (j + 2) (by omega)).trans ((o7 (j + 2) (by omega)).trans ((o6 (j + 2) (by omega)).trans ((o5 (j + 2) (by omega)).trans ((o4 (j + 2) (by omega)).trans ((o3 (j + 2) (by omega)).trans (c2)))))), (o8 (j + 3) (by omega)).trans ((o7 (j + 3) (by omega)).trans ((o6 (j + 3) (by omega)).trans ((o5 (j + 3) (by omega)).trans ((o4 (j + 3) (by omega)).trans (c3))))), (o8 (j + 4) (by omega)).trans ((o7 (j + 4) (by omega)).trans ((o6 (j + 4) (by omega)).trans ((o5 (j + 4) (by omega)).trans (c4)))), (o8 (j + 5) (by omega)).trans ((o7 (j + 5) (by omega)).trans ((o6 (j + 5) (by omega)).trans (c5))), (o8 (j + 6) (by omega)).trans ((o7 (j + 6) (by omega)).trans (c6)), (o8 (j + 7) (by omega)).trans (c7), c8⟩, fun i hi => (o8 i (by omega)).trans ((o7 i (by omega)).trans ((o6 i (by omega)).trans ((o5 i (by omega)).trans ((o4 i (by omega)).trans ((o3 i (by omega)).trans ((o2 i (by omega)).trans ((o1 i (by omega)).trans (o0 i (by omega)))))))))⟩

theorem infoSBlock : (Tryz.prog.info? 63).map (fun i => (i.zero, i.size, i.bytes)) = some (some (.agg #[.slice none 0 0, .int .i64 0, .int .i64 0, .slice none 0 0, .int .i64 0, .int .i64 0, .slice none 0 0, .slice none 0 0, .slice none 0 0]), 9, 152) := by kernel_rfl

theorem makeSBlock (n : Nat) (hn : n ≤ 4194304) (w : World) : (Instr.makeSlice 30 (.int .i64 (n : Int)) (.int .i64 (n : Int))).run Tryz.prog w = .ok (.slice (some ⟨w.heap.size, 0, none⟩) n n) (w.alloc (.cells (madeCells #[.slice none 0 0, .int .i64 0, .int .i64 0, .slice none 0 0, .int .i64 0, .int .i64 0, .slice none 0 0, .slice none 0 0, .slice none 0 0] (n * 9)) 63)) := by
  obtain ⟨i0, hi, hz0, hz1, hz2⟩ := info_parts infoSBlock
  have h := run_make (P := Tryz.prog) (w := w) 30 63 i0 _ Tryz.underlying30 hi hz0 .i64 .i64 (n : Int) (n : Int) (by omega) (by omega) (by rw [hz2]; omega) (by omega)
  rw [hz1] at h
  simpa [Value.cells] using h
theorem makeSBlock0 (w : World) : (Instr.makeSlice 30 (.int .i64 0) (.int .i64 0)).run Tryz.prog w = .ok (.slice (some ⟨w.heap.size, 0, none⟩) 0 0) (w.alloc (.cells (madeCells #[.slice none 0 0, .int .i64 0, .int .i64 0, .slice none 0 0, .int .i64 0, .int .i64 0, .slice none 0 0, .slice none 0 0, .slice none 0 0] 0) 63)) := makeSBlock 0 (by omega) w
theorem madeSBlock_blk (w : World) (n : Nat) : BlkN (w.alloc (.cells (madeCells #[.slice none 0 0, .int .i64 0, .int .i64 0, .slice none 0 0, .int .i64 0, .int .i64 0, .slice none 0 0, .slice none 0 0, .slice none 0 0] (n * 9)) 63)) 63 w.heap.size (n * 9) := ⟨_, heap_alloc_new w _, by simp [madeCells]⟩

set_option maxRecDepth 4000 in
set_option maxHeartbeats 4000000 in
theorem toBlocksT (xs : List RBlock) (a : Option Addr) (l c : Nat) (w : World) (h : SlBlock w a l xs) (hs : szBlocks xs ≤ 1048576) :
    Calls Tryz.prog 28 #[.slice a l c] w fun e u => ∃ a' c', e = .returned (.slice a' l c') ∧ w.grownBy u none ∧ SlBlock (hideZ u w.heap.size) a' l xs := by
  have hlen := szBlocks_len xs
  have hl := h.2.1
  have hfl := h.1
  rcases h.cases with ⟨rfl, rfl⟩ | ⟨b, o, rfl, hin, hpos⟩
  · have hmk := makeSBlock0
    go_enter Tryz.func28, Tryz.ntmps28
    go_wp2
    refine wp_loop_rounds 1 ?_
    rw [rounds_succ]
    go_wp2
    go_ret
    exact ⟨_, _, rfl, World.grownBy_alloc _ _ _, ⟨rfl, by omega, .inl rfl⟩⟩
  have hmk := makeSBlock l (by omega)
  have hb0 := madeSBlock_blk w l
  have IN : Hid (InBlock w w xs b o) := hin
  have HB : Hid _ := hb0
  clear hin h hb0
  skip
  go_enter Tryz.func28, Tryz.ntmps28
  go_wp2
  go_loopw [4] (fun i wr => ∃ (j : Nat) (P R : List RBlock), j ≤ l ∧ i = .int .i64 j ∧ P.length = j ∧ R.length + j = l ∧ szBlocks R ≤ 1048576 ∧ Hid (w.grownBy wr none ∧ InBlock w w R b (o + j * 9) ∧ BlkN wr 63 w.heap.size (l * 9) ∧ InBlock wr (hideZ wr (w.heap.size + 1)) P w.heap.size 0 ∧ P ++ R = xs)) (fun i _ => l - (intOf i).toNat)
  case atStart => exact ⟨0, [], xs, Nat.zero_le _, rfl, rfl, by omega, hs, World.grownBy_alloc _ _ _, by simpa using IN.out, HB.out, trivial, rfl⟩
  case round =>
    obtain ⟨j, P, R, hj, rfl, hPl, hRl, hRs, HR⟩ := hrel
    by_cases hlt : j < l
    · obtain ⟨x, R', rfl⟩ : ∃ x R', R = x :: R' := by
        cases R with
        | nil => simp at hRl; omega
        | cons x R' => exact ⟨x, R', rfl⟩
      obtain ⟨hg, ⟨⟨a1, l1, c1, a2, l2, c2, a3, l3, c3, a4, l4, c4, a5, l5, c5, ⟨k0, k1, k2, k3, k4, k5, k6, k7, k8⟩, hd⟩, hR2⟩, hB, hP, hcs⟩ := HR.out
      rw [show o + j * 9 + 9 = o + (j + 1) * 9 by omega] at hR2
      simp only [szBlocks] at hRs
      simp only [List.length_cons] at hRl
      have k0 := hg.cell k0 (by simp)
      have k1 := hg.cell k1 (by simp)
      have k2 := hg.cell k2 (by simp)
      have k3 := hg.cell k3 (by simp)
      have k4 := hg.cell k4 (by simp)
      have k5 := hg.cell k5 (by simp)
      have k6 := hg.cell k6 (by simp)
      have k7 := hg.cell k7 (by simp)
      have k8 := hg.cell k8 (by simp)
      skip
      have CC : Hid _ := toBlockT x a1 l1 c1 a2 l2 c2 a3 l3 c3 a4 l4 c4 a5 l5 c5 wr (hd.none hg) (by omega)
      have FX : Hid (w.grownBy wr none ∧ InBlock w w R' b (o + (j + 1) * 9) ∧ BlkN wr 63 w.heap.size (l * 9) ∧ InBlock wr (hideZ wr (w.heap.size + 1)) P w.heap.size 0 ∧ (P ++ [x]) ++ R' = xs) := ⟨hg, hR2, hB, hP, by rw [List.append_assoc]; exact hcs⟩
      clear hd hR2 hg hB hP hcs IN HR hmk HB
      go_wp2_with fail
      refine Calls.mono CC.out ?_
      rintro e u ⟨t1, w1, t2, w2, t3, w3, t4, w4, t5, w5, he, hgu, hr⟩
      subst he
      have hBu := FX.out.2.2.1.of (hgu.block _ FX.out.2.2.1.lt (by simp))
      obtain ⟨q0, qq0⟩ := hBu.has (j * 9) (by omega)
      have ff0 := hBu.free (j * 9)
      obtain ⟨q1, qq1⟩ := hBu.has (j * 9 + 1) (by omega)
      have ff1 := hBu.free (j * 9 + 1)
      obtain ⟨q2, qq2⟩ := hBu.has (j * 9 + 2) (by omega)
      have ff2 := hBu.free (j * 9 + 2)
      obtain ⟨q3, qq3⟩ := hBu.has (j * 9 + 3) (by omega)
      have ff3 := hBu.free (j * 9 + 3)
      obtain ⟨q4, qq4⟩ := hBu.has (j * 9 + 4) (by omega)
      have ff4 := hBu.free (j * 9 + 4)
      obtain ⟨q5, qq5⟩ := hBu.has (j * 9 + 5) (by omega)
      have ff5 := hBu.free (j * 9 + 5)
      obtain ⟨q6, qq6⟩ := hBu.has (j * 9 + 6) (by omega)
      have ff6 := hBu.free (j * 9 + 6)
      obtain ⟨q7, qq7⟩ := hBu.has (j * 9 + 7) (by omega)
      have ff7 := hBu.free (j * 9 + 7)
      obtain ⟨q8, qq8⟩ := hBu.has (j * 9 + 8) (by omega)
      have ff8 := hBu.free (j * 9 + 8)
      have FY : Hid (BlkN u 63 w.heap.size (l * 9) ∧ wr.grownBy u none ∧ RdBlock (hideZ u wr.heap.size) x t1 l1 t2 l2 t3 l3 t4 l4 t5 l5) := ⟨hBu, hgu, hr⟩
      clear CC hgu hr hBu k0 k1 k2 k3 k4 k5 k6 k7 k8
      simp only []
      go_wp2
      obtain ⟨hg, hR2, hB, hP, hcs⟩ := FX.out
      obtain ⟨hBu, hgu, hr⟩ := FY.out
      have hsz := hB.lt
      obtain ⟨hB3, hk3, tq, hoth⟩ := hBu.putsBlock (j * 9) (by omega) (.slice t1 l1 w1) (.int .i64 x.argk) (.int .i64 x.argn) (.slice t2 l2 w2) (.int .i64 x.resk) (.int .i64 x.resn) (.slice t3 l3 w3) (.slice t4 l4 w4) (.slice t5 l5 w5)
      have hfx : ∀ i, w.heap.size + 1 ≤ i → i < wr.heap.size → _ = wr.heap[i]? := fun i h1 h2 => (hk3.block i (Nat.lt_of_lt_of_le h2 hgu.size) (by simp; omega)).trans (hgu.block i h2 (by simp))
      have hfu : ∀ i, wr.heap.size ≤ i → i < u.heap.size → _ = u.heap[i]? := fun i h1 h2 => hk3.block i h2 (by simp; omega)
      have hP2 := hP.move (b' := w.heap.size) (off' := 0) (fun i v hi hv => (hoth (0 + i) (by rw [hPl] at hi; omega)).trans (hgu.cell hv (by simp))) (CLe.hidz (Nat.le_refl _) hfx)
      have cl := CLe.hidz (lo' := w.heap.size + 1) (by omega) hfu
      have hQ := hP2.app (Q := [x]) ⟨⟨t1, l1, w1, t2, l2, w2, t3, l3, w3, t4, l4, w4, t5, l5, w5, ⟨by rw [hPl, Nat.zero_add]; exact tq.1, by rw [hPl, Nat.zero_add]; exact tq.2.1, by rw [hPl, Nat.zero_add]; exact tq.2.2.1, by rw [hPl, Nat.zero_add]; exact tq.2.2.2.1, by rw [hPl, Nat.zero_add]; exact tq.2.2.2.2.1, by rw [hPl, Nat.zero_add]; exact tq.2.2.2.2.2.1, by rw [hPl, Nat.zero_add]; exact tq.2.2.2.2.2.2.1, by rw [hPl, Nat.zero_add]; exact tq.2.2.2.2.2.2.2.1, by rw [hPl, Nat.zero_add]; exact tq.2.2.2.2.2.2.2.2⟩, hr.le cl⟩, trivial⟩
      go_roundw
      case rel => exact ⟨j + 1, P ++ [x], R', by omega, by go_num, by simp [hPl], by omega, by omega, grown_into (grown_trans hg hgu) hk3 (Nat.le_refl _), hR2, hB3, hQ, hcs⟩
      case measure => simp [intOf]; omega
    · obtain rfl : j = l := by omega
      obtain rfl : R = [] := List.eq_nil_of_length_eq_zero (by omega)
      obtain ⟨hg, -, hB, hP, hcs⟩ := HR.out
      rw [List.append_nil] at hcs
      subst hcs
      have FQ : Hid (w.grownBy wr none ∧ SlBlock (hideZ wr w.heap.size) (some ⟨w.heap.size, 0, none⟩) j P) := ⟨hg, hPl, by omega, .inr ⟨_, _, rfl, hP.move (fun i v hi hv => (hideZ_cell (Nat.le_refl _) hB).trans hv) (CLe.hidz (Nat.le_succ _) (fun _ _ _ => rfl))⟩⟩
      clear hg hB hP HR IN HB
      go_wp2
      go_ret
      exact ⟨_, _, rfl, FQ.out.1, FQ.out.2⟩
end Go.Proofs.YtpdkgmagjhibkaaGreatDoor.By
