/-
  How great trees of values are. No statement is proved here.
-/
import Derived.Test.YtpmndefmibnaeaaDoorVB
import Derived.Deep.RegionHeld
namespace Go.Proofs.YtpmndefmibnaeaaDoor.By
open Go.RowKit
set_option linter.unusedVariables false
set_option linter.unusedSimpArgs false

def SzS (m : Nat) : Prop := ∀ (xs : V) (a : Option Addr) (l c : Nat) (L : Int) (w : World), xs.size ≤ m → SlVal w a l xs → 0 ≤ L → L ≤ 1048576 →
  Calls Tryd.prog 6 #[.slice a l c, .int .i64 L] w fun e u => SzW L (xs.size) e ∧ w.grownBy u none
def SzT (m : Nat) : Prop := ∀ (x : RVal) (a1 : Option Addr) (l1 c1 : Nat) (a2 : Option Addr) (l2 c2 : Nat) (L : Int) (w : World), x.list.size ≤ m → RdVal w x a1 l1 a2 l2 → 0 ≤ L → L ≤ 1048576 →
  Calls Tryd.prog 5 #[.agg #[.int .i64 x.k, .int .i64 x.n, .slice a1 l1 c1, .slice a2 l2 c2], .int .i64 L] w fun e u => SzW L (szVal x) e ∧ w.grownBy u none

set_option maxRecDepth 4000 in
set_option maxHeartbeats 4000000 in
theorem szT_of (m : Nat) (hS : SzS m) : SzT m := by
  intro x a1 l1 c1 a2 l2 c2 L w hm h h0 h1
  have g0 := World.grownBy_alloc w (.cells #[.int .i64 x.k, .int .i64 x.n, .slice a1 l1 c1, .slice a2 l2 c2] 25) none
  have b0 := heap_alloc_new w (.cells #[.int .i64 x.k, .int .i64 x.n, .slice a1 l1 c1, .slice a2 l2 c2] 25)
  have HS : Hid (SzS m) := hS
  clear hS
  have HN : Hid (∀ u, w.grownBy u none → RdVal u x a1 l1 a2 l2) := fun u hu => h.none hu
  clear h
  have L0 : Hid (w.grownBy _ none ∧ _ = some (Obj.cells #[.int .i64 x.k, .int .i64 x.n, .slice a1 l1 c1, .slice a2 l2 c2] 25)) := ⟨g0, b0⟩
  have C0 : Hid _ := szByW a1 l1 c1 (x.text) L _ ((HN.out _ g0).1) h0 h1
  obtain ⟨⟨y0, y1, y2, y3⟩, -⟩ := blkVal b0
  clear g0 b0
  go_enter Tryd.func5, Tryd.ntmps5
  go_wp2_with fail
  refine Calls.mono C0.out ?_
  rintro e u0 ⟨⟨r0, he, hr⟩, hg⟩
  subst he
  have L1 : Hid (w.grownBy u0 none ∧ u0.heap[w.heap.size]? = some (Obj.cells #[.int .i64 x.k, .int .i64 x.n, .slice a1 l1 c1, .slice a2 l2 c2] 25)) := ⟨grown_trans L0.out.1 hg, (hg.block _ (lt_of_block L0.out.2) (by simp)).trans L0.out.2⟩
  clear C0 hg L0 y0 y1 y2 y3
  simp only []
  rcases hr with rfl | ⟨hr0, hs0⟩
  · go_wp2
    go_ret
    exact ⟨⟨-1, rfl, .inl rfl⟩, L1.out.1⟩
  have C1 : Hid _ := HS.out (x.list) a2 l2 c2 r0 u0 hm ((HN.out _ L1.out.1).2) hr0 (by omega)
  obtain ⟨⟨y0, y1, y2, y3⟩, -⟩ := blkVal L1.out.2
  go_wp2_with fail
  refine Calls.mono C1.out ?_
  rintro e u1 ⟨⟨r1, he, hr⟩, hg⟩
  subst he
  have L2 : Hid (w.grownBy u1 none ∧ u1.heap[w.heap.size]? = some (Obj.cells #[.int .i64 x.k, .int .i64 x.n, .slice a1 l1 c1, .slice a2 l2 c2] 25)) := ⟨grown_trans L1.out.1 hg, (hg.block _ (lt_of_block L1.out.2) (by simp)).trans L1.out.2⟩
  clear C1 hg L1 y0 y1 y2 y3
  simp only []
  rcases hr with rfl | ⟨hr1, hs1⟩
  · go_wp2
    go_ret
    exact ⟨⟨-1, rfl, .inl rfl⟩, L2.out.1⟩
  go_wp2
  go_ret
  exact ⟨⟨r1, rfl, .inr ⟨hr1, by unfold szVal; omega⟩⟩, L2.out.1⟩

set_option maxRecDepth 4000 in
set_option maxHeartbeats 4000000 in
theorem szS_of (m : Nat) (hT : ∀ k, k < m → SzT k) : SzS m := by
  intro xs a l c L w hm h h0 h1
  have HT : Hid (∀ k, k < m → SzT k) := hT
  clear hT
  have hlen := V.len_le xs
  have hl := h.2.1
  have hfl := h.1
  by_cases hneg : L - (l : Int) < 0
  · go_enter Tryd.func6, Tryd.ntmps6
    go_wp2
    go_ret
    exact ⟨⟨-1, rfl, .inl rfl⟩, World.grownBy.refl _ _⟩
  rcases h.cases with ⟨rfl, rfl⟩ | ⟨b, o, rfl, hin, hpos⟩
  · go_enter Tryd.func6, Tryd.ntmps6
    go_wp2
    refine wp_loop_rounds 1 ?_
    rw [rounds_succ]
    go_wp2
    go_ret
    exact ⟨⟨_, rfl, .inr ⟨by omega, by simp [V.size]⟩⟩, World.grownBy.refl _ _⟩
  have IN : Hid (InVal w w xs b o) := hin
  clear hin h
  go_enter Tryd.func6, Tryd.ntmps6
  go_wp2
  go_loopw [1, 5] (fun v i wr => ∃ (j : Nat) (R : V) (Lj : Int), j ≤ l ∧ i = .int .i64 j ∧ v = .int .i64 Lj ∧ 0 ≤ Lj ∧ Lj ≤ 1048576 ∧ R.size ≤ m ∧ Hid (w.grownBy wr none ∧ InVal wr wr R b (o + j * 4)) ∧ R.len + j = l ∧ Hid (Lj - (R.size - R.len : Int) ≤ L - xs.size)) (fun _ i _ => l - (intOf i).toNat)
  case atStart =>
    refine ⟨0, xs, _, Nat.zero_le _, rfl, rfl, by omega, by omega, hm, ⟨World.grownBy.refl _ _, by simpa using IN.out⟩, by omega, ?_⟩
    show (_ : Int) ≤ _
    omega
  case round =>
    obtain ⟨j, R, Lj, hj, rfl, rfl, hj0, hj1, hRm, HR, hRl, HV⟩ := hrel
    by_cases hlt : j < l
    · obtain ⟨x, R', rfl⟩ : ∃ x R', R = V.cn x R' := by
        cases R with
        | nil => simp only [V.len] at hRl; omega
        | cons k n t d R' => exact ⟨⟨k, n, t, d⟩, R', rfl⟩
      obtain ⟨hg, hR0⟩ := HR.out
      obtain ⟨a1, l1, c1, a2, l2, c2, ⟨k0, k1, k2, k3⟩, hd, hR2⟩ := hR0.cn
      rw [show o + j * 4 + 4 = o + (j + 1) * 4 by omega] at hR2
      have CC : Hid _ := HT.out x.list.size (by simp only [V.size_cn, szVal] at hRm; omega) x a1 l1 c1 a2 l2 c2 Lj wr (Nat.le_refl _) hd hj0 hj1
      have hRm2 : R'.size ≤ m := by simp only [V.size_cn] at hRm; omega
      clear hR0
      have FX : Hid (InVal wr wr R' b (o + (j + 1) * 4) ∧ w.grownBy wr none) := ⟨hR2, hg⟩
      clear hd hR2 hg IN HR
      simp only [V.len_cn] at hRl
      skip
      go_wp2_with fail
      refine Calls.mono CC.out ?_
      rintro e u ⟨⟨r, he, hr⟩, hgu⟩
      subst he
      have FY : Hid (w.grownBy u none ∧ InVal u u R' b (o + (j + 1) * 4)) := ⟨grown_trans FX.out.2 hgu, FX.out.1.le (CLe.grown hgu) (CLe.grown hgu)⟩
      have hl2 := V.len_le R'
      have hv := HV.out
      simp only [V.size_cn, V.len_cn] at hv
      clear CC hgu FX k0 k1 k2 k3 HV
      simp only []
      rcases hr with rfl | ⟨hr0, hr1⟩
      · go_wp2
        go_ret
        exact ⟨⟨-1, rfl, .inl rfl⟩, FY.out.1⟩
      · have HV2 : Hid (r - (R'.size - R'.len : Int) ≤ L - xs.size) := by show (_ : Int) ≤ _; omega
        clear hv
        go_wp2
        go_roundw
        case rel => exact ⟨j + 1, R', r, by omega, by go_num, rfl, by omega, by omega, hRm2, FY, by omega, HV2⟩
        case measure => simp [intOf]; omega
    · obtain rfl : j = l := by omega
      obtain rfl : R = .nil := V.nil_of_len (by omega)
      have E : Hid ((Lj ≤ L - xs.size) ∧ w.grownBy wr none) := ⟨by have := HV.out; simp [V.size, V.len] at this; omega, HR.out.1⟩
      clear HR IN HV
      go_wp2
      go_ret
      exact ⟨⟨Lj, rfl, .inr ⟨hj0, by have := E.out.1; omega⟩⟩, E.out.2⟩

theorem szS_all : ∀ m, SzS m := fun m => Nat.strongRecOn m fun m ih => szS_of m fun k hk => szT_of k (ih k hk)
theorem szT_all (m : Nat) : SzT m := szT_of m (szS_all m)
end Go.Proofs.YtpmndefmibnaeaaDoor.By
