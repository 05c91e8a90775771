/-
  The walk of laws.FnExactTySubst. No statement is proved here.
-/
import Derived.Test.YtmlganaiajhjeaaTSubS
import Derived.Test.YtmlganaiajhjeaaTLaw
namespace Go.Proofs.Ytmlganaiajhjeaa.By
open Go.RowKit
set_option linter.unusedVariables false
set_option linter.unusedSimpArgs false

theorem subR_size (E : F) (k n : Int) (d : F) : (subR E k n d).2.2.size ≤ 60 := by
  unfold subR
  by_cases h : subOk E k n d = true
  · rw [if_pos h]
    simp only [subOk, Bool.and_eq_true] at h
    have h2 := h.2.2.2
    simp only [okT, Bool.and_eq_true, decide_eq_true_eq] at h2
    omega
  · rw [if_neg h]; simp [F.size]

set_option maxRecDepth 8000 in
set_option maxHeartbeats 8000000 in
theorem lawTySubst (d : F) (k n : Int) (a : Option Addr) (l c : Nat) (E : F) (ae : Option Addr) (le ce : Nat) (w : World) (h : SlF w a l d) (hE : SlF w ae le E) :
    Calls Try.prog 6 #[.agg #[.int .i64 k, .int .i64 n, .slice a l c], .slice ae le ce] w fun e u => e = .returned (.bool true) ∧ w.grownBy u none := by
  have g0 := World.grownBy_alloc w (.cells #[.int .i64 k, .int .i64 n, .slice a l c] 48) none
  have b0 := heap_alloc_new w (.cells #[.int .i64 k, .int .i64 n, .slice a l c] 48)
  have C1 : Hid _ := szTr d k n a l c 1048576 _ (h.none g0) (by omega) (by omega)
  by_cases hs : (d.size : Int) ≤ 1048576
  rotate_left
  · have e1 : szV d 1048576 = -1 := if_neg hs
    rw [e1] at C1
    have G0 : Hid (w.grownBy _ none) := g0
    clear g0 b0 e1 h hs hE
    go_enter Try.func6, Try.ntmps6
    go_wp2_with fail
    refine Calls.mono C1.out ?_
    rintro e w1 ⟨rfl, hg⟩
    have G1 : Hid (w.grownBy w1 none) := grown_trans G0.out hg
    clear hg G0 C1
    simp only []
    go_wp2
    go_ret
    exact ⟨rfl, G1.out⟩
  have e1 : szV d 1048576 = 1048576 - d.size := if_pos hs
  rw [e1] at C1
  have hpos : ¬ ((1048576 : Int) - d.size < 0) := by omega
  have hds : d.size ≤ 1048576 := by omega
  have HD : Hid (SlF w a l d ∧ SlF w ae le E) := ⟨h, hE⟩
  have L0 : Hid (w.grownBy _ none ∧ _ = some (Obj.cells #[.int .i64 k, .int .i64 n, .slice a l c] 48)) := ⟨g0, b0⟩
  clear g0 b0 e1 h hs hE
  go_enter Try.func6, Try.ntmps6
  go_wp2_with fail
  refine Calls.mono C1.out ?_
  rintro e w1 ⟨rfl, hg⟩
  obtain ⟨g0, b0⟩ := L0.out
  have g1 := grown_trans g0 hg
  have b1 := (hg.block _ (lt_of_block b0) (by simp)).trans b0
  clear hg L0 C1 g0 b0
  generalize ep : w.heap.size = p at b1
  simp only [ep]
  have L1 : Hid ((w.grownBy w1 none) ∧ (w1.heap[p]? = some (Obj.cells #[.int .i64 k, .int .i64 n, .slice a l c] 48)) ∧ (w.heap.size = p)) := ⟨g1, b1, ep⟩
  clear g1 b1 ep
  have C2 : Hid _ := szS E.size E ae le ce (1048576 - d.size) w1 (Nat.le_refl _) (HD.out.2.none (L1.out.1)) (by omega) (by omega)
  generalize hq1 : (1048576 : Int) - d.size = q1 at *
  by_cases hs2 : (E.size : Int) ≤ q1
  rotate_left
  · have e1 : szV E q1 = -1 := if_neg hs2
    rw [e1] at C2
    clear e1 hs2
    go_wp2_with fail
    refine Calls.mono (C2.out) ?_
    rintro e w2 ⟨rfl, hg⟩
    have L2 : Hid ((w.grownBy w2 none) ∧ (w2.heap[p]? = some (Obj.cells #[.int .i64 k, .int .i64 n, .slice a l c] 48)) ∧ (w.heap.size = p)) := ⟨grown_trans (L1.out.1) hg, (World.grownBy.block hg _ (lt_of_block (L1.out.2.1)) (by simp)).trans (L1.out.2.1), L1.out.2.2⟩
    clear L1
    clear hg
    simp only []
    clear C2
    go_wp2
    go_ret
    exact ⟨rfl, L2.out.1⟩
  have e1 : szV E q1 = q1 - E.size := if_pos hs2
  rw [e1] at C2
  have hpos2 : ¬ (q1 - E.size < 0) := by omega
  have hdE : E.size ≤ 1048576 := by omega
  clear e1 hs2
  go_wp2_with fail
  refine Calls.mono (C2.out) ?_
  rintro e w2 ⟨rfl, hg⟩
  have L3 : Hid ((w.grownBy w2 none) ∧ (w2.heap[p]? = some (Obj.cells #[.int .i64 k, .int .i64 n, .slice a l c] 48)) ∧ (w.heap.size = p)) := ⟨grown_trans (L1.out.1) hg, (World.grownBy.block hg _ (lt_of_block (L1.out.2.1)) (by simp)).trans (L1.out.2.1), L1.out.2.2⟩
  clear L1
  clear hg
  simp only []
  clear C2 hpos
  generalize hq2 : q1 - (E.size : Int) = q2 at *
  have hsz60 := subR_size E k n d
  obtain ⟨⟨x0_0, x0_1, x0_2⟩, -⟩ := three (L3.out.2.1)
  go_wp2_with fail
  refine Calls.mono (toTr d k n a l c w2 (HD.out.1.none (L3.out.1)) hds) ?_
  rintro e w3 ⟨a2, c2, bs2, rfl, hg, hn2⟩
  have L4 : Hid ((w.grownBy w3 none) ∧ (w3.heap[p]? = some (Obj.cells #[.int .i64 k, .int .i64 n, .slice a l c] 48)) ∧ (w.heap.size = p) ∧ (SlO w3 25 (a2) l c2 (d) bs2)) := ⟨grown_trans (L3.out.1) hg, (World.grownBy.block hg _ (lt_of_block (L3.out.2.1)) (by simp)).trans (L3.out.2.1), L3.out.2.2, hn2.1⟩
  clear L3 x0_0 x0_1 x0_2
  clear hg
  simp only []
  clear hn2
  go_wp2_with fail
  refine Calls.mono (toS E.size E ae le ce w3 (Nat.le_refl _) hdE (HD.out.2.none (L4.out.1))) ?_
  rintro e w4 ⟨a3, c3, bs3, rfl, hg, hn3⟩
  have L5 : Hid ((w.grownBy w4 none) ∧ (w4.heap[p]? = some (Obj.cells #[.int .i64 k, .int .i64 n, .slice a l c] 48)) ∧ (w.heap.size = p) ∧ (SlO w4 25 (a2) l c2 (d) bs2) ∧ (SlO w4 25 (a3) le c3 (E) bs3)) := ⟨grown_trans (L4.out.1) hg, (World.grownBy.block hg _ (lt_of_block (L4.out.2.1)) (by simp)).trans (L4.out.2.1), L4.out.2.2.1, SlO.old (L4.out.2.2.2) hg, hn3.1⟩
  clear L4
  clear hg
  simp only []
  clear hn3
  go_wp2_with fail
  have CSp : Hid _ := specTySubstT d k n a2 l c2 bs2 E a3 le c3 w4 (L5.out.2.2.2.1) (SlO.reads (L5.out.2.2.2.2))
  have CIm : Hid (∀ (a5 : Option Addr) (c5 : Nat) (a6 : Option Addr) (c6 : Nat) (u : World), SlF u a5 l d → SlF u a6 le E → _) := fun a5 c5 a6 c6 u h5 h6 => implTySubstT d k n a5 l c5 E a6 le c6 u h5 h6
  generalize subR E k n d = RR at *
  obtain ⟨rk, rn, rd⟩ := RR
  generalize subOk E k n d = tb at *
  simp only [] at CSp CIm hsz60
  refine Calls.mono (CSp.out) ?_
  rintro e w5 ⟨aw, lw, cw, bsw, rfl, hg, hw⟩
  have ga := World.grownBy_alloc w5 (.cells #[.int .i64 rk, .int .i64 rn, .slice aw lw cw] 25) none
  have ba := heap_alloc_new w5 (.cells #[.int .i64 rk, .int .i64 rn, .slice aw lw cw] 25)
  have hgg := grown_trans hg ga
  have L6 : Hid ((w.grownBy (w5.alloc (.cells #[.int .i64 rk, .int .i64 rn, .slice aw lw cw] 25)) none) ∧ ((w5.alloc (.cells #[.int .i64 rk, .int .i64 rn, .slice aw lw cw] 25)).heap[p]? = some (Obj.cells #[.int .i64 k, .int .i64 n, .slice a l c] 48)) ∧ (w.heap.size = p) ∧ ((w5.alloc (.cells #[.int .i64 rk, .int .i64 rn, .slice aw lw cw] 25)).heap[w5.heap.size]? = some (Obj.cells #[.int .i64 rk, .int .i64 rn, .slice aw lw cw] 25)) ∧ (SlO (w5.alloc (.cells #[.int .i64 rk, .int .i64 rn, .slice aw lw cw] 25)) 25 (aw) lw cw (rd) bsw) ∧ (∀ x ∈ bsw, x < w5.heap.size) ∧ (p < w5.heap.size)) := ⟨grown_trans (L5.out.1) hgg, (World.grownBy.block hgg _ (lt_of_block (L5.out.2.1)) (by simp)).trans (L5.out.2.1), L5.out.2.2.1, ba, hw.1.old ga, hw.1.lt, Nat.lt_of_lt_of_le (lt_of_block (L5.out.2.1)) hg.size⟩
  clear L5
  clear hg ga ba hgg
  simp only []
  clear hw CSp
  obtain ⟨⟨x1_0, x1_1, x1_2⟩, -⟩ := three (L6.out.2.1)
  go_wp2_with fail
  generalize (w5.alloc (.cells #[.int .i64 rk, .int .i64 rn, .slice aw lw cw] 25)) = u5 at *
  generalize w5.heap.size = pw at *
  refine Calls.mono (toTr d k n a l c _ (HD.out.1.none (L6.out.1)) hds) ?_
  rintro e w6 ⟨a4, c4, bs4, rfl, hg, hn4⟩
  have ga := World.grownBy_alloc w6 (.cells #[.int .i64 k, .int .i64 n, .slice a4 l c4] 25) none
  have ba := heap_alloc_new w6 (.cells #[.int .i64 k, .int .i64 n, .slice a4 l c4] 25)
  have hgg := grown_trans hg ga
  have L7 : Hid ((w.grownBy (w6.alloc (.cells #[.int .i64 k, .int .i64 n, .slice a4 l c4] 25)) none) ∧ ((w6.alloc (.cells #[.int .i64 k, .int .i64 n, .slice a4 l c4] 25)).heap[p]? = some (Obj.cells #[.int .i64 k, .int .i64 n, .slice a l c] 48)) ∧ (w.heap.size = p) ∧ ((w6.alloc (.cells #[.int .i64 k, .int .i64 n, .slice a4 l c4] 25)).heap[pw]? = some (Obj.cells #[.int .i64 rk, .int .i64 rn, .slice aw lw cw] 25)) ∧ (SlO (w6.alloc (.cells #[.int .i64 k, .int .i64 n, .slice a4 l c4] 25)) 25 (aw) lw cw (rd) bsw) ∧ (∀ x ∈ bsw, x < pw) ∧ (p < pw) ∧ ((w6.alloc (.cells #[.int .i64 k, .int .i64 n, .slice a4 l c4] 25)).heap[w6.heap.size]? = some (Obj.cells #[.int .i64 k, .int .i64 n, .slice a4 l c4] 25)) ∧ (SlO (w6.alloc (.cells #[.int .i64 k, .int .i64 n, .slice a4 l c4] 25)) 25 (a4) l c4 (d) bs4) ∧ (bs4.Nodup) ∧ (∀ x ∈ bs4, pw < x ∧ x < w6.heap.size) ∧ (pw < w6.heap.size)) := ⟨grown_trans (L6.out.1) hgg, (World.grownBy.block hgg _ (lt_of_block (L6.out.2.1)) (by simp)).trans (L6.out.2.1), L6.out.2.2.1, (World.grownBy.block hgg _ (lt_of_block (L6.out.2.2.2.1)) (by simp)).trans (L6.out.2.2.2.1), SlO.old (L6.out.2.2.2.2.1) hgg, L6.out.2.2.2.2.2.1, L6.out.2.2.2.2.2.2, ba, hn4.1.old ga, hn4.2.1, fun x hx => ⟨Nat.lt_of_lt_of_le (lt_of_block (L6.out.2.2.2.1)) (hn4.2.2 x hx), hn4.1.lt x hx⟩, Nat.lt_of_lt_of_le (lt_of_block (L6.out.2.2.2.1)) hg.size⟩
  clear L6 x1_0 x1_1 x1_2
  clear hg ga ba hgg
  simp only []
  clear hn4
  go_wp2_with fail
  generalize (w6.alloc (.cells #[.int .i64 k, .int .i64 n, .slice a4 l c4] 25)) = u6 at *
  generalize w6.heap.size = px at *
  refine Calls.mono (toS E.size E ae le ce u6 (Nat.le_refl _) hdE (HD.out.2.none (L7.out.1))) ?_
  rintro e w7 ⟨a5, c5, bs5, rfl, hg, hn5⟩
  have L8 : Hid ((w.grownBy w7 none) ∧ (w7.heap[p]? = some (Obj.cells #[.int .i64 k, .int .i64 n, .slice a l c] 48)) ∧ (w.heap.size = p) ∧ (w7.heap[pw]? = some (Obj.cells #[.int .i64 rk, .int .i64 rn, .slice aw lw cw] 25)) ∧ (SlO w7 25 (aw) lw cw (rd) bsw) ∧ (∀ x ∈ bsw, x < pw) ∧ (p < pw) ∧ (w7.heap[px]? = some (Obj.cells #[.int .i64 k, .int .i64 n, .slice a4 l c4] 25)) ∧ (SlO w7 25 (a4) l c4 (d) bs4) ∧ (bs4.Nodup) ∧ (∀ x ∈ bs4, pw < x ∧ x < px) ∧ (pw < px) ∧ (SlO w7 25 (a5) le c5 (E) bs5) ∧ (bs5.Nodup) ∧ (∀ x ∈ bs5, px < x ∧ x < w7.heap.size) ∧ (px < w7.heap.size)) := ⟨grown_trans (L7.out.1) hg, (World.grownBy.block hg _ (lt_of_block (L7.out.2.1)) (by simp)).trans (L7.out.2.1), L7.out.2.2.1, (World.grownBy.block hg _ (lt_of_block (L7.out.2.2.2.1)) (by simp)).trans (L7.out.2.2.2.1), SlO.old (L7.out.2.2.2.2.1) hg, L7.out.2.2.2.2.2.1, L7.out.2.2.2.2.2.2.1, (World.grownBy.block hg _ (lt_of_block (L7.out.2.2.2.2.2.2.2.1)) (by simp)).trans (L7.out.2.2.2.2.2.2.2.1), SlO.old (L7.out.2.2.2.2.2.2.2.2.1) hg, L7.out.2.2.2.2.2.2.2.2.2.1, L7.out.2.2.2.2.2.2.2.2.2.2.1, L7.out.2.2.2.2.2.2.2.2.2.2.2, hn5.1, hn5.2.1, fun x hx => ⟨Nat.lt_of_lt_of_le (lt_of_block (L7.out.2.2.2.2.2.2.2.1)) (hn5.2.2 x hx), hn5.1.lt x hx⟩, Nat.lt_of_lt_of_le (lt_of_block (L7.out.2.2.2.2.2.2.2.1)) hg.size⟩
  clear L7
  clear hg hn5
  simp only []
  obtain ⟨⟨x2_0, x2_1, x2_2⟩, -⟩ := three (L8.out.2.2.2.2.2.2.2.1)
  go_wp2_with fail
  refine Calls.mono (CIm.out a4 c4 a5 c5 w7 (SlO.reads (L8.out.2.2.2.2.2.2.2.2.1)) (SlO.reads (L8.out.2.2.2.2.2.2.2.2.2.2.2.2.1))) ?_
  rintro e w8 ⟨ag, lg, cg, bsg, he, hg, hw⟩
  subst he
  have ga := World.grownBy_alloc w8 (.cells #[.int .i64 rk, .int .i64 rn, .slice ag lg cg] 25) none
  have ba := heap_alloc_new w8 (.cells #[.int .i64 rk, .int .i64 rn, .slice ag lg cg] 25)
  have hgg := grown_trans hg ga
  have L9 : Hid ((w.grownBy (w8.alloc (.cells #[.int .i64 rk, .int .i64 rn, .slice ag lg cg] 25)) none) ∧ ((w8.alloc (.cells #[.int .i64 rk, .int .i64 rn, .slice ag lg cg] 25)).heap[p]? = some (Obj.cells #[.int .i64 k, .int .i64 n, .slice a l c] 48)) ∧ (w.heap.size = p) ∧ ((w8.alloc (.cells #[.int .i64 rk, .int .i64 rn, .slice ag lg cg] 25)).heap[pw]? = some (Obj.cells #[.int .i64 rk, .int .i64 rn, .slice aw lw cw] 25)) ∧ (SlO (w8.alloc (.cells #[.int .i64 rk, .int .i64 rn, .slice ag lg cg] 25)) 25 (aw) lw cw (rd) bsw) ∧ (∀ x ∈ bsw, x < pw) ∧ (p < pw) ∧ ((w8.alloc (.cells #[.int .i64 rk, .int .i64 rn, .slice ag lg cg] 25)).heap[px]? = some (Obj.cells #[.int .i64 k, .int .i64 n, .slice a4 l c4] 25)) ∧ (SlO (w8.alloc (.cells #[.int .i64 rk, .int .i64 rn, .slice ag lg cg] 25)) 25 (a4) l c4 (d) bs4) ∧ (bs4.Nodup) ∧ (∀ x ∈ bs4, pw < x ∧ x < px) ∧ (pw < px) ∧ (SlO (w8.alloc (.cells #[.int .i64 rk, .int .i64 rn, .slice ag lg cg] 25)) 25 (a5) le c5 (E) bs5) ∧ (bs5.Nodup) ∧ (∀ x ∈ bs5, px < x ∧ x < w7.heap.size) ∧ (px < w7.heap.size) ∧ ((w8.alloc (.cells #[.int .i64 rk, .int .i64 rn, .slice ag lg cg] 25)).heap[w8.heap.size]? = some (Obj.cells #[.int .i64 rk, .int .i64 rn, .slice ag lg cg] 25)) ∧ (SlO (w8.alloc (.cells #[.int .i64 rk, .int .i64 rn, .slice ag lg cg] 25)) 25 (ag) lg cg (rd) bsg) ∧ (bsg.Nodup) ∧ (∀ x ∈ bsg, w7.heap.size ≤ x ∧ x < w8.heap.size) ∧ (w7.heap.size ≤ w8.heap.size)) := ⟨grown_trans (L8.out.1) hgg, (World.grownBy.block hgg _ (lt_of_block (L8.out.2.1)) (by simp)).trans (L8.out.2.1), L8.out.2.2.1, (World.grownBy.block hgg _ (lt_of_block (L8.out.2.2.2.1)) (by simp)).trans (L8.out.2.2.2.1), SlO.old (L8.out.2.2.2.2.1) hgg, L8.out.2.2.2.2.2.1, L8.out.2.2.2.2.2.2.1, (World.grownBy.block hgg _ (lt_of_block (L8.out.2.2.2.2.2.2.2.1)) (by simp)).trans (L8.out.2.2.2.2.2.2.2.1), SlO.old (L8.out.2.2.2.2.2.2.2.2.1) hgg, L8.out.2.2.2.2.2.2.2.2.2.1, L8.out.2.2.2.2.2.2.2.2.2.2.1, L8.out.2.2.2.2.2.2.2.2.2.2.2.1, SlO.old (L8.out.2.2.2.2.2.2.2.2.2.2.2.2.1) hgg, L8.out.2.2.2.2.2.2.2.2.2.2.2.2.2.1, L8.out.2.2.2.2.2.2.2.2.2.2.2.2.2.2.1, L8.out.2.2.2.2.2.2.2.2.2.2.2.2.2.2.2, ba, hw.1.old ga, hw.2.1, fun x hx => ⟨hw.2.2 x hx, hw.1.lt x hx⟩, hg.size⟩
  clear L8 x2_0 x2_1 x2_2
  clear hg ga ba hgg
  simp only []
  clear hw
  have elw : lw = lg := (L9.out.2.2.2.2.1).1.symm.trans (L9.out.2.2.2.2.2.2.2.2.2.2.2.2.2.2.2.2.2.1).1
  subst elw
  obtain ⟨⟨x3_0, x3_1, x3_2⟩, -⟩ := three (L9.out.2.2.2.2.2.2.2.2.2.2.2.2.2.2.2.2.1)
  obtain ⟨⟨x4_0, x4_1, x4_2⟩, -⟩ := three (L9.out.2.2.2.1)
  go_wp2_with fail
  generalize (w8.alloc (.cells #[.int .i64 rk, .int .i64 rn, .slice ag lw cg] 25)) = u8 at *
  generalize w8.heap.size = pg at *
  generalize w7.heap.size = t5 at *
  refine Calls.mono (eqTr rd rk rn ag aw lw cg cw u8 (SlO.reads (L9.out.2.2.2.2.2.2.2.2.2.2.2.2.2.2.2.2.2.1)) (SlO.reads (L9.out.2.2.2.2.1))) ?_
  rintro e u9 ⟨rfl, hg⟩
  have L10 : Hid ((w.grownBy u9 none) ∧ (u9.heap[p]? = some (Obj.cells #[.int .i64 k, .int .i64 n, .slice a l c] 48)) ∧ (w.heap.size = p) ∧ (u9.heap[pw]? = some (Obj.cells #[.int .i64 rk, .int .i64 rn, .slice aw lw cw] 25)) ∧ (SlO u9 25 (aw) lw cw (rd) bsw) ∧ (∀ x ∈ bsw, x < pw) ∧ (p < pw) ∧ (u9.heap[px]? = some (Obj.cells #[.int .i64 k, .int .i64 n, .slice a4 l c4] 25)) ∧ (SlO u9 25 (a4) l c4 (d) bs4) ∧ (bs4.Nodup) ∧ (∀ x ∈ bs4, pw < x ∧ x < px) ∧ (pw < px) ∧ (SlO u9 25 (a5) le c5 (E) bs5) ∧ (bs5.Nodup) ∧ (∀ x ∈ bs5, px < x ∧ x < t5) ∧ (px < t5) ∧ (u9.heap[pg]? = some (Obj.cells #[.int .i64 rk, .int .i64 rn, .slice ag lw cg] 25)) ∧ (SlO u9 25 (ag) lw cg (rd) bsg) ∧ (bsg.Nodup) ∧ (∀ x ∈ bsg, t5 ≤ x ∧ x < pg) ∧ (t5 ≤ pg)) := ⟨grown_trans (L9.out.1) hg, (World.grownBy.block hg _ (lt_of_block (L9.out.2.1)) (by simp)).trans (L9.out.2.1), L9.out.2.2.1, (World.grownBy.block hg _ (lt_of_block (L9.out.2.2.2.1)) (by simp)).trans (L9.out.2.2.2.1), SlO.old (L9.out.2.2.2.2.1) hg, L9.out.2.2.2.2.2.1, L9.out.2.2.2.2.2.2.1, (World.grownBy.block hg _ (lt_of_block (L9.out.2.2.2.2.2.2.2.1)) (by simp)).trans (L9.out.2.2.2.2.2.2.2.1), SlO.old (L9.out.2.2.2.2.2.2.2.2.1) hg, L9.out.2.2.2.2.2.2.2.2.2.1, L9.out.2.2.2.2.2.2.2.2.2.2.1, L9.out.2.2.2.2.2.2.2.2.2.2.2.1, SlO.old (L9.out.2.2.2.2.2.2.2.2.2.2.2.2.1) hg, L9.out.2.2.2.2.2.2.2.2.2.2.2.2.2.1, L9.out.2.2.2.2.2.2.2.2.2.2.2.2.2.2.1, L9.out.2.2.2.2.2.2.2.2.2.2.2.2.2.2.2.1, (World.grownBy.block hg _ (lt_of_block (L9.out.2.2.2.2.2.2.2.2.2.2.2.2.2.2.2.2.1)) (by simp)).trans (L9.out.2.2.2.2.2.2.2.2.2.2.2.2.2.2.2.2.1), SlO.old (L9.out.2.2.2.2.2.2.2.2.2.2.2.2.2.2.2.2.2.1) hg, L9.out.2.2.2.2.2.2.2.2.2.2.2.2.2.2.2.2.2.2.1, L9.out.2.2.2.2.2.2.2.2.2.2.2.2.2.2.2.2.2.2.2.1, L9.out.2.2.2.2.2.2.2.2.2.2.2.2.2.2.2.2.2.2.2.2⟩
  clear L9 x3_0 x3_1 x3_2 x4_0 x4_1 x4_2
  clear hg
  simp only []
  go_wp2_with fail
  have L11 : Hid ((w.grownBy u9.drew none) ∧ (u9.drew.heap[p]? = some (Obj.cells #[.int .i64 k, .int .i64 n, .slice a l c] 48)) ∧ (w.heap.size = p) ∧ (u9.drew.heap[pw]? = some (Obj.cells #[.int .i64 rk, .int .i64 rn, .slice aw lw cw] 25)) ∧ (SlO u9.drew 25 (aw) lw cw (rd) bsw) ∧ (∀ x ∈ bsw, x < pw) ∧ (p < pw) ∧ (u9.drew.heap[px]? = some (Obj.cells #[.int .i64 k, .int .i64 n, .slice a4 l c4] 25)) ∧ (SlO u9.drew 25 (a4) l c4 (d) bs4) ∧ (bs4.Nodup) ∧ (∀ x ∈ bs4, pw < x ∧ x < px) ∧ (pw < px) ∧ (SlO u9.drew 25 (a5) le c5 (E) bs5) ∧ (bs5.Nodup) ∧ (∀ x ∈ bs5, px < x ∧ x < t5) ∧ (px < t5) ∧ (u9.drew.heap[pg]? = some (Obj.cells #[.int .i64 rk, .int .i64 rn, .slice ag lw cg] 25)) ∧ (SlO u9.drew 25 (ag) lw cg (rd) bsg) ∧ (bsg.Nodup) ∧ (∀ x ∈ bsg, t5 ≤ x ∧ x < pg) ∧ (t5 ≤ pg)) := ⟨grown_trans (L10.out.1) (grown_drew (World.grownBy.refl u9 none)), (World.grownBy.block (grown_drew (World.grownBy.refl u9 none)) _ (lt_of_block (L10.out.2.1)) (by simp)).trans (L10.out.2.1), L10.out.2.2.1, (World.grownBy.block (grown_drew (World.grownBy.refl u9 none)) _ (lt_of_block (L10.out.2.2.2.1)) (by simp)).trans (L10.out.2.2.2.1), SlO.old (L10.out.2.2.2.2.1) (grown_drew (World.grownBy.refl u9 none)), L10.out.2.2.2.2.2.1, L10.out.2.2.2.2.2.2.1, (World.grownBy.block (grown_drew (World.grownBy.refl u9 none)) _ (lt_of_block (L10.out.2.2.2.2.2.2.2.1)) (by simp)).trans (L10.out.2.2.2.2.2.2.2.1), SlO.old (L10.out.2.2.2.2.2.2.2.2.1) (grown_drew (World.grownBy.refl u9 none)), L10.out.2.2.2.2.2.2.2.2.2.1, L10.out.2.2.2.2.2.2.2.2.2.2.1, L10.out.2.2.2.2.2.2.2.2.2.2.2.1, SlO.old (L10.out.2.2.2.2.2.2.2.2.2.2.2.2.1) (grown_drew (World.grownBy.refl u9 none)), L10.out.2.2.2.2.2.2.2.2.2.2.2.2.2.1, L10.out.2.2.2.2.2.2.2.2.2.2.2.2.2.2.1, L10.out.2.2.2.2.2.2.2.2.2.2.2.2.2.2.2.1, (World.grownBy.block (grown_drew (World.grownBy.refl u9 none)) _ (lt_of_block (L10.out.2.2.2.2.2.2.2.2.2.2.2.2.2.2.2.2.1)) (by simp)).trans (L10.out.2.2.2.2.2.2.2.2.2.2.2.2.2.2.2.2.1), SlO.old (L10.out.2.2.2.2.2.2.2.2.2.2.2.2.2.2.2.2.2.1) (grown_drew (World.grownBy.refl u9 none)), L10.out.2.2.2.2.2.2.2.2.2.2.2.2.2.2.2.2.2.2.1, L10.out.2.2.2.2.2.2.2.2.2.2.2.2.2.2.2.2.2.2.2.1, L10.out.2.2.2.2.2.2.2.2.2.2.2.2.2.2.2.2.2.2.2.2⟩
  clear L10
  refine wp_region_held_drew (S := (fun v0 => Tri p 0 (.int .i64 k) (.int .i64 n) (.slice a l c) v0 ∧ Tri px 0 (.int .i64 k) (.int .i64 n) (.slice a4 l c4) v0)) (by kernel_rfl) ⟨(three (L11.out.2.1)).1, (three (L11.out.2.2.2.2.2.2.2.1)).1⟩ (fun hH => ?_)
  generalize u9.drew = v0 at *
  simp only [List.size_toArray, List.length_cons, List.length_nil, Nat.reduceAdd, Array.replicate, List.replicate]
  refine wpAnyH_take (i := 0) (v := ?_) rfl (by kernel_rfl) (by kernel_rfl) (by kernel_rfl) (fun _ _ _ h => h) (Or.inl ⟨by rfl, ?_⟩) hH ?_
  rotate_left
  · (intro v hS; obtain ⟨⟨s00, s01, s02⟩, ⟨s10, s11, s12⟩⟩ := hS; go_simp; try with_reducible rfl)
  simp only [Act.put, List.setIfInBounds_toArray, List.set_cons_zero, List.set_cons_succ, List.getElem_toArray, List.getElem_cons_succ, List.getElem_cons_zero]
  refine wpAnyH_take (i := 1) (v := ?_) rfl (by kernel_rfl) (by kernel_rfl) (by kernel_rfl) (fun _ _ _ h => h) (Or.inl ⟨by rfl, ?_⟩) hH ?_
  rotate_left
  · (intro v hS; obtain ⟨⟨s00, s01, s02⟩, ⟨s10, s11, s12⟩⟩ := hS; go_simp; try with_reducible rfl)
  simp only [Act.put, List.setIfInBounds_toArray, List.set_cons_zero, List.set_cons_succ, List.getElem_toArray, List.getElem_cons_succ, List.getElem_cons_zero]
  refine wpAnyH_ready (rs := [2]) (by kernel_rfl) (by simp) ?_
  refine AllReadyH.cons rfl (fun K hK => ?_) AllReadyH.nil
  go_simp
  refine Calls.mono (toTr d k n a l c v0 (HD.out.1.none (L11.out.1)) hds) ?_
  rintro e v1 ⟨a7, c7, bs7, rfl, hg, hn7⟩
  have L12 : Hid ((w.grownBy v1 none) ∧ (v1.heap[p]? = some (Obj.cells #[.int .i64 k, .int .i64 n, .slice a l c] 48)) ∧ (w.heap.size = p) ∧ (v1.heap[pw]? = some (Obj.cells #[.int .i64 rk, .int .i64 rn, .slice aw lw cw] 25)) ∧ (SlO v1 25 (aw) lw cw (rd) bsw) ∧ (∀ x ∈ bsw, x < pw) ∧ (p < pw) ∧ (v1.heap[px]? = some (Obj.cells #[.int .i64 k, .int .i64 n, .slice a4 l c4] 25)) ∧ (SlO v1 25 (a4) l c4 (d) bs4) ∧ (bs4.Nodup) ∧ (∀ x ∈ bs4, pw < x ∧ x < px) ∧ (pw < px) ∧ (SlO v1 25 (a5) le c5 (E) bs5) ∧ (bs5.Nodup) ∧ (∀ x ∈ bs5, px < x ∧ x < t5) ∧ (px < t5) ∧ (v1.heap[pg]? = some (Obj.cells #[.int .i64 rk, .int .i64 rn, .slice ag lw cg] 25)) ∧ (SlO v1 25 (ag) lw cg (rd) bsg) ∧ (bsg.Nodup) ∧ (∀ x ∈ bsg, t5 ≤ x ∧ x < pg) ∧ (t5 ≤ pg) ∧ (SlF v1 (a7) l (d))) := ⟨grown_trans (L11.out.1) hg, (World.grownBy.block hg _ (lt_of_block (L11.out.2.1)) (by simp)).trans (L11.out.2.1), L11.out.2.2.1, (World.grownBy.block hg _ (lt_of_block (L11.out.2.2.2.1)) (by simp)).trans (L11.out.2.2.2.1), SlO.old (L11.out.2.2.2.2.1) hg, L11.out.2.2.2.2.2.1, L11.out.2.2.2.2.2.2.1, (World.grownBy.block hg _ (lt_of_block (L11.out.2.2.2.2.2.2.2.1)) (by simp)).trans (L11.out.2.2.2.2.2.2.2.1), SlO.old (L11.out.2.2.2.2.2.2.2.2.1) hg, L11.out.2.2.2.2.2.2.2.2.2.1, L11.out.2.2.2.2.2.2.2.2.2.2.1, L11.out.2.2.2.2.2.2.2.2.2.2.2.1, SlO.old (L11.out.2.2.2.2.2.2.2.2.2.2.2.2.1) hg, L11.out.2.2.2.2.2.2.2.2.2.2.2.2.2.1, L11.out.2.2.2.2.2.2.2.2.2.2.2.2.2.2.1, L11.out.2.2.2.2.2.2.2.2.2.2.2.2.2.2.2.1, (World.grownBy.block hg _ (lt_of_block (L11.out.2.2.2.2.2.2.2.2.2.2.2.2.2.2.2.2.1)) (by simp)).trans (L11.out.2.2.2.2.2.2.2.2.2.2.2.2.2.2.2.2.1), SlO.old (L11.out.2.2.2.2.2.2.2.2.2.2.2.2.2.2.2.2.2.1) hg, L11.out.2.2.2.2.2.2.2.2.2.2.2.2.2.2.2.2.2.2.1, L11.out.2.2.2.2.2.2.2.2.2.2.2.2.2.2.2.2.2.2.2.1, L11.out.2.2.2.2.2.2.2.2.2.2.2.2.2.2.2.2.2.2.2.2, hn7.1.reads⟩
  clear L11
  refine hK.out _ _ ⟨(three (L12.out.2.1)).1, (three (L12.out.2.2.2.2.2.2.2.1)).1⟩ (fun hH2 => ?_)
  clear hK K hH
  have hH := hH2
  clear hH2 hg
  simp only [Act.put, List.setIfInBounds_toArray, List.set_cons_zero, List.set_cons_succ, List.getElem_toArray, List.getElem_cons_succ, List.getElem_cons_zero]
  clear hn7
  refine wpAnyH_ready (rs := [3]) (by kernel_rfl) (by simp) ?_
  refine AllReadyH.cons rfl (fun K hK => ?_) AllReadyH.nil
  go_simp
  refine Calls.mono (eqTr d k n a4 a7 l c4 c7 v1 (SlO.reads (L12.out.2.2.2.2.2.2.2.2.1)) (L12.out.2.2.2.2.2.2.2.2.2.2.2.2.2.2.2.2.2.2.2.2.2)) ?_
  rintro e v2 ⟨rfl, hg⟩
  have L13 : Hid ((w.grownBy v2 none) ∧ (v2.heap[p]? = some (Obj.cells #[.int .i64 k, .int .i64 n, .slice a l c] 48)) ∧ (w.heap.size = p) ∧ (v2.heap[pw]? = some (Obj.cells #[.int .i64 rk, .int .i64 rn, .slice aw lw cw] 25)) ∧ (SlO v2 25 (aw) lw cw (rd) bsw) ∧ (∀ x ∈ bsw, x < pw) ∧ (p < pw) ∧ (v2.heap[px]? = some (Obj.cells #[.int .i64 k, .int .i64 n, .slice a4 l c4] 25)) ∧ (SlO v2 25 (a4) l c4 (d) bs4) ∧ (bs4.Nodup) ∧ (∀ x ∈ bs4, pw < x ∧ x < px) ∧ (pw < px) ∧ (SlO v2 25 (a5) le c5 (E) bs5) ∧ (bs5.Nodup) ∧ (∀ x ∈ bs5, px < x ∧ x < t5) ∧ (px < t5) ∧ (v2.heap[pg]? = some (Obj.cells #[.int .i64 rk, .int .i64 rn, .slice ag lw cg] 25)) ∧ (SlO v2 25 (ag) lw cg (rd) bsg) ∧ (bsg.Nodup) ∧ (∀ x ∈ bsg, t5 ≤ x ∧ x < pg) ∧ (t5 ≤ pg)) := ⟨grown_trans (L12.out.1) hg, (World.grownBy.block hg _ (lt_of_block (L12.out.2.1)) (by simp)).trans (L12.out.2.1), L12.out.2.2.1, (World.grownBy.block hg _ (lt_of_block (L12.out.2.2.2.1)) (by simp)).trans (L12.out.2.2.2.1), SlO.old (L12.out.2.2.2.2.1) hg, L12.out.2.2.2.2.2.1, L12.out.2.2.2.2.2.2.1, (World.grownBy.block hg _ (lt_of_block (L12.out.2.2.2.2.2.2.2.1)) (by simp)).trans (L12.out.2.2.2.2.2.2.2.1), SlO.old (L12.out.2.2.2.2.2.2.2.2.1) hg, L12.out.2.2.2.2.2.2.2.2.2.1, L12.out.2.2.2.2.2.2.2.2.2.2.1, L12.out.2.2.2.2.2.2.2.2.2.2.2.1, SlO.old (L12.out.2.2.2.2.2.2.2.2.2.2.2.2.1) hg, L12.out.2.2.2.2.2.2.2.2.2.2.2.2.2.1, L12.out.2.2.2.2.2.2.2.2.2.2.2.2.2.2.1, L12.out.2.2.2.2.2.2.2.2.2.2.2.2.2.2.2.1, (World.grownBy.block hg _ (lt_of_block (L12.out.2.2.2.2.2.2.2.2.2.2.2.2.2.2.2.2.1)) (by simp)).trans (L12.out.2.2.2.2.2.2.2.2.2.2.2.2.2.2.2.2.1), SlO.old (L12.out.2.2.2.2.2.2.2.2.2.2.2.2.2.2.2.2.2.1) hg, L12.out.2.2.2.2.2.2.2.2.2.2.2.2.2.2.2.2.2.2.1, L12.out.2.2.2.2.2.2.2.2.2.2.2.2.2.2.2.2.2.2.2.1, L12.out.2.2.2.2.2.2.2.2.2.2.2.2.2.2.2.2.2.2.2.2.1⟩
  clear L12
  refine hK.out _ _ ⟨(three (L13.out.2.1)).1, (three (L13.out.2.2.2.2.2.2.2.1)).1⟩ (fun hH2 => ?_)
  clear hK K hH
  have hH := hH2
  clear hH2 hg
  simp only [Act.put, List.setIfInBounds_toArray, List.set_cons_zero, List.set_cons_succ, List.getElem_toArray, List.getElem_cons_succ, List.getElem_cons_zero]
  refine wpAnyH_take (i := 4) (v := ?_) rfl (by kernel_rfl) (by kernel_rfl) (by kernel_rfl) (fun _ _ _ h => h) (Or.inl ⟨by rfl, ?_⟩) hH ?_
  rotate_left
  · (intro v hS; go_simp; try with_reducible rfl)
  simp only [Act.put, List.setIfInBounds_toArray, List.set_cons_zero, List.set_cons_succ, List.getElem_toArray, List.getElem_cons_succ, List.getElem_cons_zero]
  refine wpAnyH_done (by kernel_rfl) ?_ _
  go_wp2_with fail
  refine Calls.mono (toS E.size E ae le ce v2 (Nat.le_refl _) hdE (HD.out.2.none (L13.out.1))) ?_
  rintro e v3 ⟨a8, c8, bs8, rfl, hg, hn8⟩
  have L14 : Hid ((w.grownBy v3 none) ∧ (v3.heap[p]? = some (Obj.cells #[.int .i64 k, .int .i64 n, .slice a l c] 48)) ∧ (w.heap.size = p) ∧ (v3.heap[pw]? = some (Obj.cells #[.int .i64 rk, .int .i64 rn, .slice aw lw cw] 25)) ∧ (SlO v3 25 (aw) lw cw (rd) bsw) ∧ (∀ x ∈ bsw, x < pw) ∧ (p < pw) ∧ (v3.heap[px]? = some (Obj.cells #[.int .i64 k, .int .i64 n, .slice a4 l c4] 25)) ∧ (SlO v3 25 (a4) l c4 (d) bs4) ∧ (bs4.Nodup) ∧ (∀ x ∈ bs4, pw < x ∧ x < px) ∧ (pw < px) ∧ (SlO v3 25 (a5) le c5 (E) bs5) ∧ (bs5.Nodup) ∧ (∀ x ∈ bs5, px < x ∧ x < t5) ∧ (px < t5) ∧ (v3.heap[pg]? = some (Obj.cells #[.int .i64 rk, .int .i64 rn, .slice ag lw cg] 25)) ∧ (SlO v3 25 (ag) lw cg (rd) bsg) ∧ (bsg.Nodup) ∧ (∀ x ∈ bsg, t5 ≤ x ∧ x < pg) ∧ (t5 ≤ pg) ∧ (SlF v3 (a8) le (E))) := ⟨grown_trans (L13.out.1) hg, (World.grownBy.block hg _ (lt_of_block (L13.out.2.1)) (by simp)).trans (L13.out.2.1), L13.out.2.2.1, (World.grownBy.block hg _ (lt_of_block (L13.out.2.2.2.1)) (by simp)).trans (L13.out.2.2.2.1), SlO.old (L13.out.2.2.2.2.1) hg, L13.out.2.2.2.2.2.1, L13.out.2.2.2.2.2.2.1, (World.grownBy.block hg _ (lt_of_block (L13.out.2.2.2.2.2.2.2.1)) (by simp)).trans (L13.out.2.2.2.2.2.2.2.1), SlO.old (L13.out.2.2.2.2.2.2.2.2.1) hg, L13.out.2.2.2.2.2.2.2.2.2.1, L13.out.2.2.2.2.2.2.2.2.2.2.1, L13.out.2.2.2.2.2.2.2.2.2.2.2.1, SlO.old (L13.out.2.2.2.2.2.2.2.2.2.2.2.2.1) hg, L13.out.2.2.2.2.2.2.2.2.2.2.2.2.2.1, L13.out.2.2.2.2.2.2.2.2.2.2.2.2.2.2.1, L13.out.2.2.2.2.2.2.2.2.2.2.2.2.2.2.2.1, (World.grownBy.block hg _ (lt_of_block (L13.out.2.2.2.2.2.2.2.2.2.2.2.2.2.2.2.2.1)) (by simp)).trans (L13.out.2.2.2.2.2.2.2.2.2.2.2.2.2.2.2.2.1), SlO.old (L13.out.2.2.2.2.2.2.2.2.2.2.2.2.2.2.2.2.2.1) hg, L13.out.2.2.2.2.2.2.2.2.2.2.2.2.2.2.2.2.2.2.1, L13.out.2.2.2.2.2.2.2.2.2.2.2.2.2.2.2.2.2.2.2.1, L13.out.2.2.2.2.2.2.2.2.2.2.2.2.2.2.2.2.2.2.2.2, hn8.1.reads⟩
  clear L13
  clear hg
  simp only []
  clear hn8
  go_wp2_with fail
  refine Calls.mono (eqS E.size E a5 a8 le c5 c8 v3 (Nat.le_refl _) (SlO.reads (L14.out.2.2.2.2.2.2.2.2.2.2.2.2.1)) (L14.out.2.2.2.2.2.2.2.2.2.2.2.2.2.2.2.2.2.2.2.2.2)) ?_
  rintro e v4 ⟨rfl, hg⟩
  have L15 : Hid ((w.grownBy v4 none) ∧ (v4.heap[p]? = some (Obj.cells #[.int .i64 k, .int .i64 n, .slice a l c] 48)) ∧ (w.heap.size = p) ∧ (v4.heap[pw]? = some (Obj.cells #[.int .i64 rk, .int .i64 rn, .slice aw lw cw] 25)) ∧ (SlO v4 25 (aw) lw cw (rd) bsw) ∧ (∀ x ∈ bsw, x < pw) ∧ (p < pw) ∧ (v4.heap[px]? = some (Obj.cells #[.int .i64 k, .int .i64 n, .slice a4 l c4] 25)) ∧ (SlO v4 25 (a4) l c4 (d) bs4) ∧ (bs4.Nodup) ∧ (∀ x ∈ bs4, pw < x ∧ x < px) ∧ (pw < px) ∧ (SlO v4 25 (a5) le c5 (E) bs5) ∧ (bs5.Nodup) ∧ (∀ x ∈ bs5, px < x ∧ x < t5) ∧ (px < t5) ∧ (v4.heap[pg]? = some (Obj.cells #[.int .i64 rk, .int .i64 rn, .slice ag lw cg] 25)) ∧ (SlO v4 25 (ag) lw cg (rd) bsg) ∧ (bsg.Nodup) ∧ (∀ x ∈ bsg, t5 ≤ x ∧ x < pg) ∧ (t5 ≤ pg)) := ⟨grown_trans (L14.out.1) hg, (World.grownBy.block hg _ (lt_of_block (L14.out.2.1)) (by simp)).trans (L14.out.2.1), L14.out.2.2.1, (World.grownBy.block hg _ (lt_of_block (L14.out.2.2.2.1)) (by simp)).trans (L14.out.2.2.2.1), SlO.old (L14.out.2.2.2.2.1) hg, L14.out.2.2.2.2.2.1, L14.out.2.2.2.2.2.2.1, (World.grownBy.block hg _ (lt_of_block (L14.out.2.2.2.2.2.2.2.1)) (by simp)).trans (L14.out.2.2.2.2.2.2.2.1), SlO.old (L14.out.2.2.2.2.2.2.2.2.1) hg, L14.out.2.2.2.2.2.2.2.2.2.1, L14.out.2.2.2.2.2.2.2.2.2.2.1, L14.out.2.2.2.2.2.2.2.2.2.2.2.1, SlO.old (L14.out.2.2.2.2.2.2.2.2.2.2.2.2.1) hg, L14.out.2.2.2.2.2.2.2.2.2.2.2.2.2.1, L14.out.2.2.2.2.2.2.2.2.2.2.2.2.2.2.1, L14.out.2.2.2.2.2.2.2.2.2.2.2.2.2.2.2.1, (World.grownBy.block hg _ (lt_of_block (L14.out.2.2.2.2.2.2.2.2.2.2.2.2.2.2.2.2.1)) (by simp)).trans (L14.out.2.2.2.2.2.2.2.2.2.2.2.2.2.2.2.2.1), SlO.old (L14.out.2.2.2.2.2.2.2.2.2.2.2.2.2.2.2.2.2.1) hg, L14.out.2.2.2.2.2.2.2.2.2.2.2.2.2.2.2.2.2.2.1, L14.out.2.2.2.2.2.2.2.2.2.2.2.2.2.2.2.2.2.2.2.1, L14.out.2.2.2.2.2.2.2.2.2.2.2.2.2.2.2.2.2.2.2.2.1⟩
  clear L14
  clear hg
  simp only []
  obtain ⟨⟨x5_0, x5_1, x5_2⟩, -⟩ := three (L15.out.2.2.2.2.2.2.2.1)
  go_wp2_with fail
  refine Calls.mono (markTr d k n a4 l c4 bs4 1 v4 (L15.out.2.2.2.2.2.2.2.2.1) (L15.out.2.2.2.2.2.2.2.2.2.1) (by omega) (by omega)) ?_
  rintro e v5 ⟨rfl, ht, -⟩
  have ep := L15.out.2.2.1
  have qw := L15.out.2.2.2.2.2.1
  have o1 := L15.out.2.2.2.2.2.2.1
  have q4 := L15.out.2.2.2.2.2.2.2.2.2.2.1
  have o2 := L15.out.2.2.2.2.2.2.2.2.2.2.2.1
  have q5 := L15.out.2.2.2.2.2.2.2.2.2.2.2.2.2.2.1
  have o3 := L15.out.2.2.2.2.2.2.2.2.2.2.2.2.2.2.2.1
  have qg := L15.out.2.2.2.2.2.2.2.2.2.2.2.2.2.2.2.2.2.2.2.1
  have o4 := L15.out.2.2.2.2.2.2.2.2.2.2.2.2.2.2.2.2.2.2.2.2
  have L16 : Hid ((w.grownBy v5 none) ∧ (v5.heap[p]? = some (Obj.cells #[.int .i64 k, .int .i64 n, .slice a l c] 48)) ∧ (w.heap.size = p) ∧ (v5.heap[pw]? = some (Obj.cells #[.int .i64 rk, .int .i64 rn, .slice aw lw cw] 25)) ∧ (SlO v5 25 (aw) lw cw (rd) bsw) ∧ (∀ x ∈ bsw, x < pw) ∧ (p < pw) ∧ (v5.heap[px]? = some (Obj.cells #[.int .i64 k, .int .i64 n, .slice a4 l c4] 25)) ∧ (∀ x ∈ bs4, pw < x ∧ x < px) ∧ (pw < px) ∧ (SlO v5 25 (a5) le c5 (E) bs5) ∧ (bs5.Nodup) ∧ (∀ x ∈ bs5, px < x ∧ x < t5) ∧ (px < t5) ∧ (v5.heap[pg]? = some (Obj.cells #[.int .i64 rk, .int .i64 rn, .slice ag lw cg] 25)) ∧ (SlO v5 25 (ag) lw cg (rd) bsg) ∧ (bsg.Nodup) ∧ (∀ x ∈ bsg, t5 ≤ x ∧ x < pg) ∧ (t5 ≤ pg)) := ⟨Tn.fresh (L15.out.1) ht (fun x hx => by have := q4 x hx; omega), (ht.block _ (lt_of_block (L15.out.2.1)) (fun hx => by have := q4 _ hx; omega)).trans (L15.out.2.1), L15.out.2.2.1, (ht.block _ (lt_of_block (L15.out.2.2.2.1)) (fun hx => by have := q4 _ hx; omega)).trans (L15.out.2.2.2.1), SlO.of (L15.out.2.2.2.2.1) (fun y hy => ht.block y (SlO.lt (L15.out.2.2.2.2.1) y hy) (fun hx => by have h1 := q4 y hx; have h2 := qw y hy; omega)), L15.out.2.2.2.2.2.1, L15.out.2.2.2.2.2.2.1, (ht.block _ (lt_of_block (L15.out.2.2.2.2.2.2.2.1)) (fun hx => by have := q4 _ hx; omega)).trans (L15.out.2.2.2.2.2.2.2.1), L15.out.2.2.2.2.2.2.2.2.2.2.1, L15.out.2.2.2.2.2.2.2.2.2.2.2.1, SlO.of (L15.out.2.2.2.2.2.2.2.2.2.2.2.2.1) (fun y hy => ht.block y (SlO.lt (L15.out.2.2.2.2.2.2.2.2.2.2.2.2.1) y hy) (fun hx => by have h1 := q4 y hx; have h2 := q5 y hy; omega)), L15.out.2.2.2.2.2.2.2.2.2.2.2.2.2.1, L15.out.2.2.2.2.2.2.2.2.2.2.2.2.2.2.1, L15.out.2.2.2.2.2.2.2.2.2.2.2.2.2.2.2.1, (ht.block _ (lt_of_block (L15.out.2.2.2.2.2.2.2.2.2.2.2.2.2.2.2.2.1)) (fun hx => by have := q4 _ hx; omega)).trans (L15.out.2.2.2.2.2.2.2.2.2.2.2.2.2.2.2.2.1), SlO.of (L15.out.2.2.2.2.2.2.2.2.2.2.2.2.2.2.2.2.2.1) (fun y hy => ht.block y (SlO.lt (L15.out.2.2.2.2.2.2.2.2.2.2.2.2.2.2.2.2.2.1) y hy) (fun hx => by have h1 := q4 y hx; have h2 := qg y hy; omega)), L15.out.2.2.2.2.2.2.2.2.2.2.2.2.2.2.2.2.2.2.1, L15.out.2.2.2.2.2.2.2.2.2.2.2.2.2.2.2.2.2.2.2.1, L15.out.2.2.2.2.2.2.2.2.2.2.2.2.2.2.2.2.2.2.2.2⟩
  clear L15 x5_0 x5_1 x5_2
  clear ep qw o1 q4 o2 q5 o3 qg o4
  clear ht
  simp only []
  go_wp2_with fail
  refine Calls.mono (markS (E.size + 1) E a5 le c5 bs5 (1 + 2 * d.size) v5 (Nat.lt_succ_self _) (L16.out.2.2.2.2.2.2.2.2.2.2.1) (L16.out.2.2.2.2.2.2.2.2.2.2.2.1) (by omega) (by omega)) ?_
  rintro e v6 ⟨rfl, ht, -⟩
  have ep := L16.out.2.2.1
  have qw := L16.out.2.2.2.2.2.1
  have o1 := L16.out.2.2.2.2.2.2.1
  have q4 := L16.out.2.2.2.2.2.2.2.2.1
  have o2 := L16.out.2.2.2.2.2.2.2.2.2.1
  have q5 := L16.out.2.2.2.2.2.2.2.2.2.2.2.2.1
  have o3 := L16.out.2.2.2.2.2.2.2.2.2.2.2.2.2.1
  have qg := L16.out.2.2.2.2.2.2.2.2.2.2.2.2.2.2.2.2.2.1
  have o4 := L16.out.2.2.2.2.2.2.2.2.2.2.2.2.2.2.2.2.2.2
  have L17 : Hid ((w.grownBy v6 none) ∧ (v6.heap[p]? = some (Obj.cells #[.int .i64 k, .int .i64 n, .slice a l c] 48)) ∧ (w.heap.size = p) ∧ (v6.heap[pw]? = some (Obj.cells #[.int .i64 rk, .int .i64 rn, .slice aw lw cw] 25)) ∧ (SlO v6 25 (aw) lw cw (rd) bsw) ∧ (∀ x ∈ bsw, x < pw) ∧ (p < pw) ∧ (v6.heap[px]? = some (Obj.cells #[.int .i64 k, .int .i64 n, .slice a4 l c4] 25)) ∧ (∀ x ∈ bs4, pw < x ∧ x < px) ∧ (pw < px) ∧ (∀ x ∈ bs5, px < x ∧ x < t5) ∧ (px < t5) ∧ (v6.heap[pg]? = some (Obj.cells #[.int .i64 rk, .int .i64 rn, .slice ag lw cg] 25)) ∧ (SlO v6 25 (ag) lw cg (rd) bsg) ∧ (bsg.Nodup) ∧ (∀ x ∈ bsg, t5 ≤ x ∧ x < pg) ∧ (t5 ≤ pg)) := ⟨Tn.fresh (L16.out.1) ht (fun x hx => by have := q5 x hx; omega), (ht.block _ (lt_of_block (L16.out.2.1)) (fun hx => by have := q5 _ hx; omega)).trans (L16.out.2.1), L16.out.2.2.1, (ht.block _ (lt_of_block (L16.out.2.2.2.1)) (fun hx => by have := q5 _ hx; omega)).trans (L16.out.2.2.2.1), SlO.of (L16.out.2.2.2.2.1) (fun y hy => ht.block y (SlO.lt (L16.out.2.2.2.2.1) y hy) (fun hx => by have h1 := q5 y hx; have h2 := qw y hy; omega)), L16.out.2.2.2.2.2.1, L16.out.2.2.2.2.2.2.1, (ht.block _ (lt_of_block (L16.out.2.2.2.2.2.2.2.1)) (fun hx => by have := q5 _ hx; omega)).trans (L16.out.2.2.2.2.2.2.2.1), L16.out.2.2.2.2.2.2.2.2.1, L16.out.2.2.2.2.2.2.2.2.2.1, L16.out.2.2.2.2.2.2.2.2.2.2.2.2.1, L16.out.2.2.2.2.2.2.2.2.2.2.2.2.2.1, (ht.block _ (lt_of_block (L16.out.2.2.2.2.2.2.2.2.2.2.2.2.2.2.1)) (fun hx => by have := q5 _ hx; omega)).trans (L16.out.2.2.2.2.2.2.2.2.2.2.2.2.2.2.1), SlO.of (L16.out.2.2.2.2.2.2.2.2.2.2.2.2.2.2.2.1) (fun y hy => ht.block y (SlO.lt (L16.out.2.2.2.2.2.2.2.2.2.2.2.2.2.2.2.1) y hy) (fun hx => by have h1 := q5 y hx; have h2 := qg y hy; omega)), L16.out.2.2.2.2.2.2.2.2.2.2.2.2.2.2.2.2.1, L16.out.2.2.2.2.2.2.2.2.2.2.2.2.2.2.2.2.2.1, L16.out.2.2.2.2.2.2.2.2.2.2.2.2.2.2.2.2.2.2⟩
  clear L16
  clear ep qw o1 q4 o2 q5 o3 qg o4
  clear ht
  simp only []
  have hk1 : decide ((1 : Int) + 2 * d.size + 2 * E.size < 0) = false := by simp; omega
  obtain ⟨⟨x6_0, x6_1, x6_2⟩, -⟩ := three (L17.out.2.2.2.2.2.2.2.2.2.2.2.2.1)
  obtain ⟨⟨x7_0, x7_1, x7_2⟩, -⟩ := three (L17.out.2.2.2.1)
  go_wp2_with fail
  refine Calls.mono (eqTr rd rk rn ag aw lw cg cw v6 (SlO.reads (L17.out.2.2.2.2.2.2.2.2.2.2.2.2.2.1)) (SlO.reads (L17.out.2.2.2.2.1))) ?_
  rintro e v7 ⟨rfl, hg⟩
  have L18 : Hid ((w.grownBy v7 none) ∧ (v7.heap[p]? = some (Obj.cells #[.int .i64 k, .int .i64 n, .slice a l c] 48)) ∧ (w.heap.size = p) ∧ (v7.heap[pw]? = some (Obj.cells #[.int .i64 rk, .int .i64 rn, .slice aw lw cw] 25)) ∧ (SlO v7 25 (aw) lw cw (rd) bsw) ∧ (∀ x ∈ bsw, x < pw) ∧ (p < pw) ∧ (v7.heap[px]? = some (Obj.cells #[.int .i64 k, .int .i64 n, .slice a4 l c4] 25)) ∧ (∀ x ∈ bs4, pw < x ∧ x < px) ∧ (pw < px) ∧ (∀ x ∈ bs5, px < x ∧ x < t5) ∧ (px < t5) ∧ (v7.heap[pg]? = some (Obj.cells #[.int .i64 rk, .int .i64 rn, .slice ag lw cg] 25)) ∧ (SlO v7 25 (ag) lw cg (rd) bsg) ∧ (bsg.Nodup) ∧ (∀ x ∈ bsg, t5 ≤ x ∧ x < pg) ∧ (t5 ≤ pg)) := ⟨grown_trans (L17.out.1) hg, (World.grownBy.block hg _ (lt_of_block (L17.out.2.1)) (by simp)).trans (L17.out.2.1), L17.out.2.2.1, (World.grownBy.block hg _ (lt_of_block (L17.out.2.2.2.1)) (by simp)).trans (L17.out.2.2.2.1), SlO.old (L17.out.2.2.2.2.1) hg, L17.out.2.2.2.2.2.1, L17.out.2.2.2.2.2.2.1, (World.grownBy.block hg _ (lt_of_block (L17.out.2.2.2.2.2.2.2.1)) (by simp)).trans (L17.out.2.2.2.2.2.2.2.1), L17.out.2.2.2.2.2.2.2.2.1, L17.out.2.2.2.2.2.2.2.2.2.1, L17.out.2.2.2.2.2.2.2.2.2.2.1, L17.out.2.2.2.2.2.2.2.2.2.2.2.1, (World.grownBy.block hg _ (lt_of_block (L17.out.2.2.2.2.2.2.2.2.2.2.2.2.1)) (by simp)).trans (L17.out.2.2.2.2.2.2.2.2.2.2.2.2.1), SlO.old (L17.out.2.2.2.2.2.2.2.2.2.2.2.2.2.1) hg, L17.out.2.2.2.2.2.2.2.2.2.2.2.2.2.2.1, L17.out.2.2.2.2.2.2.2.2.2.2.2.2.2.2.2.1, L17.out.2.2.2.2.2.2.2.2.2.2.2.2.2.2.2.2⟩
  clear L17 x6_0 x6_1 x6_2 x7_0 x7_1 x7_2
  clear hg
  simp only []
  clear hk1
  obtain ⟨⟨x8_0, x8_1, x8_2⟩, -⟩ := three (L18.out.2.2.2.2.2.2.2.2.2.2.2.2.1)
  go_wp2_with fail
  refine Calls.mono (markTr rd rk rn ag lw cg bsg 1 v7 (L18.out.2.2.2.2.2.2.2.2.2.2.2.2.2.1) (L18.out.2.2.2.2.2.2.2.2.2.2.2.2.2.2.1) (by omega) (by omega)) ?_
  rintro e v8 ⟨rfl, ht, hm⟩
  have ep := L18.out.2.2.1
  have qw := L18.out.2.2.2.2.2.1
  have o1 := L18.out.2.2.2.2.2.2.1
  have q4 := L18.out.2.2.2.2.2.2.2.2.1
  have o2 := L18.out.2.2.2.2.2.2.2.2.2.1
  have q5 := L18.out.2.2.2.2.2.2.2.2.2.2.1
  have o3 := L18.out.2.2.2.2.2.2.2.2.2.2.2.1
  have qg := L18.out.2.2.2.2.2.2.2.2.2.2.2.2.2.2.2.1
  have o4 := L18.out.2.2.2.2.2.2.2.2.2.2.2.2.2.2.2.2
  have L19 : Hid ((w.grownBy v8 none) ∧ (v8.heap[p]? = some (Obj.cells #[.int .i64 k, .int .i64 n, .slice a l c] 48)) ∧ (w.heap.size = p) ∧ (v8.heap[pw]? = some (Obj.cells #[.int .i64 rk, .int .i64 rn, .slice aw lw cw] 25)) ∧ (SlO v8 25 (aw) lw cw (rd) bsw) ∧ (∀ x ∈ bsw, x < pw) ∧ (p < pw) ∧ (v8.heap[px]? = some (Obj.cells #[.int .i64 k, .int .i64 n, .slice a4 l c4] 25)) ∧ (∀ x ∈ bs4, pw < x ∧ x < px) ∧ (pw < px) ∧ (∀ x ∈ bs5, px < x ∧ x < t5) ∧ (px < t5) ∧ (v8.heap[pg]? = some (Obj.cells #[.int .i64 rk, .int .i64 rn, .slice ag lw cg] 25)) ∧ (∀ x ∈ bsg, t5 ≤ x ∧ x < pg) ∧ (t5 ≤ pg) ∧ (SlO v8 25 (ag) lw cg (markF rd 1) bsg)) := ⟨Tn.fresh (L18.out.1) ht (fun x hx => by have := qg x hx; omega), (ht.block _ (lt_of_block (L18.out.2.1)) (fun hx => by have := qg _ hx; omega)).trans (L18.out.2.1), L18.out.2.2.1, (ht.block _ (lt_of_block (L18.out.2.2.2.1)) (fun hx => by have := qg _ hx; omega)).trans (L18.out.2.2.2.1), SlO.of (L18.out.2.2.2.2.1) (fun y hy => ht.block y (SlO.lt (L18.out.2.2.2.2.1) y hy) (fun hx => by have h1 := qg y hx; have h2 := qw y hy; omega)), L18.out.2.2.2.2.2.1, L18.out.2.2.2.2.2.2.1, (ht.block _ (lt_of_block (L18.out.2.2.2.2.2.2.2.1)) (fun hx => by have := qg _ hx; omega)).trans (L18.out.2.2.2.2.2.2.2.1), L18.out.2.2.2.2.2.2.2.2.1, L18.out.2.2.2.2.2.2.2.2.2.1, L18.out.2.2.2.2.2.2.2.2.2.2.1, L18.out.2.2.2.2.2.2.2.2.2.2.2.1, (ht.block _ (lt_of_block (L18.out.2.2.2.2.2.2.2.2.2.2.2.2.1)) (fun hx => by have := qg _ hx; omega)).trans (L18.out.2.2.2.2.2.2.2.2.2.2.2.2.1), L18.out.2.2.2.2.2.2.2.2.2.2.2.2.2.2.2.1, L18.out.2.2.2.2.2.2.2.2.2.2.2.2.2.2.2.2, hm⟩
  clear L18 x8_0 x8_1 x8_2
  clear ep qw o1 q4 o2 q5 o3 qg o4
  clear ht hm
  simp only []
  have hq1' : ¬ ((1 : Int) + 2 * rd.size < 0) := by omega
  obtain ⟨⟨x9_0, x9_1, x9_2⟩, -⟩ := three (L19.out.2.2.2.2.2.2.2.2.2.2.2.2.1)
  go_wp2_with fail
  refine Calls.mono (heldTr rd rk rn ag lw cg 1 v8 (SlO.reads (L19.out.2.2.2.2.2.2.2.2.2.2.2.2.2.2.2)) (by omega) (by omega)) ?_
  rintro e v9 ⟨rfl, hg⟩
  have L20 : Hid ((w.grownBy v9 none) ∧ (v9.heap[p]? = some (Obj.cells #[.int .i64 k, .int .i64 n, .slice a l c] 48)) ∧ (w.heap.size = p) ∧ (v9.heap[pw]? = some (Obj.cells #[.int .i64 rk, .int .i64 rn, .slice aw lw cw] 25)) ∧ (SlO v9 25 (aw) lw cw (rd) bsw) ∧ (∀ x ∈ bsw, x < pw) ∧ (p < pw) ∧ (v9.heap[px]? = some (Obj.cells #[.int .i64 k, .int .i64 n, .slice a4 l c4] 25)) ∧ (∀ x ∈ bs4, pw < x ∧ x < px) ∧ (pw < px) ∧ (∀ x ∈ bs5, px < x ∧ x < t5) ∧ (px < t5) ∧ (v9.heap[pg]? = some (Obj.cells #[.int .i64 rk, .int .i64 rn, .slice ag lw cg] 25)) ∧ (∀ x ∈ bsg, t5 ≤ x ∧ x < pg) ∧ (t5 ≤ pg) ∧ (SlO v9 25 (ag) lw cg (markF rd 1) bsg)) := ⟨grown_trans (L19.out.1) hg, (World.grownBy.block hg _ (lt_of_block (L19.out.2.1)) (by simp)).trans (L19.out.2.1), L19.out.2.2.1, (World.grownBy.block hg _ (lt_of_block (L19.out.2.2.2.1)) (by simp)).trans (L19.out.2.2.2.1), SlO.old (L19.out.2.2.2.2.1) hg, L19.out.2.2.2.2.2.1, L19.out.2.2.2.2.2.2.1, (World.grownBy.block hg _ (lt_of_block (L19.out.2.2.2.2.2.2.2.1)) (by simp)).trans (L19.out.2.2.2.2.2.2.2.1), L19.out.2.2.2.2.2.2.2.2.1, L19.out.2.2.2.2.2.2.2.2.2.1, L19.out.2.2.2.2.2.2.2.2.2.2.1, L19.out.2.2.2.2.2.2.2.2.2.2.2.1, (World.grownBy.block hg _ (lt_of_block (L19.out.2.2.2.2.2.2.2.2.2.2.2.2.1)) (by simp)).trans (L19.out.2.2.2.2.2.2.2.2.2.2.2.2.1), L19.out.2.2.2.2.2.2.2.2.2.2.2.2.2.1, L19.out.2.2.2.2.2.2.2.2.2.2.2.2.2.2.1, SlO.old (L19.out.2.2.2.2.2.2.2.2.2.2.2.2.2.2.2) hg⟩
  clear L19 x9_0 x9_1 x9_2
  clear hg
  simp only []
  obtain ⟨⟨x10_0, x10_1, x10_2⟩, -⟩ := three (L20.out.2.1)
  go_wp2_with fail
  refine Calls.mono (toTr d k n a l c v9 (HD.out.1.none (L20.out.1)) hds) ?_
  rintro e v10 ⟨a9, c9, bs9, rfl, hg, hn9⟩
  have L21 : Hid ((w.grownBy v10 none) ∧ (v10.heap[p]? = some (Obj.cells #[.int .i64 k, .int .i64 n, .slice a l c] 48)) ∧ (w.heap.size = p) ∧ (v10.heap[pw]? = some (Obj.cells #[.int .i64 rk, .int .i64 rn, .slice aw lw cw] 25)) ∧ (SlO v10 25 (aw) lw cw (rd) bsw) ∧ (∀ x ∈ bsw, x < pw) ∧ (p < pw) ∧ (v10.heap[px]? = some (Obj.cells #[.int .i64 k, .int .i64 n, .slice a4 l c4] 25)) ∧ (∀ x ∈ bs4, pw < x ∧ x < px) ∧ (pw < px) ∧ (∀ x ∈ bs5, px < x ∧ x < t5) ∧ (px < t5) ∧ (v10.heap[pg]? = some (Obj.cells #[.int .i64 rk, .int .i64 rn, .slice ag lw cg] 25)) ∧ (∀ x ∈ bsg, t5 ≤ x ∧ x < pg) ∧ (t5 ≤ pg) ∧ (SlO v10 25 (ag) lw cg (markF rd 1) bsg) ∧ (SlF v10 (a9) l (d))) := ⟨grown_trans (L20.out.1) hg, (World.grownBy.block hg _ (lt_of_block (L20.out.2.1)) (by simp)).trans (L20.out.2.1), L20.out.2.2.1, (World.grownBy.block hg _ (lt_of_block (L20.out.2.2.2.1)) (by simp)).trans (L20.out.2.2.2.1), SlO.old (L20.out.2.2.2.2.1) hg, L20.out.2.2.2.2.2.1, L20.out.2.2.2.2.2.2.1, (World.grownBy.block hg _ (lt_of_block (L20.out.2.2.2.2.2.2.2.1)) (by simp)).trans (L20.out.2.2.2.2.2.2.2.1), L20.out.2.2.2.2.2.2.2.2.1, L20.out.2.2.2.2.2.2.2.2.2.1, L20.out.2.2.2.2.2.2.2.2.2.2.1, L20.out.2.2.2.2.2.2.2.2.2.2.2.1, (World.grownBy.block hg _ (lt_of_block (L20.out.2.2.2.2.2.2.2.2.2.2.2.2.1)) (by simp)).trans (L20.out.2.2.2.2.2.2.2.2.2.2.2.2.1), L20.out.2.2.2.2.2.2.2.2.2.2.2.2.2.1, L20.out.2.2.2.2.2.2.2.2.2.2.2.2.2.2.1, SlO.old (L20.out.2.2.2.2.2.2.2.2.2.2.2.2.2.2.2) hg, hn9.1.reads⟩
  clear L20 x10_0 x10_1 x10_2
  clear hg
  simp only []
  clear hn9
  go_wp2_with fail
  refine Calls.mono (toS E.size E ae le ce v10 (Nat.le_refl _) hdE (HD.out.2.none (L21.out.1))) ?_
  rintro e v11 ⟨b9, e9, bt9, rfl, hg, hn9⟩
  have L22 : Hid ((w.grownBy v11 none) ∧ (v11.heap[p]? = some (Obj.cells #[.int .i64 k, .int .i64 n, .slice a l c] 48)) ∧ (w.heap.size = p) ∧ (v11.heap[pw]? = some (Obj.cells #[.int .i64 rk, .int .i64 rn, .slice aw lw cw] 25)) ∧ (SlO v11 25 (aw) lw cw (rd) bsw) ∧ (∀ x ∈ bsw, x < pw) ∧ (p < pw) ∧ (v11.heap[px]? = some (Obj.cells #[.int .i64 k, .int .i64 n, .slice a4 l c4] 25)) ∧ (∀ x ∈ bs4, pw < x ∧ x < px) ∧ (pw < px) ∧ (∀ x ∈ bs5, px < x ∧ x < t5) ∧ (px < t5) ∧ (v11.heap[pg]? = some (Obj.cells #[.int .i64 rk, .int .i64 rn, .slice ag lw cg] 25)) ∧ (∀ x ∈ bsg, t5 ≤ x ∧ x < pg) ∧ (t5 ≤ pg) ∧ (SlO v11 25 (ag) lw cg (markF rd 1) bsg) ∧ (SlF v11 (a9) l (d)) ∧ (SlF v11 (b9) le (E))) := ⟨grown_trans (L21.out.1) hg, (World.grownBy.block hg _ (lt_of_block (L21.out.2.1)) (by simp)).trans (L21.out.2.1), L21.out.2.2.1, (World.grownBy.block hg _ (lt_of_block (L21.out.2.2.2.1)) (by simp)).trans (L21.out.2.2.2.1), SlO.old (L21.out.2.2.2.2.1) hg, L21.out.2.2.2.2.2.1, L21.out.2.2.2.2.2.2.1, (World.grownBy.block hg _ (lt_of_block (L21.out.2.2.2.2.2.2.2.1)) (by simp)).trans (L21.out.2.2.2.2.2.2.2.1), L21.out.2.2.2.2.2.2.2.2.1, L21.out.2.2.2.2.2.2.2.2.2.1, L21.out.2.2.2.2.2.2.2.2.2.2.1, L21.out.2.2.2.2.2.2.2.2.2.2.2.1, (World.grownBy.block hg _ (lt_of_block (L21.out.2.2.2.2.2.2.2.2.2.2.2.2.1)) (by simp)).trans (L21.out.2.2.2.2.2.2.2.2.2.2.2.2.1), L21.out.2.2.2.2.2.2.2.2.2.2.2.2.2.1, L21.out.2.2.2.2.2.2.2.2.2.2.2.2.2.2.1, SlO.old (L21.out.2.2.2.2.2.2.2.2.2.2.2.2.2.2.2.1) hg, SlF.none (L21.out.2.2.2.2.2.2.2.2.2.2.2.2.2.2.2.2) hg, hn9.1.reads⟩
  clear L21
  clear hg
  simp only []
  clear hn9
  go_wp2_with fail
  refine Calls.mono (CIm.out a9 c9 b9 e9 v11 (L22.out.2.2.2.2.2.2.2.2.2.2.2.2.2.2.2.2.1) (L22.out.2.2.2.2.2.2.2.2.2.2.2.2.2.2.2.2.2)) ?_
  rintro e v12 ⟨ah, lh, ch, bsh, he, hg, hw⟩
  subst he
  have ga := World.grownBy_alloc v12 (.cells #[.int .i64 rk, .int .i64 rn, .slice ah lh ch] 25) none
  have ba := heap_alloc_new v12 (.cells #[.int .i64 rk, .int .i64 rn, .slice ah lh ch] 25)
  have hgg := grown_trans hg ga
  have L23 : Hid ((w.grownBy (v12.alloc (.cells #[.int .i64 rk, .int .i64 rn, .slice ah lh ch] 25)) none) ∧ ((v12.alloc (.cells #[.int .i64 rk, .int .i64 rn, .slice ah lh ch] 25)).heap[p]? = some (Obj.cells #[.int .i64 k, .int .i64 n, .slice a l c] 48)) ∧ (w.heap.size = p) ∧ ((v12.alloc (.cells #[.int .i64 rk, .int .i64 rn, .slice ah lh ch] 25)).heap[pw]? = some (Obj.cells #[.int .i64 rk, .int .i64 rn, .slice aw lw cw] 25)) ∧ (SlO (v12.alloc (.cells #[.int .i64 rk, .int .i64 rn, .slice ah lh ch] 25)) 25 (aw) lw cw (rd) bsw) ∧ (∀ x ∈ bsw, x < pw) ∧ (p < pw) ∧ ((v12.alloc (.cells #[.int .i64 rk, .int .i64 rn, .slice ah lh ch] 25)).heap[px]? = some (Obj.cells #[.int .i64 k, .int .i64 n, .slice a4 l c4] 25)) ∧ (∀ x ∈ bs4, pw < x ∧ x < px) ∧ (pw < px) ∧ (∀ x ∈ bs5, px < x ∧ x < t5) ∧ (px < t5) ∧ ((v12.alloc (.cells #[.int .i64 rk, .int .i64 rn, .slice ah lh ch] 25)).heap[pg]? = some (Obj.cells #[.int .i64 rk, .int .i64 rn, .slice ag lw cg] 25)) ∧ (∀ x ∈ bsg, t5 ≤ x ∧ x < pg) ∧ (t5 ≤ pg) ∧ (SlO (v12.alloc (.cells #[.int .i64 rk, .int .i64 rn, .slice ah lh ch] 25)) 25 (ag) lw cg (markF rd 1) bsg) ∧ ((v12.alloc (.cells #[.int .i64 rk, .int .i64 rn, .slice ah lh ch] 25)).heap[v12.heap.size]? = some (Obj.cells #[.int .i64 rk, .int .i64 rn, .slice ah lh ch] 25)) ∧ (SlO (v12.alloc (.cells #[.int .i64 rk, .int .i64 rn, .slice ah lh ch] 25)) 25 (ah) lh ch (rd) bsh)) := ⟨grown_trans (L22.out.1) hgg, (World.grownBy.block hgg _ (lt_of_block (L22.out.2.1)) (by simp)).trans (L22.out.2.1), L22.out.2.2.1, (World.grownBy.block hgg _ (lt_of_block (L22.out.2.2.2.1)) (by simp)).trans (L22.out.2.2.2.1), SlO.old (L22.out.2.2.2.2.1) hgg, L22.out.2.2.2.2.2.1, L22.out.2.2.2.2.2.2.1, (World.grownBy.block hgg _ (lt_of_block (L22.out.2.2.2.2.2.2.2.1)) (by simp)).trans (L22.out.2.2.2.2.2.2.2.1), L22.out.2.2.2.2.2.2.2.2.1, L22.out.2.2.2.2.2.2.2.2.2.1, L22.out.2.2.2.2.2.2.2.2.2.2.1, L22.out.2.2.2.2.2.2.2.2.2.2.2.1, (World.grownBy.block hgg _ (lt_of_block (L22.out.2.2.2.2.2.2.2.2.2.2.2.2.1)) (by simp)).trans (L22.out.2.2.2.2.2.2.2.2.2.2.2.2.1), L22.out.2.2.2.2.2.2.2.2.2.2.2.2.2.1, L22.out.2.2.2.2.2.2.2.2.2.2.2.2.2.2.1, SlO.old (L22.out.2.2.2.2.2.2.2.2.2.2.2.2.2.2.2.1) hgg, ba, hw.1.old ga⟩
  clear L22
  clear hg ga ba hgg
  simp only []
  clear hw
  have elh : lw = lh := (L23.out.2.2.2.2.1).1.symm.trans (L23.out.2.2.2.2.2.2.2.2.2.2.2.2.2.2.2.2.2).1
  subst elh
  obtain ⟨⟨x11_0, x11_1, x11_2⟩, -⟩ := three (L23.out.2.2.2.2.2.2.2.2.2.2.2.2.2.2.2.2.1)
  obtain ⟨⟨x12_0, x12_1, x12_2⟩, -⟩ := three (L23.out.2.2.2.1)
  go_wp2_with fail
  generalize (v12.alloc (.cells #[.int .i64 rk, .int .i64 rn, .slice ah lw ch] 25)) = v13 at *
  generalize v12.heap.size = ph at *
  refine Calls.mono (eqTr rd rk rn ah aw lw ch cw v13 (SlO.reads (L23.out.2.2.2.2.2.2.2.2.2.2.2.2.2.2.2.2.2)) (SlO.reads (L23.out.2.2.2.2.1))) ?_
  rintro e v14 ⟨rfl, hg⟩
  have L24 : Hid ((w.grownBy v14 none) ∧ (v14.heap[p]? = some (Obj.cells #[.int .i64 k, .int .i64 n, .slice a l c] 48)) ∧ (w.heap.size = p) ∧ (v14.heap[pw]? = some (Obj.cells #[.int .i64 rk, .int .i64 rn, .slice aw lw cw] 25)) ∧ (SlO v14 25 (aw) lw cw (rd) bsw) ∧ (∀ x ∈ bsw, x < pw) ∧ (p < pw) ∧ (v14.heap[px]? = some (Obj.cells #[.int .i64 k, .int .i64 n, .slice a4 l c4] 25)) ∧ (∀ x ∈ bs4, pw < x ∧ x < px) ∧ (pw < px) ∧ (∀ x ∈ bs5, px < x ∧ x < t5) ∧ (px < t5) ∧ (v14.heap[pg]? = some (Obj.cells #[.int .i64 rk, .int .i64 rn, .slice ag lw cg] 25)) ∧ (∀ x ∈ bsg, t5 ≤ x ∧ x < pg) ∧ (t5 ≤ pg) ∧ (SlO v14 25 (ag) lw cg (markF rd 1) bsg) ∧ (v14.heap[ph]? = some (Obj.cells #[.int .i64 rk, .int .i64 rn, .slice ah lw ch] 25)) ∧ (SlO v14 25 (ah) lw ch (rd) bsh)) := ⟨grown_trans (L23.out.1) hg, (World.grownBy.block hg _ (lt_of_block (L23.out.2.1)) (by simp)).trans (L23.out.2.1), L23.out.2.2.1, (World.grownBy.block hg _ (lt_of_block (L23.out.2.2.2.1)) (by simp)).trans (L23.out.2.2.2.1), SlO.old (L23.out.2.2.2.2.1) hg, L23.out.2.2.2.2.2.1, L23.out.2.2.2.2.2.2.1, (World.grownBy.block hg _ (lt_of_block (L23.out.2.2.2.2.2.2.2.1)) (by simp)).trans (L23.out.2.2.2.2.2.2.2.1), L23.out.2.2.2.2.2.2.2.2.1, L23.out.2.2.2.2.2.2.2.2.2.1, L23.out.2.2.2.2.2.2.2.2.2.2.1, L23.out.2.2.2.2.2.2.2.2.2.2.2.1, (World.grownBy.block hg _ (lt_of_block (L23.out.2.2.2.2.2.2.2.2.2.2.2.2.1)) (by simp)).trans (L23.out.2.2.2.2.2.2.2.2.2.2.2.2.1), L23.out.2.2.2.2.2.2.2.2.2.2.2.2.2.1, L23.out.2.2.2.2.2.2.2.2.2.2.2.2.2.2.1, SlO.old (L23.out.2.2.2.2.2.2.2.2.2.2.2.2.2.2.2.1) hg, (World.grownBy.block hg _ (lt_of_block (L23.out.2.2.2.2.2.2.2.2.2.2.2.2.2.2.2.2.1)) (by simp)).trans (L23.out.2.2.2.2.2.2.2.2.2.2.2.2.2.2.2.2.1), SlO.old (L23.out.2.2.2.2.2.2.2.2.2.2.2.2.2.2.2.2.2) hg⟩
  clear L23 x11_0 x11_1 x11_2 x12_0 x12_1 x12_2
  clear hg
  simp only []
  obtain ⟨⟨x13_0, x13_1, x13_2⟩, -⟩ := three (L24.out.2.2.2.2.2.2.2.2.2.2.2.2.1)
  go_wp2_with fail
  refine Calls.mono (heldTr rd rk rn ag lw cg 1 v14 (SlO.reads (L24.out.2.2.2.2.2.2.2.2.2.2.2.2.2.2.2.1)) (by omega) (by omega)) ?_
  rintro e v15 ⟨rfl, hg⟩
  have L25 : Hid ((w.grownBy v15 none) ∧ (v15.heap[p]? = some (Obj.cells #[.int .i64 k, .int .i64 n, .slice a l c] 48)) ∧ (w.heap.size = p) ∧ (v15.heap[pw]? = some (Obj.cells #[.int .i64 rk, .int .i64 rn, .slice aw lw cw] 25)) ∧ (SlO v15 25 (aw) lw cw (rd) bsw) ∧ (∀ x ∈ bsw, x < pw) ∧ (p < pw) ∧ (v15.heap[px]? = some (Obj.cells #[.int .i64 k, .int .i64 n, .slice a4 l c4] 25)) ∧ (∀ x ∈ bs4, pw < x ∧ x < px) ∧ (pw < px) ∧ (∀ x ∈ bs5, px < x ∧ x < t5) ∧ (px < t5) ∧ (v15.heap[pg]? = some (Obj.cells #[.int .i64 rk, .int .i64 rn, .slice ag lw cg] 25)) ∧ (∀ x ∈ bsg, t5 ≤ x ∧ x < pg) ∧ (t5 ≤ pg) ∧ (SlO v15 25 (ag) lw cg (markF rd 1) bsg) ∧ (v15.heap[ph]? = some (Obj.cells #[.int .i64 rk, .int .i64 rn, .slice ah lw ch] 25)) ∧ (SlO v15 25 (ah) lw ch (rd) bsh)) := ⟨grown_trans (L24.out.1) hg, (World.grownBy.block hg _ (lt_of_block (L24.out.2.1)) (by simp)).trans (L24.out.2.1), L24.out.2.2.1, (World.grownBy.block hg _ (lt_of_block (L24.out.2.2.2.1)) (by simp)).trans (L24.out.2.2.2.1), SlO.old (L24.out.2.2.2.2.1) hg, L24.out.2.2.2.2.2.1, L24.out.2.2.2.2.2.2.1, (World.grownBy.block hg _ (lt_of_block (L24.out.2.2.2.2.2.2.2.1)) (by simp)).trans (L24.out.2.2.2.2.2.2.2.1), L24.out.2.2.2.2.2.2.2.2.1, L24.out.2.2.2.2.2.2.2.2.2.1, L24.out.2.2.2.2.2.2.2.2.2.2.1, L24.out.2.2.2.2.2.2.2.2.2.2.2.1, (World.grownBy.block hg _ (lt_of_block (L24.out.2.2.2.2.2.2.2.2.2.2.2.2.1)) (by simp)).trans (L24.out.2.2.2.2.2.2.2.2.2.2.2.2.1), L24.out.2.2.2.2.2.2.2.2.2.2.2.2.2.1, L24.out.2.2.2.2.2.2.2.2.2.2.2.2.2.2.1, SlO.old (L24.out.2.2.2.2.2.2.2.2.2.2.2.2.2.2.2.1) hg, (World.grownBy.block hg _ (lt_of_block (L24.out.2.2.2.2.2.2.2.2.2.2.2.2.2.2.2.2.1)) (by simp)).trans (L24.out.2.2.2.2.2.2.2.2.2.2.2.2.2.2.2.2.1), SlO.old (L24.out.2.2.2.2.2.2.2.2.2.2.2.2.2.2.2.2.2) hg⟩
  clear L24 x13_0 x13_1 x13_2
  clear hg
  simp only []
  go_wp2
  go_ret
  exact ⟨rfl, L25.out.1⟩
end Go.Proofs.Ytmlganaiajhjeaa.By
