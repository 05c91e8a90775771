/-
  Whether a node, its parts aside, fits its form: by its contract. No statement is proved here.
-/
import Derived.Test.YtjjaocoahepdaaaDoorND
namespace Go.Proofs.YtjjaocoahepdaaaDoor.By
open Go.RowKit
set_option linter.unusedVariables false
set_option linter.unusedSimpArgs false

set_option maxRecDepth 8000 in
set_option maxHeartbeats 4000000 in
theorem fitsT (wd : ByteArray) (k n : Int) (s : ByteArray) (p : PE) (kids alts : GE) (a1 : Option Addr) (l1 c1 : Nat) (a2 : Option Addr) (l2 c2 : Nat) (a3 : Option Addr) (l3 c3 : Nat) (a4 : Option Addr) (l4 c4 : Nat) (a5 : Option Addr) (l5 c5 : Nat) (w : World) (h : NdE w p kids alts a1 l1 c1 a2 l2 c2 a3 l3 c3 a4 l4 c4 a5 l5 c5) :
    Calls Tryd.prog 29 #[.agg #[.string wd, .int .i64 k, .int .i64 n, .string s], .agg #[.int .i64 p.k, .int .i64 p.n, .slice a1 l1 c1, .slice a2 l2 c2, .slice a3 l3 c3, .slice a4 l4 c4, .slice a5 l5 c5]] w fun e u => e = .returned (.bool (fitV s p kids alts)) ∧ w.grownBy u none := by
  obtain ⟨b0, b1, bsz⟩ := alloc2_blocks w (.cells #[.string wd, .int .i64 k, .int .i64 n, .string s] 61) (.cells #[.int .i64 p.k, .int .i64 p.n, .slice a1 l1 c1, .slice a2 l2 c2, .slice a3 l3 c3, .slice a4 l4 c4, .slice a5 l5 c5] 32)
  have g0 := grown_alloc (grown_alloc (World.grownBy.refl w none) (.cells #[.string wd, .int .i64 k, .int .i64 n, .string s] 61)) (.cells #[.int .i64 p.k, .int .i64 p.n, .slice a1 l1 c1, .slice a2 l2 c2, .slice a3 l3 c3, .slice a4 l4 c4, .slice a5 l5 c5] 32)
  have HS : Hid (∀ u, w.grownBy u none → NdE u p kids alts a1 l1 c1 a2 l2 c2 a3 l3 c3 a4 l4 c4 a5 l5 c5) := fun u hu => h.none hu
  have hk4 := h.2.2.2.1.2.1
  have hf4 := h.2.2.2.1.1
  have HF : Hid (fitV s p kids alts = ((!hasB s 105 || wholeV p.n) && nfV s p.name && afV s p.name p.arg && lfV s p.lit && kfV s l4 && mfV s alts)) := by show _ = _; unfold fitV; rw [hf4]
  have L0 : Hid (w.grownBy _ none ∧ _ = some (Obj.cells #[.string wd, .int .i64 k, .int .i64 n, .string s] 61) ∧ _ = some (Obj.cells #[.int .i64 p.k, .int .i64 p.n, .slice a1 l1 c1, .slice a2 l2 c2, .slice a3 l3 c3, .slice a4 l4 c4, .slice a5 l5 c5] 32)) := ⟨g0, b0, b1⟩
  have H0 : Hid _ := hasT wd k n s 105 ((w.alloc (.cells #[.string wd, .int .i64 k, .int .i64 n, .string s] 61)).alloc (.cells #[.int .i64 p.k, .int .i64 p.n, .slice a1 l1 c1, .slice a2 l2 c2, .slice a3 l3 c3, .slice a4 l4 c4, .slice a5 l5 c5] 32))
  obtain ⟨⟨y0, y1, y2, y3⟩, -⟩ := blkF b0
  obtain ⟨⟨z0, z1, z2, z3, z4, z5, z6⟩, -⟩ := blkE b1
  clear g0 b0 b1 bsz h hf4
  go_enter Tryd.func29, Tryd.ntmps29
  go_wp2_with fail
  refine Calls.mono H0.out ?_
  rintro e u0 ⟨rfl, hg⟩
  have L1 : Hid (w.grownBy u0 none ∧ u0.heap[w.heap.size]? = some (Obj.cells #[.string wd, .int .i64 k, .int .i64 n, .string s] 61) ∧ u0.heap[w.heap.size + 1]? = some (Obj.cells #[.int .i64 p.k, .int .i64 p.n, .slice a1 l1 c1, .slice a2 l2 c2, .slice a3 l3 c3, .slice a4 l4 c4, .slice a5 l5 c5] 32)) := ⟨grown_trans L0.out.1 hg, (hg.block _ (lt_of_block L0.out.2.1) (by simp)).trans L0.out.2.1, (hg.block _ (lt_of_block L0.out.2.2) (by simp)).trans L0.out.2.2⟩
  clear H0 hg L0 y0 y1 y2 y3 z0 z1 z2 z3 z4 z5 z6
  obtain ⟨⟨y0, y1, y2, y3⟩, -⟩ := blkF L1.out.2.1
  obtain ⟨⟨z0, z1, z2, z3, z4, z5, z6⟩, -⟩ := blkE L1.out.2.2
  simp only []
  have eL : (((105 : UInt8).toNat : Nat) : Int) = 105 := rfl
  cases hb : hasB s 105 with
  | true =>
    rw [eL, hb]
    have C1 : Hid (Calls Tryd.prog 39 #[.int .i64 p.n] u0 fun e u => e = .returned (.bool (wholeV p.n)) ∧ u0.grownBy u none) := (isWholeT p.n u0).mono fun e u hh => ⟨hh.1, by rw [hh.2]; exact World.grownBy.refl _ _⟩
    go_wp2_with fail
    refine Calls.mono C1.out ?_
    rintro e u2 ⟨rfl, hg⟩
    have L2 : Hid (w.grownBy u2 none ∧ u2.heap[w.heap.size]? = some (Obj.cells #[.string wd, .int .i64 k, .int .i64 n, .string s] 61) ∧ u2.heap[w.heap.size + 1]? = some (Obj.cells #[.int .i64 p.k, .int .i64 p.n, .slice a1 l1 c1, .slice a2 l2 c2, .slice a3 l3 c3, .slice a4 l4 c4, .slice a5 l5 c5] 32)) := ⟨grown_trans L1.out.1 hg, (hg.block _ (lt_of_block L1.out.2.1) (by simp)).trans L1.out.2.1, (hg.block _ (lt_of_block L1.out.2.2) (by simp)).trans L1.out.2.2⟩
    clear C1 hg L1 y0 y1 y2 y3 z0 z1 z2 z3 z4 z5 z6
    obtain ⟨⟨y0, y1, y2, y3⟩, -⟩ := blkF L2.out.2.1
    obtain ⟨⟨z0, z1, z2, z3, z4, z5, z6⟩, -⟩ := blkE L2.out.2.2
    simp only []
    cases hw : wholeV p.n with
    | false =>
      go_wp2
      go_ret
      exact ⟨by rw [HF.out]; simp [hb, hw], L2.out.1⟩
    | true =>
      have C10 : Hid _ := nameFitsT wd k n s a1 l1 c1 p.name u2 (HS.out _ L2.out.1).1
      go_wp2_with fail
      refine Calls.mono C10.out ?_
      rintro e u3 ⟨rfl, hg⟩
      have L3 : Hid (w.grownBy u3 none ∧ u3.heap[w.heap.size]? = some (Obj.cells #[.string wd, .int .i64 k, .int .i64 n, .string s] 61) ∧ u3.heap[w.heap.size + 1]? = some (Obj.cells #[.int .i64 p.k, .int .i64 p.n, .slice a1 l1 c1, .slice a2 l2 c2, .slice a3 l3 c3, .slice a4 l4 c4, .slice a5 l5 c5] 32)) := ⟨grown_trans L2.out.1 hg, (hg.block _ (lt_of_block L2.out.2.1) (by simp)).trans L2.out.2.1, (hg.block _ (lt_of_block L2.out.2.2) (by simp)).trans L2.out.2.2⟩
      clear C10 hg L2 y0 y1 y2 y3 z0 z1 z2 z3 z4 z5 z6
      obtain ⟨⟨y0, y1, y2, y3⟩, -⟩ := blkF L3.out.2.1
      obtain ⟨⟨z0, z1, z2, z3, z4, z5, z6⟩, -⟩ := blkE L3.out.2.2
      simp only []
      cases hq0 : nfV s p.name with
      | false =>
        go_wp2
        go_ret
        exact ⟨by rw [HF.out]; simp [hb, hw, hq0], L3.out.1⟩
      | true =>
        have C11 : Hid _ := argFitsT wd k n s a1 l1 c1 p.name a2 l2 c2 p.arg u3 (HS.out _ L3.out.1).1 (HS.out _ L3.out.1).2.1
        go_wp2_with fail
        refine Calls.mono C11.out ?_
        rintro e u4 ⟨rfl, hg⟩
        have L4 : Hid (w.grownBy u4 none ∧ u4.heap[w.heap.size]? = some (Obj.cells #[.string wd, .int .i64 k, .int .i64 n, .string s] 61) ∧ u4.heap[w.heap.size + 1]? = some (Obj.cells #[.int .i64 p.k, .int .i64 p.n, .slice a1 l1 c1, .slice a2 l2 c2, .slice a3 l3 c3, .slice a4 l4 c4, .slice a5 l5 c5] 32)) := ⟨grown_trans L3.out.1 hg, (hg.block _ (lt_of_block L3.out.2.1) (by simp)).trans L3.out.2.1, (hg.block _ (lt_of_block L3.out.2.2) (by simp)).trans L3.out.2.2⟩
        clear C11 hg L3 y0 y1 y2 y3 z0 z1 z2 z3 z4 z5 z6
        obtain ⟨⟨y0, y1, y2, y3⟩, -⟩ := blkF L4.out.2.1
        obtain ⟨⟨z0, z1, z2, z3, z4, z5, z6⟩, -⟩ := blkE L4.out.2.2
        simp only []
        cases hq1 : afV s p.name p.arg with
        | false =>
          go_wp2
          go_ret
          exact ⟨by rw [HF.out]; simp [hb, hw, hq0, hq1], L4.out.1⟩
        | true =>
          have C12 : Hid _ := litFitsT wd k n s a3 l3 c3 p.lit u4 (HS.out _ L4.out.1).2.2.1
          go_wp2_with fail
          refine Calls.mono C12.out ?_
          rintro e u5 ⟨rfl, hg⟩
          have L5 : Hid (w.grownBy u5 none ∧ u5.heap[w.heap.size]? = some (Obj.cells #[.string wd, .int .i64 k, .int .i64 n, .string s] 61) ∧ u5.heap[w.heap.size + 1]? = some (Obj.cells #[.int .i64 p.k, .int .i64 p.n, .slice a1 l1 c1, .slice a2 l2 c2, .slice a3 l3 c3, .slice a4 l4 c4, .slice a5 l5 c5] 32)) := ⟨grown_trans L4.out.1 hg, (hg.block _ (lt_of_block L4.out.2.1) (by simp)).trans L4.out.2.1, (hg.block _ (lt_of_block L4.out.2.2) (by simp)).trans L4.out.2.2⟩
          clear C12 hg L4 y0 y1 y2 y3 z0 z1 z2 z3 z4 z5 z6
          obtain ⟨⟨y0, y1, y2, y3⟩, -⟩ := blkF L5.out.2.1
          obtain ⟨⟨z0, z1, z2, z3, z4, z5, z6⟩, -⟩ := blkE L5.out.2.2
          simp only []
          cases hq2 : lfV s p.lit with
          | false =>
            go_wp2
            go_ret
            exact ⟨by rw [HF.out]; simp [hb, hw, hq0, hq1, hq2], L5.out.1⟩
          | true =>
            have C13 : Hid _ := kidsFitT wd k n s l4 u5 hk4
            go_wp2_with fail
            refine Calls.mono C13.out ?_
            rintro e u6 ⟨rfl, hg⟩
            have L6 : Hid (w.grownBy u6 none ∧ u6.heap[w.heap.size]? = some (Obj.cells #[.string wd, .int .i64 k, .int .i64 n, .string s] 61) ∧ u6.heap[w.heap.size + 1]? = some (Obj.cells #[.int .i64 p.k, .int .i64 p.n, .slice a1 l1 c1, .slice a2 l2 c2, .slice a3 l3 c3, .slice a4 l4 c4, .slice a5 l5 c5] 32)) := ⟨grown_trans L5.out.1 hg, (hg.block _ (lt_of_block L5.out.2.1) (by simp)).trans L5.out.2.1, (hg.block _ (lt_of_block L5.out.2.2) (by simp)).trans L5.out.2.2⟩
            clear C13 hg L5 y0 y1 y2 y3 z0 z1 z2 z3 z4 z5 z6
            obtain ⟨⟨y0, y1, y2, y3⟩, -⟩ := blkF L6.out.2.1
            obtain ⟨⟨z0, z1, z2, z3, z4, z5, z6⟩, -⟩ := blkE L6.out.2.2
            simp only []
            cases hq3 : kfV s l4 with
            | false =>
              go_wp2
              go_ret
              exact ⟨by rw [HF.out]; simp [hb, hw, hq0, hq1, hq2, hq3], L6.out.1⟩
            | true =>
              have C14 : Hid _ := armsFitT wd k n s alts a5 l5 c5 u6 (HS.out _ L6.out.1).2.2.2.2
              go_wp2_with fail
              refine Calls.mono C14.out ?_
              rintro e u7 ⟨rfl, hg⟩
              have L7 : Hid (w.grownBy u7 none ∧ u7.heap[w.heap.size]? = some (Obj.cells #[.string wd, .int .i64 k, .int .i64 n, .string s] 61) ∧ u7.heap[w.heap.size + 1]? = some (Obj.cells #[.int .i64 p.k, .int .i64 p.n, .slice a1 l1 c1, .slice a2 l2 c2, .slice a3 l3 c3, .slice a4 l4 c4, .slice a5 l5 c5] 32)) := ⟨grown_trans L6.out.1 hg, (hg.block _ (lt_of_block L6.out.2.1) (by simp)).trans L6.out.2.1, (hg.block _ (lt_of_block L6.out.2.2) (by simp)).trans L6.out.2.2⟩
              clear C14 hg L6 y0 y1 y2 y3 z0 z1 z2 z3 z4 z5 z6
              obtain ⟨⟨y0, y1, y2, y3⟩, -⟩ := blkF L7.out.2.1
              obtain ⟨⟨z0, z1, z2, z3, z4, z5, z6⟩, -⟩ := blkE L7.out.2.2
              simp only []
              go_wp2
              go_ret
              exact ⟨by rw [HF.out]; simp [hb, hw, hq0, hq1, hq2, hq3], L7.out.1⟩
  | false =>
    rw [eL, hb]
    have L2 : Hid (w.grownBy u0 none ∧ u0.heap[w.heap.size]? = some (Obj.cells #[.string wd, .int .i64 k, .int .i64 n, .string s] 61) ∧ u0.heap[w.heap.size + 1]? = some (Obj.cells #[.int .i64 p.k, .int .i64 p.n, .slice a1 l1 c1, .slice a2 l2 c2, .slice a3 l3 c3, .slice a4 l4 c4, .slice a5 l5 c5] 32)) := L1.out
    clear L1
    generalize u0 = u2 at *
    have C10 : Hid _ := nameFitsT wd k n s a1 l1 c1 p.name u2 (HS.out _ L2.out.1).1
    go_wp2_with fail
    refine Calls.mono C10.out ?_
    rintro e u3 ⟨rfl, hg⟩
    have L3 : Hid (w.grownBy u3 none ∧ u3.heap[w.heap.size]? = some (Obj.cells #[.string wd, .int .i64 k, .int .i64 n, .string s] 61) ∧ u3.heap[w.heap.size + 1]? = some (Obj.cells #[.int .i64 p.k, .int .i64 p.n, .slice a1 l1 c1, .slice a2 l2 c2, .slice a3 l3 c3, .slice a4 l4 c4, .slice a5 l5 c5] 32)) := ⟨grown_trans L2.out.1 hg, (hg.block _ (lt_of_block L2.out.2.1) (by simp)).trans L2.out.2.1, (hg.block _ (lt_of_block L2.out.2.2) (by simp)).trans L2.out.2.2⟩
    clear C10 hg L2 y0 y1 y2 y3 z0 z1 z2 z3 z4 z5 z6
    obtain ⟨⟨y0, y1, y2, y3⟩, -⟩ := blkF L3.out.2.1
    obtain ⟨⟨z0, z1, z2, z3, z4, z5, z6⟩, -⟩ := blkE L3.out.2.2
    simp only []
    cases hq0 : nfV s p.name with
    | false =>
      go_wp2
      go_ret
      exact ⟨by rw [HF.out]; simp [hb, hq0], L3.out.1⟩
    | true =>
      have C11 : Hid _ := argFitsT wd k n s a1 l1 c1 p.name a2 l2 c2 p.arg u3 (HS.out _ L3.out.1).1 (HS.out _ L3.out.1).2.1
      go_wp2_with fail
      refine Calls.mono C11.out ?_
      rintro e u4 ⟨rfl, hg⟩
      have L4 : Hid (w.grownBy u4 none ∧ u4.heap[w.heap.size]? = some (Obj.cells #[.string wd, .int .i64 k, .int .i64 n, .string s] 61) ∧ u4.heap[w.heap.size + 1]? = some (Obj.cells #[.int .i64 p.k, .int .i64 p.n, .slice a1 l1 c1, .slice a2 l2 c2, .slice a3 l3 c3, .slice a4 l4 c4, .slice a5 l5 c5] 32)) := ⟨grown_trans L3.out.1 hg, (hg.block _ (lt_of_block L3.out.2.1) (by simp)).trans L3.out.2.1, (hg.block _ (lt_of_block L3.out.2.2) (by simp)).trans L3.out.2.2⟩
      clear C11 hg L3 y0 y1 y2 y3 z0 z1 z2 z3 z4 z5 z6
      obtain ⟨⟨y0, y1, y2, y3⟩, -⟩ := blkF L4.out.2.1
      obtain ⟨⟨z0, z1, z2, z3, z4, z5, z6⟩, -⟩ := blkE L4.out.2.2
      simp only []
      cases hq1 : afV s p.name p.arg with
      | false =>
        go_wp2
        go_ret
        exact ⟨by rw [HF.out]; simp [hb, hq0, hq1], L4.out.1⟩
      | true =>
        have C12 : Hid _ := litFitsT wd k n s a3 l3 c3 p.lit u4 (HS.out _ L4.out.1).2.2.1
        go_wp2_with fail
        refine Calls.mono C12.out ?_
        rintro e u5 ⟨rfl, hg⟩
        have L5 : Hid (w.grownBy u5 none ∧ u5.heap[w.heap.size]? = some (Obj.cells #[.string wd, .int .i64 k, .int .i64 n, .string s] 61) ∧ u5.heap[w.heap.size + 1]? = some (Obj.cells #[.int .i64 p.k, .int .i64 p.n, .slice a1 l1 c1, .slice a2 l2 c2, .slice a3 l3 c3, .slice a4 l4 c4, .slice a5 l5 c5] 32)) := ⟨grown_trans L4.out.1 hg, (hg.block _ (lt_of_block L4.out.2.1) (by simp)).trans L4.out.2.1, (hg.block _ (lt_of_block L4.out.2.2) (by simp)).trans L4.out.2.2⟩
        clear C12 hg L4 y0 y1 y2 y3 z0 z1 z2 z3 z4 z5 z6
        obtain ⟨⟨y0, y1, y2, y3⟩, -⟩ := blkF L5.out.2.1
        obtain ⟨⟨z0, z1, z2, z3, z4, z5, z6⟩, -⟩ := blkE L5.out.2.2
        simp only []
        cases hq2 : lfV s p.lit with
        | false =>
          go_wp2
          go_ret
          exact ⟨by rw [HF.out]; simp [hb, hq0, hq1, hq2], L5.out.1⟩
        | true =>
          have C13 : Hid _ := kidsFitT wd k n s l4 u5 hk4
          go_wp2_with fail
          refine Calls.mono C13.out ?_
          rintro e u6 ⟨rfl, hg⟩
          have L6 : Hid (w.grownBy u6 none ∧ u6.heap[w.heap.size]? = some (Obj.cells #[.string wd, .int .i64 k, .int .i64 n, .string s] 61) ∧ u6.heap[w.heap.size + 1]? = some (Obj.cells #[.int .i64 p.k, .int .i64 p.n, .slice a1 l1 c1, .slice a2 l2 c2, .slice a3 l3 c3, .slice a4 l4 c4, .slice a5 l5 c5] 32)) := ⟨grown_trans L5.out.1 hg, (hg.block _ (lt_of_block L5.out.2.1) (by simp)).trans L5.out.2.1, (hg.block _ (lt_of_block L5.out.2.2) (by simp)).trans L5.out.2.2⟩
          clear C13 hg L5 y0 y1 y2 y3 z0 z1 z2 z3 z4 z5 z6
          obtain ⟨⟨y0, y1, y2, y3⟩, -⟩ := blkF L6.out.2.1
          obtain ⟨⟨z0, z1, z2, z3, z4, z5, z6⟩, -⟩ := blkE L6.out.2.2
          simp only []
          cases hq3 : kfV s l4 with
          | false =>
            go_wp2
            go_ret
            exact ⟨by rw [HF.out]; simp [hb, hq0, hq1, hq2, hq3], L6.out.1⟩
          | true =>
            have C14 : Hid _ := armsFitT wd k n s alts a5 l5 c5 u6 (HS.out _ L6.out.1).2.2.2.2
            go_wp2_with fail
            refine Calls.mono C14.out ?_
            rintro e u7 ⟨rfl, hg⟩
            have L7 : Hid (w.grownBy u7 none ∧ u7.heap[w.heap.size]? = some (Obj.cells #[.string wd, .int .i64 k, .int .i64 n, .string s] 61) ∧ u7.heap[w.heap.size + 1]? = some (Obj.cells #[.int .i64 p.k, .int .i64 p.n, .slice a1 l1 c1, .slice a2 l2 c2, .slice a3 l3 c3, .slice a4 l4 c4, .slice a5 l5 c5] 32)) := ⟨grown_trans L6.out.1 hg, (hg.block _ (lt_of_block L6.out.2.1) (by simp)).trans L6.out.2.1, (hg.block _ (lt_of_block L6.out.2.2) (by simp)).trans L6.out.2.2⟩
            clear C14 hg L6 y0 y1 y2 y3 z0 z1 z2 z3 z4 z5 z6
            obtain ⟨⟨y0, y1, y2, y3⟩, -⟩ := blkF L7.out.2.1
            obtain ⟨⟨z0, z1, z2, z3, z4, z5, z6⟩, -⟩ := blkE L7.out.2.2
            simp only []
            go_wp2
            go_ret
            exact ⟨by rw [HF.out]; simp [hb, hq0, hq1, hq2, hq3], L7.out.1⟩
end Go.Proofs.YtjjaocoahepdaaaDoor.By
