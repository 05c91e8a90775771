/-
  The walk of laws.FnExactTyRead. No statement is proved here.
-/
import Derived.Test.YtbannlaeapfllabTRdI
import Derived.Test.YtbannlaeapfllabTByL
import Derived.Test.YtbannlaeapfllabTLaw
namespace Go.Proofs.Ytbannlaeapfllab.By
open Go.RowKit
set_option linter.unusedVariables false
set_option linter.unusedSimpArgs false

theorem readV_size (zs : List Int) (p : Int) : (readV zs p).2.2.1.size ≤ 60 := by
  unfold readV
  cases rdT zs 10 p with
  | none => simp [F.size]
  | some y =>
    simp only []
    by_cases h : okT y.1 y.2.1 y.2.2.1 = true
    · rw [if_pos h]
      simp only [okT, Bool.and_eq_true, decide_eq_true_eq] at h
      omega
    · rw [if_neg h]; simp [F.size]

set_option maxRecDepth 8000 in
set_option maxHeartbeats 8000000 in
theorem lawTyRead (a0 : Option Addr) (n cap : Nat) (zs : List Int) (hz : Byt zs) (p : Int) (w : World) (hr : Reads w a0 n zs) (hp : p ≤ 9223372036854775807) :
    Calls Try.prog 7 #[.slice a0 n cap, .int .i64 p] w fun e u => e = .returned (.bool true) ∧ w.grownBy u none := by
  by_cases hs : n ≤ 1048576
  rotate_left
  · have hs' : (1048576 : Int) < n := by omega
    clear hr
    go_enter Try.func7, Try.ntmps7
    go_wp2
    go_ret
    exact ⟨rfl, World.grownBy.refl _ _⟩
  have hs' : ¬ ((1048576 : Int) < n) := by omega
  have hlen := hr.1
  have HD : Hid (Reads w a0 n zs) := hr
  have C1 : Hid _ := toB a0 n cap zs w hr hs
  have hsz60 := readV_size zs p
  have CSp : Hid (∀ (a5 : Option Addr) (c5 : Nat) (u : World), Reads u a5 n zs → _) := fun a5 c5 u h5 => specTyReadT a5 n c5 zs hz hs p u h5 hp
  have CIm : Hid (∀ (a5 : Option Addr) (c5 : Nat) (u : World), Reads u a5 n zs → _) := fun a5 c5 u h5 => implTyReadT a5 n c5 zs hz hs p u h5 hp
  generalize readV zs p = RR at *
  obtain ⟨rk, rn, rd, rp⟩ := RR
  simp only [RdP] at CSp CIm hsz60
  clear hr
  go_enter Try.func7, Try.ntmps7
  go_wp2_with fail
  refine Calls.mono C1.out ?_
  rintro e w1 ⟨g1, rfl, hg, hb1, hrow1⟩
  have L1 : Hid ((w.grownBy w1 none) ∧ (Row w1 g1 n zs)) := ⟨hg, hrow1⟩
  clear hg hb1 hrow1 C1
  simp only []
  go_wp2_with fail
  refine Calls.mono (CSp.out _ n w1 ((L1.out.2).reads' hlen)) ?_
  rintro e w2 ⟨aw, lw, cw, bsw, he, hg, hw⟩
  subst he
  have ga := World.grownBy_alloc w2 (.cells #[.int .i64 rk, .int .i64 rn, .slice aw lw cw] 29) none
  have ba := heap_alloc_new w2 (.cells #[.int .i64 rk, .int .i64 rn, .slice aw lw cw] 29)
  have hgg := grown_trans hg ga
  have L2 : Hid ((w.grownBy (w2.alloc (.cells #[.int .i64 rk, .int .i64 rn, .slice aw lw cw] 29)) none) ∧ ((w2.alloc (.cells #[.int .i64 rk, .int .i64 rn, .slice aw lw cw] 29)).heap[w2.heap.size]? = some (Obj.cells #[.int .i64 rk, .int .i64 rn, .slice aw lw cw] 29)) ∧ (SlO (w2.alloc (.cells #[.int .i64 rk, .int .i64 rn, .slice aw lw cw] 29)) 29 (aw) lw cw (rd) bsw) ∧ (∀ x ∈ bsw, x < w2.heap.size) ∧ (w.heap.size ≤ w2.heap.size)) := ⟨grown_trans (L1.out.1) hgg, ba, hw.1.old ga, hw.1.lt, Nat.le_trans (L1.out.1).size hg.size⟩
  clear L1
  clear hg ga ba hgg
  simp only []
  clear hw CSp
  go_wp2_with fail
  generalize (w2.alloc (.cells #[.int .i64 rk, .int .i64 rn, .slice aw lw cw] 29)) = u2 at *
  generalize w2.heap.size = pw at *
  refine Calls.mono (toB a0 n cap zs u2 (HD.out.none (L2.out.1)) hs) ?_
  rintro e w3 ⟨gx, rfl, hg, hb3, hrow3⟩
  have L3 : Hid ((w.grownBy w3 none) ∧ (w3.heap[pw]? = some (Obj.cells #[.int .i64 rk, .int .i64 rn, .slice aw lw cw] 29)) ∧ (SlO w3 29 (aw) lw cw (rd) bsw) ∧ (∀ x ∈ bsw, x < pw) ∧ (w.heap.size ≤ pw) ∧ (Row w3 gx n zs) ∧ (pw < gx)) := ⟨grown_trans (L2.out.1) hg, (World.grownBy.block hg _ (lt_of_block (L2.out.2.1)) (by simp)).trans (L2.out.2.1), SlO.old (L2.out.2.2.1) hg, L2.out.2.2.2.1, L2.out.2.2.2.2, hrow3, Nat.lt_of_lt_of_le (lt_of_block (L2.out.2.1)) hb3⟩
  clear L2
  clear hg hb3 hrow3
  simp only []
  go_wp2_with fail
  refine Calls.mono (CIm.out _ n w3 ((L3.out.2.2.2.2.2.1).reads' hlen)) ?_
  rintro e w4 ⟨ag, lg, cg, bsg, he, hg, hw⟩
  subst he
  have ga := World.grownBy_alloc w4 (.cells #[.int .i64 rk, .int .i64 rn, .slice ag lg cg] 29) none
  have ba := heap_alloc_new w4 (.cells #[.int .i64 rk, .int .i64 rn, .slice ag lg cg] 29)
  have hgg := grown_trans hg ga
  have L4 : Hid ((w.grownBy (w4.alloc (.cells #[.int .i64 rk, .int .i64 rn, .slice ag lg cg] 29)) none) ∧ ((w4.alloc (.cells #[.int .i64 rk, .int .i64 rn, .slice ag lg cg] 29)).heap[pw]? = some (Obj.cells #[.int .i64 rk, .int .i64 rn, .slice aw lw cw] 29)) ∧ (SlO (w4.alloc (.cells #[.int .i64 rk, .int .i64 rn, .slice ag lg cg] 29)) 29 (aw) lw cw (rd) bsw) ∧ (∀ x ∈ bsw, x < pw) ∧ (w.heap.size ≤ pw) ∧ (Row (w4.alloc (.cells #[.int .i64 rk, .int .i64 rn, .slice ag lg cg] 29)) gx n zs) ∧ (pw < gx) ∧ ((w4.alloc (.cells #[.int .i64 rk, .int .i64 rn, .slice ag lg cg] 29)).heap[w4.heap.size]? = some (Obj.cells #[.int .i64 rk, .int .i64 rn, .slice ag lg cg] 29)) ∧ (SlO (w4.alloc (.cells #[.int .i64 rk, .int .i64 rn, .slice ag lg cg] 29)) 29 (ag) lg cg (rd) bsg) ∧ (bsg.Nodup) ∧ (∀ x ∈ bsg, gx < x ∧ x < w4.heap.size) ∧ (gx < w4.heap.size)) := ⟨grown_trans (L3.out.1) hgg, (World.grownBy.block hgg _ (lt_of_block (L3.out.2.1)) (by simp)).trans (L3.out.2.1), SlO.old (L3.out.2.2.1) hgg, L3.out.2.2.2.1, L3.out.2.2.2.2.1, Row.kept (L3.out.2.2.2.2.2.1) hgg (by simp), L3.out.2.2.2.2.2.2, ba, hw.1.old ga, hw.2.1, fun x hx => ⟨Nat.lt_of_lt_of_le ((L3.out.2.2.2.2.2.1).lt) (hw.2.2 x hx), hw.1.lt x hx⟩, Nat.lt_of_lt_of_le ((L3.out.2.2.2.2.2.1).lt) hg.size⟩
  clear L3
  clear hg ga ba hgg
  simp only []
  clear hw
  have elw : lw = lg := (L4.out.2.2.1).1.symm.trans (L4.out.2.2.2.2.2.2.2.2.1).1
  subst elw
  obtain ⟨⟨x0_0, x0_1, x0_2⟩, -⟩ := three (L4.out.2.2.2.2.2.2.2.1)
  obtain ⟨⟨x1_0, x1_1, x1_2⟩, -⟩ := three (L4.out.2.1)
  go_wp2_with fail
  generalize (w4.alloc (.cells #[.int .i64 rk, .int .i64 rn, .slice ag lw cg] 29)) = u4 at *
  generalize w4.heap.size = pg at *
  refine Calls.mono (eqTr rd rk rn ag aw lw cg cw u4 (SlO.reads (L4.out.2.2.2.2.2.2.2.2.1)) (SlO.reads (L4.out.2.2.1))) ?_
  rintro e u5 ⟨rfl, hg⟩
  have L5 : Hid ((w.grownBy u5 none) ∧ (u5.heap[pw]? = some (Obj.cells #[.int .i64 rk, .int .i64 rn, .slice aw lw cw] 29)) ∧ (SlO u5 29 (aw) lw cw (rd) bsw) ∧ (∀ x ∈ bsw, x < pw) ∧ (w.heap.size ≤ pw) ∧ (Row u5 gx n zs) ∧ (pw < gx) ∧ (u5.heap[pg]? = some (Obj.cells #[.int .i64 rk, .int .i64 rn, .slice ag lw cg] 29)) ∧ (SlO u5 29 (ag) lw cg (rd) bsg) ∧ (bsg.Nodup) ∧ (∀ x ∈ bsg, gx < x ∧ x < pg) ∧ (gx < pg)) := ⟨grown_trans (L4.out.1) hg, (World.grownBy.block hg _ (lt_of_block (L4.out.2.1)) (by simp)).trans (L4.out.2.1), SlO.old (L4.out.2.2.1) hg, L4.out.2.2.2.1, L4.out.2.2.2.2.1, Row.kept (L4.out.2.2.2.2.2.1) hg (by simp), L4.out.2.2.2.2.2.2.1, (World.grownBy.block hg _ (lt_of_block (L4.out.2.2.2.2.2.2.2.1)) (by simp)).trans (L4.out.2.2.2.2.2.2.2.1), SlO.old (L4.out.2.2.2.2.2.2.2.2.1) hg, L4.out.2.2.2.2.2.2.2.2.2.1, L4.out.2.2.2.2.2.2.2.2.2.2.1, L4.out.2.2.2.2.2.2.2.2.2.2.2⟩
  clear L4 x0_0 x0_1 x0_2 x1_0 x1_1 x1_2
  clear hg
  simp only []
  go_wp2_with fail
  refine Calls.mono (toB a0 n cap zs u5 (HD.out.none (L5.out.1)) hs) ?_
  rintro e u6 ⟨g6, rfl, hg, hb6, hrow6⟩
  have L6 : Hid ((w.grownBy u6 none) ∧ (u6.heap[pw]? = some (Obj.cells #[.int .i64 rk, .int .i64 rn, .slice aw lw cw] 29)) ∧ (SlO u6 29 (aw) lw cw (rd) bsw) ∧ (∀ x ∈ bsw, x < pw) ∧ (w.heap.size ≤ pw) ∧ (Row u6 gx n zs) ∧ (pw < gx) ∧ (u6.heap[pg]? = some (Obj.cells #[.int .i64 rk, .int .i64 rn, .slice ag lw cg] 29)) ∧ (SlO u6 29 (ag) lw cg (rd) bsg) ∧ (bsg.Nodup) ∧ (∀ x ∈ bsg, gx < x ∧ x < pg) ∧ (gx < pg) ∧ (Row u6 g6 n zs)) := ⟨grown_trans (L5.out.1) hg, (World.grownBy.block hg _ (lt_of_block (L5.out.2.1)) (by simp)).trans (L5.out.2.1), SlO.old (L5.out.2.2.1) hg, L5.out.2.2.2.1, L5.out.2.2.2.2.1, Row.kept (L5.out.2.2.2.2.2.1) hg (by simp), L5.out.2.2.2.2.2.2.1, (World.grownBy.block hg _ (lt_of_block (L5.out.2.2.2.2.2.2.2.1)) (by simp)).trans (L5.out.2.2.2.2.2.2.2.1), SlO.old (L5.out.2.2.2.2.2.2.2.2.1) hg, L5.out.2.2.2.2.2.2.2.2.2.1, L5.out.2.2.2.2.2.2.2.2.2.2.1, L5.out.2.2.2.2.2.2.2.2.2.2.2, hrow6⟩
  clear L5
  clear hg
  simp only []
  clear hb6 hrow6
  go_wp2_with fail
  refine Calls.mono (eqT _ _ n n n zs u6 ((L6.out.2.2.2.2.2.1).reads' hlen) ((L6.out.2.2.2.2.2.2.2.2.2.2.2.2).reads' hlen) (by omega)) ?_
  rintro e u7 ⟨rfl, hq7⟩
  have hg := quiet hq7
  clear hq7
  have L7 : Hid ((w.grownBy u7 none) ∧ (u7.heap[pw]? = some (Obj.cells #[.int .i64 rk, .int .i64 rn, .slice aw lw cw] 29)) ∧ (SlO u7 29 (aw) lw cw (rd) bsw) ∧ (∀ x ∈ bsw, x < pw) ∧ (w.heap.size ≤ pw) ∧ (Row u7 gx n zs) ∧ (pw < gx) ∧ (u7.heap[pg]? = some (Obj.cells #[.int .i64 rk, .int .i64 rn, .slice ag lw cg] 29)) ∧ (SlO u7 29 (ag) lw cg (rd) bsg) ∧ (bsg.Nodup) ∧ (∀ x ∈ bsg, gx < x ∧ x < pg) ∧ (gx < pg)) := ⟨grown_trans (L6.out.1) hg, (World.grownBy.block hg _ (lt_of_block (L6.out.2.1)) (by simp)).trans (L6.out.2.1), SlO.old (L6.out.2.2.1) hg, L6.out.2.2.2.1, L6.out.2.2.2.2.1, Row.kept (L6.out.2.2.2.2.2.1) hg (by simp), L6.out.2.2.2.2.2.2.1, (World.grownBy.block hg _ (lt_of_block (L6.out.2.2.2.2.2.2.2.1)) (by simp)).trans (L6.out.2.2.2.2.2.2.2.1), SlO.old (L6.out.2.2.2.2.2.2.2.2.1) hg, L6.out.2.2.2.2.2.2.2.2.2.1, L6.out.2.2.2.2.2.2.2.2.2.2.1, L6.out.2.2.2.2.2.2.2.2.2.2.2.1⟩
  clear L6
  clear hg
  simp only []
  go_wp2_with fail
  refine Calls.mono (markT gx n n zs 1 u7 (L7.out.2.2.2.2.2.1) hlen (by omega) (by omega) (by omega)) ?_
  rintro e u8 ⟨rfl, hg, -, -⟩
  have qw := L7.out.2.2.2.1
  have o1 := L7.out.2.2.2.2.1
  have o2 := L7.out.2.2.2.2.2.2.1
  have qg := L7.out.2.2.2.2.2.2.2.2.2.2.1
  have o3 := L7.out.2.2.2.2.2.2.2.2.2.2.2
  have L8 : Hid ((w.grownBy u8 none) ∧ (u8.heap[pw]? = some (Obj.cells #[.int .i64 rk, .int .i64 rn, .slice aw lw cw] 29)) ∧ (SlO u8 29 (aw) lw cw (rd) bsw) ∧ (∀ x ∈ bsw, x < pw) ∧ (w.heap.size ≤ pw) ∧ (pw < gx) ∧ (u8.heap[pg]? = some (Obj.cells #[.int .i64 rk, .int .i64 rn, .slice ag lw cg] 29)) ∧ (SlO u8 29 (ag) lw cg (rd) bsg) ∧ (bsg.Nodup) ∧ (∀ x ∈ bsg, gx < x ∧ x < pg) ∧ (gx < pg)) := ⟨grown_into (L7.out.1) hg (by omega), (hg.block _ (lt_of_block (L7.out.2.1)) (by simp; omega)).trans (L7.out.2.1), SlO.kept (L7.out.2.2.1) hg (fun y hy => by have := qw y hy; simp; omega), L7.out.2.2.2.1, L7.out.2.2.2.2.1, L7.out.2.2.2.2.2.2.1, (hg.block _ (lt_of_block (L7.out.2.2.2.2.2.2.2.1)) (by simp; omega)).trans (L7.out.2.2.2.2.2.2.2.1), SlO.kept (L7.out.2.2.2.2.2.2.2.2.1) hg (fun y hy => by have := qg y hy; simp; omega), L7.out.2.2.2.2.2.2.2.2.2.1, L7.out.2.2.2.2.2.2.2.2.2.2.1, L7.out.2.2.2.2.2.2.2.2.2.2.2⟩
  clear L7
  clear qw o1 o2 qg o3
  clear hg
  simp only []
  have hk1 : decide ((1 : Int) + n < 0) = false := by simp; omega
  obtain ⟨⟨x2_0, x2_1, x2_2⟩, -⟩ := three (L8.out.2.2.2.2.2.2.1)
  obtain ⟨⟨x3_0, x3_1, x3_2⟩, -⟩ := three (L8.out.2.1)
  go_wp2_with fail
  refine Calls.mono (eqTr rd rk rn ag aw lw cg cw u8 (SlO.reads (L8.out.2.2.2.2.2.2.2.1)) (SlO.reads (L8.out.2.2.1))) ?_
  rintro e u9 ⟨rfl, hg⟩
  have L9 : Hid ((w.grownBy u9 none) ∧ (u9.heap[pw]? = some (Obj.cells #[.int .i64 rk, .int .i64 rn, .slice aw lw cw] 29)) ∧ (SlO u9 29 (aw) lw cw (rd) bsw) ∧ (∀ x ∈ bsw, x < pw) ∧ (w.heap.size ≤ pw) ∧ (pw < gx) ∧ (u9.heap[pg]? = some (Obj.cells #[.int .i64 rk, .int .i64 rn, .slice ag lw cg] 29)) ∧ (SlO u9 29 (ag) lw cg (rd) bsg) ∧ (bsg.Nodup) ∧ (∀ x ∈ bsg, gx < x ∧ x < pg) ∧ (gx < pg)) := ⟨grown_trans (L8.out.1) hg, (World.grownBy.block hg _ (lt_of_block (L8.out.2.1)) (by simp)).trans (L8.out.2.1), SlO.old (L8.out.2.2.1) hg, L8.out.2.2.2.1, L8.out.2.2.2.2.1, L8.out.2.2.2.2.2.1, (World.grownBy.block hg _ (lt_of_block (L8.out.2.2.2.2.2.2.1)) (by simp)).trans (L8.out.2.2.2.2.2.2.1), SlO.old (L8.out.2.2.2.2.2.2.2.1) hg, L8.out.2.2.2.2.2.2.2.2.1, L8.out.2.2.2.2.2.2.2.2.2.1, L8.out.2.2.2.2.2.2.2.2.2.2⟩
  clear L8 x2_0 x2_1 x2_2 x3_0 x3_1 x3_2
  clear hg
  simp only []
  clear hk1
  obtain ⟨⟨x4_0, x4_1, x4_2⟩, -⟩ := three (L9.out.2.2.2.2.2.2.1)
  go_wp2_with fail
  refine Calls.mono (markTr rd rk rn ag lw cg bsg 1 u9 (L9.out.2.2.2.2.2.2.2.1) (L9.out.2.2.2.2.2.2.2.2.1) (by omega) (by omega)) ?_
  rintro e v1 ⟨rfl, ht, hm⟩
  have qw := L9.out.2.2.2.1
  have o1 := L9.out.2.2.2.2.1
  have o2 := L9.out.2.2.2.2.2.1
  have qg := L9.out.2.2.2.2.2.2.2.2.2.1
  have o3 := L9.out.2.2.2.2.2.2.2.2.2.2
  have L10 : Hid ((w.grownBy v1 none) ∧ (v1.heap[pw]? = some (Obj.cells #[.int .i64 rk, .int .i64 rn, .slice aw lw cw] 29)) ∧ (SlO v1 29 (aw) lw cw (rd) bsw) ∧ (∀ x ∈ bsw, x < pw) ∧ (w.heap.size ≤ pw) ∧ (pw < gx) ∧ (v1.heap[pg]? = some (Obj.cells #[.int .i64 rk, .int .i64 rn, .slice ag lw cg] 29)) ∧ (∀ x ∈ bsg, gx < x ∧ x < pg) ∧ (gx < pg) ∧ (SlO v1 29 (ag) lw cg (markF rd 1) bsg)) := ⟨Tn.fresh (L9.out.1) ht (fun x hx => by have := qg x hx; omega), (ht.block _ (lt_of_block (L9.out.2.1)) (fun hx => by have := qg _ hx; omega)).trans (L9.out.2.1), SlO.of (L9.out.2.2.1) (fun y hy => ht.block y (SlO.lt (L9.out.2.2.1) y hy) (fun hx => by have h1 := qg y hx; have h2 := qw y hy; omega)), L9.out.2.2.2.1, L9.out.2.2.2.2.1, L9.out.2.2.2.2.2.1, (ht.block _ (lt_of_block (L9.out.2.2.2.2.2.2.1)) (fun hx => by have := qg _ hx; omega)).trans (L9.out.2.2.2.2.2.2.1), L9.out.2.2.2.2.2.2.2.2.2.1, L9.out.2.2.2.2.2.2.2.2.2.2, hm⟩
  clear L9 x4_0 x4_1 x4_2
  clear qw o1 o2 qg o3
  clear ht hm
  simp only []
  have hq1' : ¬ ((1 : Int) + 2 * rd.size < 0) := by omega
  obtain ⟨⟨x5_0, x5_1, x5_2⟩, -⟩ := three (L10.out.2.2.2.2.2.2.1)
  go_wp2_with fail
  refine Calls.mono (heldTr rd rk rn ag lw cg 1 v1 (SlO.reads (L10.out.2.2.2.2.2.2.2.2.2)) (by omega) (by omega)) ?_
  rintro e v2 ⟨rfl, hg⟩
  have L11 : Hid ((w.grownBy v2 none) ∧ (v2.heap[pw]? = some (Obj.cells #[.int .i64 rk, .int .i64 rn, .slice aw lw cw] 29)) ∧ (SlO v2 29 (aw) lw cw (rd) bsw) ∧ (∀ x ∈ bsw, x < pw) ∧ (w.heap.size ≤ pw) ∧ (pw < gx) ∧ (v2.heap[pg]? = some (Obj.cells #[.int .i64 rk, .int .i64 rn, .slice ag lw cg] 29)) ∧ (∀ x ∈ bsg, gx < x ∧ x < pg) ∧ (gx < pg) ∧ (SlO v2 29 (ag) lw cg (markF rd 1) bsg)) := ⟨grown_trans (L10.out.1) hg, (World.grownBy.block hg _ (lt_of_block (L10.out.2.1)) (by simp)).trans (L10.out.2.1), SlO.old (L10.out.2.2.1) hg, L10.out.2.2.2.1, L10.out.2.2.2.2.1, L10.out.2.2.2.2.2.1, (World.grownBy.block hg _ (lt_of_block (L10.out.2.2.2.2.2.2.1)) (by simp)).trans (L10.out.2.2.2.2.2.2.1), L10.out.2.2.2.2.2.2.2.1, L10.out.2.2.2.2.2.2.2.2.1, SlO.old (L10.out.2.2.2.2.2.2.2.2.2) hg⟩
  clear L10 x5_0 x5_1 x5_2
  clear hg
  simp only []
  go_wp2_with fail
  refine Calls.mono (toB a0 n cap zs v2 (HD.out.none (L11.out.1)) hs) ?_
  rintro e v3 ⟨g3, rfl, hg, hb6, hrow6⟩
  have L12 : Hid ((w.grownBy v3 none) ∧ (v3.heap[pw]? = some (Obj.cells #[.int .i64 rk, .int .i64 rn, .slice aw lw cw] 29)) ∧ (SlO v3 29 (aw) lw cw (rd) bsw) ∧ (∀ x ∈ bsw, x < pw) ∧ (w.heap.size ≤ pw) ∧ (pw < gx) ∧ (v3.heap[pg]? = some (Obj.cells #[.int .i64 rk, .int .i64 rn, .slice ag lw cg] 29)) ∧ (∀ x ∈ bsg, gx < x ∧ x < pg) ∧ (gx < pg) ∧ (SlO v3 29 (ag) lw cg (markF rd 1) bsg) ∧ (Row v3 g3 n zs)) := ⟨grown_trans (L11.out.1) hg, (World.grownBy.block hg _ (lt_of_block (L11.out.2.1)) (by simp)).trans (L11.out.2.1), SlO.old (L11.out.2.2.1) hg, L11.out.2.2.2.1, L11.out.2.2.2.2.1, L11.out.2.2.2.2.2.1, (World.grownBy.block hg _ (lt_of_block (L11.out.2.2.2.2.2.2.1)) (by simp)).trans (L11.out.2.2.2.2.2.2.1), L11.out.2.2.2.2.2.2.2.1, L11.out.2.2.2.2.2.2.2.2.1, SlO.old (L11.out.2.2.2.2.2.2.2.2.2) hg, hrow6⟩
  clear L11
  clear hg
  simp only []
  clear hb6 hrow6
  go_wp2_with fail
  refine Calls.mono (CIm.out _ n v3 ((L12.out.2.2.2.2.2.2.2.2.2.2).reads' hlen)) ?_
  rintro e v4 ⟨ah, lh, ch, bsh, he, hg, hw⟩
  subst he
  have ga := World.grownBy_alloc v4 (.cells #[.int .i64 rk, .int .i64 rn, .slice ah lh ch] 29) none
  have ba := heap_alloc_new v4 (.cells #[.int .i64 rk, .int .i64 rn, .slice ah lh ch] 29)
  have hgg := grown_trans hg ga
  have L13 : Hid ((w.grownBy (v4.alloc (.cells #[.int .i64 rk, .int .i64 rn, .slice ah lh ch] 29)) none) ∧ ((v4.alloc (.cells #[.int .i64 rk, .int .i64 rn, .slice ah lh ch] 29)).heap[pw]? = some (Obj.cells #[.int .i64 rk, .int .i64 rn, .slice aw lw cw] 29)) ∧ (SlO (v4.alloc (.cells #[.int .i64 rk, .int .i64 rn, .slice ah lh ch] 29)) 29 (aw) lw cw (rd) bsw) ∧ (∀ x ∈ bsw, x < pw) ∧ (w.heap.size ≤ pw) ∧ (pw < gx) ∧ ((v4.alloc (.cells #[.int .i64 rk, .int .i64 rn, .slice ah lh ch] 29)).heap[pg]? = some (Obj.cells #[.int .i64 rk, .int .i64 rn, .slice ag lw cg] 29)) ∧ (∀ x ∈ bsg, gx < x ∧ x < pg) ∧ (gx < pg) ∧ (SlO (v4.alloc (.cells #[.int .i64 rk, .int .i64 rn, .slice ah lh ch] 29)) 29 (ag) lw cg (markF rd 1) bsg) ∧ ((v4.alloc (.cells #[.int .i64 rk, .int .i64 rn, .slice ah lh ch] 29)).heap[v4.heap.size]? = some (Obj.cells #[.int .i64 rk, .int .i64 rn, .slice ah lh ch] 29)) ∧ (SlO (v4.alloc (.cells #[.int .i64 rk, .int .i64 rn, .slice ah lh ch] 29)) 29 (ah) lh ch (rd) bsh)) := ⟨grown_trans (L12.out.1) hgg, (World.grownBy.block hgg _ (lt_of_block (L12.out.2.1)) (by simp)).trans (L12.out.2.1), SlO.old (L12.out.2.2.1) hgg, L12.out.2.2.2.1, L12.out.2.2.2.2.1, L12.out.2.2.2.2.2.1, (World.grownBy.block hgg _ (lt_of_block (L12.out.2.2.2.2.2.2.1)) (by simp)).trans (L12.out.2.2.2.2.2.2.1), L12.out.2.2.2.2.2.2.2.1, L12.out.2.2.2.2.2.2.2.2.1, SlO.old (L12.out.2.2.2.2.2.2.2.2.2.1) hgg, ba, hw.1.old ga⟩
  clear L12
  clear hg ga ba hgg
  simp only []
  clear hw
  have elh : lw = lh := (L13.out.2.2.1).1.symm.trans (L13.out.2.2.2.2.2.2.2.2.2.2.2).1
  subst elh
  obtain ⟨⟨x6_0, x6_1, x6_2⟩, -⟩ := three (L13.out.2.2.2.2.2.2.2.2.2.2.1)
  obtain ⟨⟨x7_0, x7_1, x7_2⟩, -⟩ := three (L13.out.2.1)
  go_wp2_with fail
  generalize (v4.alloc (.cells #[.int .i64 rk, .int .i64 rn, .slice ah lw ch] 29)) = v5 at *
  generalize v4.heap.size = ph at *
  refine Calls.mono (eqTr rd rk rn ah aw lw ch cw v5 (SlO.reads (L13.out.2.2.2.2.2.2.2.2.2.2.2)) (SlO.reads (L13.out.2.2.1))) ?_
  rintro e v6 ⟨rfl, hg⟩
  have L14 : Hid ((w.grownBy v6 none) ∧ (v6.heap[pw]? = some (Obj.cells #[.int .i64 rk, .int .i64 rn, .slice aw lw cw] 29)) ∧ (SlO v6 29 (aw) lw cw (rd) bsw) ∧ (∀ x ∈ bsw, x < pw) ∧ (w.heap.size ≤ pw) ∧ (pw < gx) ∧ (v6.heap[pg]? = some (Obj.cells #[.int .i64 rk, .int .i64 rn, .slice ag lw cg] 29)) ∧ (∀ x ∈ bsg, gx < x ∧ x < pg) ∧ (gx < pg) ∧ (SlO v6 29 (ag) lw cg (markF rd 1) bsg) ∧ (v6.heap[ph]? = some (Obj.cells #[.int .i64 rk, .int .i64 rn, .slice ah lw ch] 29)) ∧ (SlO v6 29 (ah) lw ch (rd) bsh)) := ⟨grown_trans (L13.out.1) hg, (World.grownBy.block hg _ (lt_of_block (L13.out.2.1)) (by simp)).trans (L13.out.2.1), SlO.old (L13.out.2.2.1) hg, L13.out.2.2.2.1, L13.out.2.2.2.2.1, L13.out.2.2.2.2.2.1, (World.grownBy.block hg _ (lt_of_block (L13.out.2.2.2.2.2.2.1)) (by simp)).trans (L13.out.2.2.2.2.2.2.1), L13.out.2.2.2.2.2.2.2.1, L13.out.2.2.2.2.2.2.2.2.1, SlO.old (L13.out.2.2.2.2.2.2.2.2.2.1) hg, (World.grownBy.block hg _ (lt_of_block (L13.out.2.2.2.2.2.2.2.2.2.2.1)) (by simp)).trans (L13.out.2.2.2.2.2.2.2.2.2.2.1), SlO.old (L13.out.2.2.2.2.2.2.2.2.2.2.2) hg⟩
  clear L13 x6_0 x6_1 x6_2 x7_0 x7_1 x7_2
  clear hg
  simp only []
  obtain ⟨⟨x8_0, x8_1, x8_2⟩, -⟩ := three (L14.out.2.2.2.2.2.2.1)
  go_wp2_with fail
  refine Calls.mono (heldTr rd rk rn ag lw cg 1 v6 (SlO.reads (L14.out.2.2.2.2.2.2.2.2.2.1)) (by omega) (by omega)) ?_
  rintro e v7 ⟨rfl, hg⟩
  have L15 : Hid ((w.grownBy v7 none) ∧ (v7.heap[pw]? = some (Obj.cells #[.int .i64 rk, .int .i64 rn, .slice aw lw cw] 29)) ∧ (SlO v7 29 (aw) lw cw (rd) bsw) ∧ (∀ x ∈ bsw, x < pw) ∧ (w.heap.size ≤ pw) ∧ (pw < gx) ∧ (v7.heap[pg]? = some (Obj.cells #[.int .i64 rk, .int .i64 rn, .slice ag lw cg] 29)) ∧ (∀ x ∈ bsg, gx < x ∧ x < pg) ∧ (gx < pg) ∧ (SlO v7 29 (ag) lw cg (markF rd 1) bsg) ∧ (v7.heap[ph]? = some (Obj.cells #[.int .i64 rk, .int .i64 rn, .slice ah lw ch] 29)) ∧ (SlO v7 29 (ah) lw ch (rd) bsh)) := ⟨grown_trans (L14.out.1) hg, (World.grownBy.block hg _ (lt_of_block (L14.out.2.1)) (by simp)).trans (L14.out.2.1), SlO.old (L14.out.2.2.1) hg, L14.out.2.2.2.1, L14.out.2.2.2.2.1, L14.out.2.2.2.2.2.1, (World.grownBy.block hg _ (lt_of_block (L14.out.2.2.2.2.2.2.1)) (by simp)).trans (L14.out.2.2.2.2.2.2.1), L14.out.2.2.2.2.2.2.2.1, L14.out.2.2.2.2.2.2.2.2.1, SlO.old (L14.out.2.2.2.2.2.2.2.2.2.1) hg, (World.grownBy.block hg _ (lt_of_block (L14.out.2.2.2.2.2.2.2.2.2.2.1)) (by simp)).trans (L14.out.2.2.2.2.2.2.2.2.2.2.1), SlO.old (L14.out.2.2.2.2.2.2.2.2.2.2.2) hg⟩
  clear L14 x8_0 x8_1 x8_2
  clear hg
  simp only []
  go_wp2
  go_ret
  exact ⟨rfl, L15.out.1⟩
end Go.Proofs.Ytbannlaeapfllab.By
