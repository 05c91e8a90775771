/-
  Several texts in one (IC, ICb, Txt). No statement is proved here.
-/
import Derived.Test.YtpdkgmagjhibkaaGreatDoorIOpAlso
import Derived.Test.YtpdkgmagjhibkaaGreatDoorSIns
import Derived.Test.YtpdkgmagjhibkaaGreatDoorPutSAlso
namespace Go.Proofs.YtpdkgmagjhibkaaGreatDoor.By
open Go.RowKit
set_option linter.unusedVariables false
set_option linter.unusedSimpArgs false

def aV (x0 x1 : Bool) (a : Int) : Bool := if x1 then wholeV a else if x0 then numV a else decide (a = 0)
def bV (x2 : Bool) (b : Int) : Bool := if x2 then numV b else decide (b = 0)
def lV (x3 : Bool) (zs : List Int) : Bool := if x3 then litV zs else decide (zs.length = 0)
def toV (zs : List Int) : Bool := decide (1 ≤ zs.length) && decide (zs.length ≤ 5) && !zs.any noNum
def tV (x4 : Bool) (zs : List Int) : Bool := if x4 then toV zs else decide (zs.length = 0)

set_option maxHeartbeats 1000000 in
theorem aFitsT (x0 x1 x2 x3 x4 : Bool) (a : Int) (w : World) :
    Calls Tryz.prog 131 #[.agg #[.bool x0, .bool x1, .bool x2, .bool x3, .bool x4], .int .i64 a] w fun e u => e = .returned (.bool (aV x0 x1 a)) ∧ w.grownBy u none := by
  have g0 := World.grownBy_alloc w (.cells #[.bool x0, .bool x1, .bool x2, .bool x3, .bool x4] 157) none
  obtain ⟨⟨y0, y1, y2, y3, y4⟩, -⟩ := blk5 (heap_alloc_new w (.cells #[.bool x0, .bool x1, .bool x2, .bool x3, .bool x4] 157))
  have G0 : Hid (w.grownBy (w.alloc (.cells #[.bool x0, .bool x1, .bool x2, .bool x3, .bool x4] 157)) none) := g0
  have CW : Hid _ := isWholeT a (w.alloc (.cells #[.bool x0, .bool x1, .bool x2, .bool x3, .bool x4] 157))
  have CN : Hid _ := isNumT a (w.alloc (.cells #[.bool x0, .bool x1, .bool x2, .bool x3, .bool x4] 157))
  clear g0
  cases x1 with
  | true =>
    go_enter Tryz.func131, Tryz.ntmps131
    go_wp2_with fail
    refine Calls.mono CW.out ?_
    rintro e u ⟨rfl, rfl⟩
    clear CW CN
    simp only []
    go_wp2
    go_ret
    exact ⟨rfl, G0.out⟩
  | false =>
    cases x0 with
    | true =>
      go_enter Tryz.func131, Tryz.ntmps131
      go_wp2_with fail
      refine Calls.mono CN.out ?_
      rintro e u ⟨rfl, rfl⟩
      clear CW CN
      simp only []
      go_wp2
      go_ret
      exact ⟨rfl, G0.out⟩
    | false =>
      clear CW CN
      by_cases h : a = 0
      · have hb : (a == 0) = true := by simpa using h
        go_enter Tryz.func131, Tryz.ntmps131
        go_wp2
        go_ret
        exact ⟨by simp [aV, h], G0.out⟩
      · have hb : (a == 0) = false := by simpa using h
        go_enter Tryz.func131, Tryz.ntmps131
        go_wp2
        go_ret
        exact ⟨by simp [aV, h], G0.out⟩

set_option maxHeartbeats 1000000 in
theorem bFitsT (x0 x1 x2 x3 x4 : Bool) (a : Int) (w : World) :
    Calls Tryz.prog 132 #[.agg #[.bool x0, .bool x1, .bool x2, .bool x3, .bool x4], .int .i64 a] w fun e u => e = .returned (.bool (bV x2 a)) ∧ w.grownBy u none := by
  have g0 := World.grownBy_alloc w (.cells #[.bool x0, .bool x1, .bool x2, .bool x3, .bool x4] 157) none
  obtain ⟨⟨y0, y1, y2, y3, y4⟩, -⟩ := blk5 (heap_alloc_new w (.cells #[.bool x0, .bool x1, .bool x2, .bool x3, .bool x4] 157))
  have G0 : Hid (w.grownBy (w.alloc (.cells #[.bool x0, .bool x1, .bool x2, .bool x3, .bool x4] 157)) none) := g0
  have CN : Hid _ := isNumT a (w.alloc (.cells #[.bool x0, .bool x1, .bool x2, .bool x3, .bool x4] 157))
  clear g0
  cases x2 with
  | true =>
    go_enter Tryz.func132, Tryz.ntmps132
    go_wp2_with fail
    refine Calls.mono CN.out ?_
    rintro e u ⟨rfl, rfl⟩
    clear CN
    simp only []
    go_wp2
    go_ret
    exact ⟨rfl, G0.out⟩
  | false =>
    clear CN
    by_cases h : a = 0
    · have hb : (a == 0) = true := by simpa using h
      go_enter Tryz.func132, Tryz.ntmps132
      go_wp2
      go_ret
      exact ⟨by simp [bV, h], G0.out⟩
    · have hb : (a == 0) = false := by simpa using h
      go_enter Tryz.func132, Tryz.ntmps132
      go_wp2
      go_ret
      exact ⟨by simp [bV, h], G0.out⟩

set_option maxHeartbeats 1000000 in
theorem litFitsT (x0 x1 x2 x3 x4 : Bool) (a : Option Addr) (l c : Nat) (zs : List Int) (w : World) (h : RdB w a l zs) :
    Calls Tryz.prog 133 #[.agg #[.bool x0, .bool x1, .bool x2, .bool x3, .bool x4], .slice a l c] w fun e u => e = .returned (.bool (lV x3 zs)) ∧ w.grownBy u none := by
  have g0 := World.grownBy_alloc w (.cells #[.bool x0, .bool x1, .bool x2, .bool x3, .bool x4] 157) none
  obtain ⟨⟨y0, y1, y2, y3, y4⟩, -⟩ := blk5 (heap_alloc_new w (.cells #[.bool x0, .bool x1, .bool x2, .bool x3, .bool x4] 157))
  have G0 : Hid (w.grownBy (w.alloc (.cells #[.bool x0, .bool x1, .bool x2, .bool x3, .bool x4] 157)) none) := g0
  have CN : Hid _ := isLiteralT a l c zs (w.alloc (.cells #[.bool x0, .bool x1, .bool x2, .bool x3, .bool x4] 157)) (h.none g0)
  have hl := h.1.1
  have hm := h.2.2
  clear g0 h
  cases x3 with
  | true =>
    go_enter Tryz.func133, Tryz.ntmps133
    go_wp2_with fail
    refine Calls.mono CN.out ?_
    rintro e u ⟨rfl, hg⟩
    have G1 : Hid (w.grownBy u none) := grown_trans G0.out hg
    clear CN hg
    simp only []
    go_wp2
    go_ret
    exact ⟨rfl, G1.out⟩
  | false =>
    clear CN
    by_cases h : l = 0
    · subst h
      go_enter Tryz.func133, Tryz.ntmps133
      go_wp2
      go_ret
      exact ⟨by simp [lV, hl], G0.out⟩
    · have hb : ((l : Int) == 0) = false := by simpa using (show ¬ (l : Int) = 0 by omega)
      go_enter Tryz.func133, Tryz.ntmps133
      go_wp2
      go_ret
      exact ⟨by simp [lV, hl, h], G0.out⟩

set_option maxHeartbeats 1000000 in
theorem toFitsT (x0 x1 x2 x3 x4 : Bool) (a : Option Addr) (l c : Nat) (zs : List Int) (w : World) (h : RdI w a l zs) :
    Calls Tryz.prog 134 #[.agg #[.bool x0, .bool x1, .bool x2, .bool x3, .bool x4], .slice a l c] w fun e u => e = .returned (.bool (tV x4 zs)) ∧ w.grownBy u none := by
  have g0 := World.grownBy_alloc w (.cells #[.bool x0, .bool x1, .bool x2, .bool x3, .bool x4] 157) none
  obtain ⟨⟨y0, y1, y2, y3, y4⟩, -⟩ := blk5 (heap_alloc_new w (.cells #[.bool x0, .bool x1, .bool x2, .bool x3, .bool x4] 157))
  have G0 : Hid (w.grownBy (w.alloc (.cells #[.bool x0, .bool x1, .bool x2, .bool x3, .bool x4] 157)) none) := g0
  have CN : Hid _ := containsNT zs a l c (w.alloc (.cells #[.bool x0, .bool x1, .bool x2, .bool x3, .bool x4] 157)) (h.none g0)
  have hl := h.1.1
  have hm := h.2
  clear g0 h
  cases x4 with
  | true =>
    by_cases h1 : 1 ≤ l
    · by_cases h5 : l ≤ 5
      · have h1' : (l : Int) ≥ 1 := by omega
        have h5' : (l : Int) ≤ 5 := by omega
        have HE : Hid (toV zs = !zs.any noNum) := by show _ = _; simp [toV, hl, h1, h5]
        go_enter Tryz.func134, Tryz.ntmps134
        go_wp2_with fail
        refine Calls.mono CN.out ?_
        rintro e u ⟨rfl, hg⟩
        have G1 : Hid (w.grownBy u none) := grown_trans G0.out hg
        clear CN hg
        simp only []
        go_wp2
        go_ret
        exact ⟨by show _ = Ending.returned (.bool (toV zs)); rw [HE.out]; rfl, G1.out⟩
      · have h1' : (l : Int) ≥ 1 := by omega
        have h5' : ¬ (l : Int) ≤ 5 := by omega
        have HE : Hid (toV zs = false) := by show _ = _; simp [toV, hl, h1, h5]
        clear CN
        go_enter Tryz.func134, Tryz.ntmps134
        go_wp2
        go_ret
        exact ⟨by show _ = Ending.returned (.bool (toV zs)); rw [HE.out]; rfl, G0.out⟩
    · have h1' : ¬ (l : Int) ≥ 1 := by omega
      have HE : Hid (toV zs = false) := by show _ = _; simp [toV, hl, h1]
      clear CN
      go_enter Tryz.func134, Tryz.ntmps134
      go_wp2
      go_ret
      exact ⟨by show _ = Ending.returned (.bool (toV zs)); rw [HE.out]; rfl, G0.out⟩
  | false =>
    clear CN
    by_cases h : l = 0
    · subst h
      go_enter Tryz.func134, Tryz.ntmps134
      go_wp2
      go_ret
      exact ⟨by simp [tV, hl], G0.out⟩
    · have hb : ((l : Int) == 0) = false := by simpa using (show ¬ (l : Int) = 0 by omega)
      go_enter Tryz.func134, Tryz.ntmps134
      go_wp2
      go_ret
      exact ⟨by simp [tV, hl, h], G0.out⟩

end Go.Proofs.YtpdkgmagjhibkaaGreatDoor.By

namespace Go.Proofs.YtpdkgmagjhibkaaGreatDoor.By
open Go.RowKit
set_option linter.unusedVariables false
set_option linter.unusedSimpArgs false

def insV (x : RIns) : Bool := opOk x.op && aV (hasA x.op) (decide (x.op = 1)) x.a && bV (decide (x.op = 21)) x.b && lV (decide (x.op = 2)) x.lit && tV (decide (x.op = 22)) x.tos
theorem alloc_drew {a w : World} (h : a.grownBy w none) (o : Obj) : a.grownBy (w.alloc o) none := grown_trans h (World.grownBy_alloc _ _ _)

set_option maxRecDepth 8000 in
set_option maxHeartbeats 4000000 in
theorem implInsT (x : RIns) (a1 : Option Addr) (l1 c1 : Nat) (a2 : Option Addr) (l2 c2 : Nat) (w : World) (h : RdIns w x a1 l1 a2 l2) (hF : OpsIn w) :
    Calls Tryz.prog 110 #[.agg #[.int .i64 x.op, .int .i64 x.a, .int .i64 x.b, .slice a1 l1 c1, .slice a2 l2 c2]] w fun e u => e = .returned (.bool (insV x)) ∧ w.grownBy u none := by
  have g0 := World.grownBy_alloc w (.cells #[.int .i64 x.op, .int .i64 x.a, .int .i64 x.b, .slice a1 l1 c1, .slice a2 l2 c2] 65) none
  have b0 := heap_alloc_new w (.cells #[.int .i64 x.op, .int .i64 x.a, .int .i64 x.b, .slice a1 l1 c1, .slice a2 l2 c2] 65)
  have HS : Hid (∀ u, w.grownBy u none → RdIns u x a1 l1 a2 l2) := fun u hu => h.none hu
  have C0 : Hid _ := formOfOpT x.op (w.alloc (.cells #[.int .i64 x.op, .int .i64 x.a, .int .i64 x.b, .slice a1 l1 c1, .slice a2 l2 c2] 65)) (hF.none g0)
  have L0 : Hid (w.grownBy _ none ∧ _ = some (Obj.cells #[.int .i64 x.op, .int .i64 x.a, .int .i64 x.b, .slice a1 l1 c1, .slice a2 l2 c2] 65)) := ⟨g0, b0⟩
  obtain ⟨⟨y0, y1, y2, y3, y4⟩, -⟩ := blk5 b0
  clear h g0 b0 hF
  go_enter Tryz.func110, Tryz.ntmps110
  go_wp2_with fail
  refine Calls.mono C0.out ?_
  rintro e u0 ⟨he, hg⟩
  unfold FoO at he
  subst he
  have L1 : Hid (w.grownBy u0 none ∧ u0.heap[w.heap.size]? = some (Obj.cells #[.int .i64 x.op, .int .i64 x.a, .int .i64 x.b, .slice a1 l1 c1, .slice a2 l2 c2] 65)) := ⟨grown_trans L0.out.1 hg, (hg.block _ (lt_of_block L0.out.2) (by simp)).trans L0.out.2⟩
  clear C0 L0 hg y0 y1 y2 y3 y4
  generalize w.heap.size = p0 at *
  cases ho : opOk x.op with
  | false =>
    have HV : Hid (insV x = false) := by show _ = _; unfold insV; rw [ho]; rfl
    have G2 : Hid (w.grownBy u0 none) := L1.out.1
    clear L1
    simp only [Bool.false_and]
    go_wp2
    go_ret
    exact ⟨by rw [HV.out]; rfl, alloc_drew G2.out _⟩
  | true =>
    simp only [Bool.true_and]
    have HV : Hid (insV x = (aV (hasA x.op) (decide (x.op = 1)) x.a && bV (decide (x.op = 21)) x.b && lV (decide (x.op = 2)) x.lit && tV (decide (x.op = 22)) x.tos)) := by show _ = _; unfold insV; rw [ho]; simp only [Bool.true_and]
    generalize hasA x.op = q0 at *
    generalize decide (x.op = 1) = q1 at *
    generalize decide (x.op = 21) = q2 at *
    generalize decide (x.op = 2) = q3 at *
    generalize decide (x.op = 22) = q4 at *
    have ga := World.grownBy_alloc u0 (.cells #[.bool q0, .bool q1, .bool q2, .bool q3, .bool q4] 157) none
    have ba := heap_alloc_new u0 (.cells #[.bool q0, .bool q1, .bool q2, .bool q3, .bool q4] 157)
    have L2 : Hid (w.grownBy _ none ∧ _ = some (Obj.cells #[.int .i64 x.op, .int .i64 x.a, .int .i64 x.b, .slice a1 l1 c1, .slice a2 l2 c2] 65) ∧ _ = some (Obj.cells #[.bool q0, .bool q1, .bool q2, .bool q3, .bool q4] 157)) := ⟨grown_trans L1.out.1 ga, (ga.block _ (lt_of_block L1.out.2) (by simp)).trans L1.out.2, ba⟩
    clear L1 ga ba ho
    obtain ⟨⟨y0, y1, y2, y3, y4⟩, -⟩ := blk5 L2.out.2.1
    obtain ⟨⟨z0, z1, z2, z3, z4⟩, -⟩ := blk5 L2.out.2.2
    have C1 : Hid _ := aFitsT q0 q1 q2 q3 q4 x.a (u0.alloc (.cells #[.bool q0, .bool q1, .bool q2, .bool q3, .bool q4] 157))
    go_wp2_with fail
    refine Calls.mono C1.out ?_
    rintro e u1 ⟨rfl, hg⟩
    generalize u0.heap.size = p9 at *
    have L3 : Hid (w.grownBy u1 none ∧ u1.heap[p0]? = some (Obj.cells #[.int .i64 x.op, .int .i64 x.a, .int .i64 x.b, .slice a1 l1 c1, .slice a2 l2 c2] 65) ∧ u1.heap[p9]? = some (Obj.cells #[.bool q0, .bool q1, .bool q2, .bool q3, .bool q4] 157)) := ⟨grown_trans L2.out.1 hg, (hg.block _ (lt_of_block L2.out.2.1) (by simp)).trans L2.out.2.1, (hg.block _ (lt_of_block L2.out.2.2) (by simp)).trans L2.out.2.2⟩
    clear C1 hg L2 y0 y1 y2 y3 y4 z0 z1 z2 z3 z4
    obtain ⟨⟨y0, y1, y2, y3, y4⟩, -⟩ := blk5 L3.out.2.1
    obtain ⟨⟨z0, z1, z2, z3, z4⟩, -⟩ := blk5 L3.out.2.2
    simp only []
    cases hq0 : aV q0 q1 x.a with
    | false =>
      go_wp2
      go_ret
      exact ⟨by rw [HV.out]; simp [hq0], L3.out.1⟩
    | true =>
      have C2 : Hid _ := bFitsT q0 q1 q2 q3 q4 x.b u1
      go_wp2_with fail
      refine Calls.mono C2.out ?_
      rintro e u2 ⟨rfl, hg⟩
      have L4 : Hid (w.grownBy u2 none ∧ u2.heap[p0]? = some (Obj.cells #[.int .i64 x.op, .int .i64 x.a, .int .i64 x.b, .slice a1 l1 c1, .slice a2 l2 c2] 65) ∧ u2.heap[p9]? = some (Obj.cells #[.bool q0, .bool q1, .bool q2, .bool q3, .bool q4] 157)) := ⟨grown_trans L3.out.1 hg, (hg.block _ (lt_of_block L3.out.2.1) (by simp)).trans L3.out.2.1, (hg.block _ (lt_of_block L3.out.2.2) (by simp)).trans L3.out.2.2⟩
      clear C2 hg L3 y0 y1 y2 y3 y4 z0 z1 z2 z3 z4
      obtain ⟨⟨y0, y1, y2, y3, y4⟩, -⟩ := blk5 L4.out.2.1
      obtain ⟨⟨z0, z1, z2, z3, z4⟩, -⟩ := blk5 L4.out.2.2
      simp only []
      cases hq1 : bV q2 x.b with
      | false =>
        go_wp2
        go_ret
        exact ⟨by rw [HV.out]; simp [hq0, hq1], L4.out.1⟩
      | true =>
        have C3 : Hid _ := litFitsT q0 q1 q2 q3 q4 a1 l1 c1 x.lit u2 (HS.out _ L4.out.1).1
        go_wp2_with fail
        refine Calls.mono C3.out ?_
        rintro e u3 ⟨rfl, hg⟩
        have L5 : Hid (w.grownBy u3 none ∧ u3.heap[p0]? = some (Obj.cells #[.int .i64 x.op, .int .i64 x.a, .int .i64 x.b, .slice a1 l1 c1, .slice a2 l2 c2] 65) ∧ u3.heap[p9]? = some (Obj.cells #[.bool q0, .bool q1, .bool q2, .bool q3, .bool q4] 157)) := ⟨grown_trans L4.out.1 hg, (hg.block _ (lt_of_block L4.out.2.1) (by simp)).trans L4.out.2.1, (hg.block _ (lt_of_block L4.out.2.2) (by simp)).trans L4.out.2.2⟩
        clear C3 hg L4 y0 y1 y2 y3 y4 z0 z1 z2 z3 z4
        obtain ⟨⟨y0, y1, y2, y3, y4⟩, -⟩ := blk5 L5.out.2.1
        obtain ⟨⟨z0, z1, z2, z3, z4⟩, -⟩ := blk5 L5.out.2.2
        simp only []
        cases hq2 : lV q3 x.lit with
        | false =>
          go_wp2
          go_ret
          exact ⟨by rw [HV.out]; simp [hq0, hq1, hq2], L5.out.1⟩
        | true =>
          have C4 : Hid _ := toFitsT q0 q1 q2 q3 q4 a2 l2 c2 x.tos u3 (HS.out _ L5.out.1).2
          go_wp2_with fail
          refine Calls.mono C4.out ?_
          rintro e u4 ⟨rfl, hg⟩
          have L6 : Hid (w.grownBy u4 none ∧ u4.heap[p0]? = some (Obj.cells #[.int .i64 x.op, .int .i64 x.a, .int .i64 x.b, .slice a1 l1 c1, .slice a2 l2 c2] 65) ∧ u4.heap[p9]? = some (Obj.cells #[.bool q0, .bool q1, .bool q2, .bool q3, .bool q4] 157)) := ⟨grown_trans L5.out.1 hg, (hg.block _ (lt_of_block L5.out.2.1) (by simp)).trans L5.out.2.1, (hg.block _ (lt_of_block L5.out.2.2) (by simp)).trans L5.out.2.2⟩
          clear C4 hg L5 y0 y1 y2 y3 y4 z0 z1 z2 z3 z4
          obtain ⟨⟨y0, y1, y2, y3, y4⟩, -⟩ := blk5 L6.out.2.1
          obtain ⟨⟨z0, z1, z2, z3, z4⟩, -⟩ := blk5 L6.out.2.2
          simp only []
          go_wp2
          go_ret
          exact ⟨by rw [HV.out]; simp [hq0, hq1, hq2], L6.out.1⟩

end Go.Proofs.YtpdkgmagjhibkaaGreatDoor.By

namespace Go.Proofs.YtpdkgmagjhibkaaGreatDoor.By
open Go.RowKit
set_option linter.unusedVariables false

/-- The bytes of a text; none, where it is too long. -/
def textB (ts : List Int) : List Int := if 40 < ts.length then [] else numB (ts.length : Int) ++ ts
theorem textB_long {ts : List Int} (h : 40 < ts.length) : textB ts = [] := by rw [textB, if_pos h]
theorem textB_fits {ts : List Int} (h : ¬ 40 < ts.length) : textB ts = numB (ts.length : Int) ++ ts := by rw [textB, if_neg h]

set_option maxHeartbeats 2000000 in
theorem implTxt (a a' : Option Addr) (n m cap cap' : Nat) (zs ts : List Int) (w : World) (h : Reads w a n zs) (h' : Reads w a' m ts) (hn : n ≤ 1048576) (hm : m ≤ 1048576) :
    Calls Tryz.prog 117 #[.slice a n cap, .slice a' m cap'] w fun e w' => ∃ g, e = .returned (.slice (some ⟨g, 0, none⟩) (n + (textB ts).length) (n + (textB ts).length)) ∧ w.grownBy w' none ∧ w.heap.size ≤ g ∧ Row w' g (n + (textB ts).length) (zs ++ textB ts) := by
  have hl' := h'.1
  by_cases hlong : 40 < m
  · rw [textB_long (by omega)]
    have hJ := joinedT a none n 0 cap 0 zs [] w h (reads_nil w) (by omega) (by omega)
    clear h h' hl'
    go_enter Tryz.func117, Tryz.ntmps117
    go_wp2_with fail
    refine hJ.mono ?_
    rintro e w1 ⟨g, rfl, hg, hlt, hrow⟩
    clear hJ
    go_wp2
    go_ret
    exact ⟨g, rfl, hg, hlt, hrow⟩
  · rw [textB_fits (by omega), hl']
    obtain ⟨L, hL⟩ : ∃ L, L = numB (m : Int) := ⟨_, rfl⟩
    have hLl : L.length ≤ 5 := by rw [hL]; exact numB_len _
    have hP := implPut a n cap zs (m : Int) w h (by omega)
    rw [← hL] at hP ⊢
    have HE : Hid (n + (L ++ ts).length = n + L.length + m) := by show _ = _; rw [List.length_append, hl']; omega
    clear hL hl'
    generalize hl : n + L.length = l at *
    have hlb : l ≤ 90000005 := by omega
    go_enter Tryz.func117, Tryz.ntmps117
    go_wp2_with fail
    refine hP.mono ?_
    rintro e w1 ⟨g1, rfl, hg1, hb1, hrow1⟩
    clear hP
    have hr1 : Reads w1 (some ⟨g1, 0, none⟩) l (zs ++ L) := hrow1.reads' (by have := h.1; rw [List.length_append]; omega)
    have hJ := joinedT (some ⟨g1, 0, none⟩) a' l m l cap' (zs ++ L) ts w1 hr1 (h'.none hg1) (by omega) (by omega)
    clear hl hr1
    go_wp2_with fail
    refine hJ.mono ?_
    rintro e w2 ⟨g2, rfl, hg2, hb2, hrow2⟩
    clear hJ
    go_wp2
    go_ret
    rw [HE.out, ← List.append_assoc]
    exact ⟨g2, rfl, grown_trans hg1 hg2, Nat.le_trans hg1.size hb2, hrow2⟩

set_option maxRecDepth 8000 in
set_option maxHeartbeats 2000000 in
theorem specTxt (g0 gt n m cap cap' : Nat) (zs ts : List Int) (w : World) (h : Row w g0 cap zs) (hl : zs.length = n) (h' : Row w gt cap' ts) (hl' : ts.length = m) (hn : n ≤ 90000000) (hm : m ≤ 1048576) :
    Calls Tryz.prog 76 #[.slice (some ⟨g0, 0, none⟩) n cap, .slice (some ⟨gt, 0, none⟩) m cap'] w fun e w' => ∃ g cp, e = .returned (.slice (some ⟨g, 0, none⟩) (n + (textB ts).length) cp) ∧ w.grownBy w' none ∧ w.heap.size ≤ g ∧ Row w' g cp (zs ++ textB ts) := by
  obtain ⟨i0, hi, hz0, hz1, hz2⟩ := info_parts info5
  by_cases hlong : 40 < m
  · rw [textB_long (by omega)]
    have HO : Hid ((w.alloc (.cells #[] 5)).ownsRow w.heap.size 5 1 (.slice (some ⟨w.heap.size, 0, none⟩) 0 0) 0 []) := World.ownsRow_made w #[] 0 (Nat.le_refl _) (Nat.zero_le _) rfl
    have HN : Hid ((vals zs).length = n * 1) := by show _ = _; simp [vals, hl]
    have HC : Hid (∀ j u, (vals zs)[j]? = some u → (w.alloc (.cells #[] 5)).cell? ((⟨g0, 0, none⟩ : Addr).add j) = some u) := by
      have h2 := h.kept (World.grownBy_alloc w (.cells #[] 5) none) (by simp)
      exact vals_get (n := n) hl (fun i hi => by have := h2.cell i (by omega); simpa using this)
    have HB0 : Hid (Below w.heap.size w (w.alloc (.cells #[] 5))) := (Below.refl _ _).alloc (Nat.le_refl _) _
    have HV' : Hid (∀ v ∈ vals zs, v.oneCell' = true) := vals_one zs
    have C1 : Hid (0 + n ≤ maxLen) := by show _ ≤ _; unfold maxLen; omega
    have C2 : Hid ((0 + n) * 1 ≤ 140737488355328) := by show _ ≤ _; omega
    clear h h' hl hl'
    go_enter Tryz.func76, Tryz.ntmps76
    go_wp2_with (at_builtin; go_must (refine wpList_append_own _ rfl (.tmp 8) (.tmp 9) 36 rfl w.heap.size 5 i0 (.int .u8 0) 1 1 Tryz.underlying36 hi hz0 hz1 hz2 rfl (by decide) (.slice (some ⟨w.heap.size, 0, none⟩) 0 0) 0 [] rfl HO.out ⟨g0, 0, none⟩ n cap (vals zs) rfl HN.out HC.out HV'.out C1.out C2.out (by simp) ?_); intro v1 w1 hown1 hgrow1 hnil1)
    go_ret
    have hb := HB0.out.grown hgrow1 (by simp) (own_lt HO.out)
    have hown : w1.ownsRow w.heap.size 5 1 v1 n (vals zs) := by simpa using hown1
    obtain ⟨g, cp, rfl, hB, hrow, hlen, hcp⟩ := row_own hown (by intro e; have hh := (hnil1.1 e).1; injection hh with h1; cases h1)
    exact ⟨g, cp, by simp, grown_of_below hb, hB, by simpa using hrow⟩
  · rw [textB_fits (by omega), hl']
    obtain ⟨L, hL⟩ : ∃ L, L = numB (m : Int) := ⟨_, rfl⟩
    have hLl : L.length ≤ 5 := by rw [hL]; exact numB_len _
    have hP := specPutM g0 n cap zs (m : Int) w h hl (by omega)
    rw [← hL] at hP ⊢
    have HE : Hid (n + (L ++ ts).length = n + L.length + m) := by show _ = _; rw [List.length_append, hl']; omega
    have HZ : Hid ((zs ++ L).length = n + L.length) := by show _ = _; rw [List.length_append, hl]
    clear hL
    generalize hl2 : n + L.length = l at *
    have hlb : l ≤ 90000005 := by omega
    have HN : Hid ((vals ts).length = m * 1) := by show _ = _; simp [vals, hl']
    have HV' : Hid (∀ v ∈ vals ts, v.oneCell' = true) := vals_one ts
    have C1 : Hid (l + m ≤ maxLen) := by show _ ≤ _; unfold maxLen; omega
    have C2 : Hid ((l + m) * 1 ≤ 140737488355328) := by show _ ≤ _; omega
    have H' : Hid (Row w gt cap' ts) := h'
    have HL' : Hid (ts.length = m) := hl'
    clear h' hl' hl h hl2
    go_enter Tryz.func76, Tryz.ntmps76
    go_wp2_with fail
    refine hP.mono ?_
    rintro e w1 ⟨g1, c1, rfl, hg1, hb1, hrow1, hc1⟩
    clear hP
    have HO : Hid (w1.ownsRow w.heap.size 5 1 (.slice (some ⟨g1, 0, none⟩) l c1) l (vals (zs ++ L))) := own_row hrow1 HZ.out hb1 hc1
    have HC : Hid (∀ j u, (vals ts)[j]? = some u → w1.cell? ((⟨gt, 0, none⟩ : Addr).add j) = some u) := by
      have h2 := H'.out.kept hg1 (by simp)
      exact vals_get (n := m) HL'.out (fun i hi => by have := h2.cell i (by have := HL'.out; omega); simpa using this)
    have HS : Hid (w.heap.size ≤ w1.heap.size) := hg1.size
    have HB1 : Hid (Below w.heap.size w w1) := (Below.refl _ _).grown hg1 (Nat.le_refl _) (by simp)
    clear hg1 hb1 hrow1 hc1
    go_wp2_with (at_builtin; go_must (refine wpList_append_own _ rfl (.tmp 14) (.tmp 15) 36 rfl w.heap.size 5 i0 (.int .u8 0) 1 1 Tryz.underlying36 hi hz0 hz1 hz2 rfl (by decide) (.slice (some ⟨g1, 0, none⟩) l c1) l (vals (zs ++ L)) rfl HO.out ⟨gt, 0, none⟩ m cap' (vals ts) rfl HN.out HC.out HV'.out C1.out C2.out HS.out ?_); intro v2 w2 hown2 hgrow2 hnil2)
    go_ret
    have hb := HB1.out.grown hgrow2 HS.out (own_lt HO.out)
    rw [vals_app] at hown2
    obtain ⟨g, cp, rfl, hB, hrow, hlen, hcp⟩ := row_own hown2 (by intro e; have hh := (hnil2.1 e).1; injection hh with h1; cases h1)
    rw [HE.out, ← List.append_assoc]
    exact ⟨g, cp, rfl, grown_of_below hb, hB, hrow⟩
end Go.Proofs.YtpdkgmagjhibkaaGreatDoor.By
