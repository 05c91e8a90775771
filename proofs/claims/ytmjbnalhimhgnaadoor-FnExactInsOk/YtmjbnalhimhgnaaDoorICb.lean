/-
  Whether an instruction is one: the program's own by its contract. No statement is proved here.
-/
import Derived.Test.YtmjbnalhimhgnaaDoorIC
namespace Go.Proofs.YtmjbnalhimhgnaaDoor.By
open Go.RowKit
set_option linter.unusedVariables false
set_option linter.unusedSimpArgs false

def insV (x : RIns) : Bool := opOk x.op && aV (hasA x.op) (decide (x.op = 1)) x.a && bV (decide (x.op = 21)) x.b && lV (decide (x.op = 2)) x.lit && tV (decide (x.op = 22)) x.tos
theorem alloc_drew {a w : World} (h : a.grownBy w none) (o : Obj) : a.grownBy (w.alloc o) none := grown_trans h (World.grownBy_alloc _ _ _)

set_option maxRecDepth 8000 in
set_option maxHeartbeats 4000000 in
theorem implInsT (x : RIns) (a1 : Option Addr) (l1 c1 : Nat) (a2 : Option Addr) (l2 c2 : Nat) (w : World) (h : RdIns w x a1 l1 a2 l2) (hF : OpsIn w) :
    Calls Tryd.prog 7 #[.agg #[.int .i64 x.op, .int .i64 x.a, .int .i64 x.b, .slice a1 l1 c1, .slice a2 l2 c2]] w fun e u => e = .returned (.bool (insV x)) ∧ w.grownBy u none := by
  have g0 := World.grownBy_alloc w (.cells #[.int .i64 x.op, .int .i64 x.a, .int .i64 x.b, .slice a1 l1 c1, .slice a2 l2 c2] 28) none
  have b0 := heap_alloc_new w (.cells #[.int .i64 x.op, .int .i64 x.a, .int .i64 x.b, .slice a1 l1 c1, .slice a2 l2 c2] 28)
  have HS : Hid (∀ u, w.grownBy u none → RdIns u x a1 l1 a2 l2) := fun u hu => h.none hu
  have C0 : Hid _ := formOfOpT x.op (w.alloc (.cells #[.int .i64 x.op, .int .i64 x.a, .int .i64 x.b, .slice a1 l1 c1, .slice a2 l2 c2] 28)) (hF.none g0)
  have L0 : Hid (w.grownBy _ none ∧ _ = some (Obj.cells #[.int .i64 x.op, .int .i64 x.a, .int .i64 x.b, .slice a1 l1 c1, .slice a2 l2 c2] 28)) := ⟨g0, b0⟩
  obtain ⟨⟨y0, y1, y2, y3, y4⟩, -⟩ := blk5 b0
  clear h g0 b0 hF
  go_enter Tryd.func7, Tryd.ntmps7
  go_wp2_with fail
  refine Calls.mono C0.out ?_
  rintro e u0 ⟨he, hg⟩
  unfold FoO at he
  subst he
  have L1 : Hid (w.grownBy u0 none ∧ u0.heap[w.heap.size]? = some (Obj.cells #[.int .i64 x.op, .int .i64 x.a, .int .i64 x.b, .slice a1 l1 c1, .slice a2 l2 c2] 28)) := ⟨grown_trans L0.out.1 hg, (hg.block _ (lt_of_block L0.out.2) (by simp)).trans L0.out.2⟩
  clear C0 L0 hg y0 y1 y2 y3 y4
  generalize w.heap.size = p0 at *
  cases ho : opOk x.op with
  | false =>
    have HV : Hid (insV x = false) := by show _ = _; unfold insV; rw [ho]; rfl
    have G2 : Hid (w.grownBy u0 none) := L1.out.1
    clear L1
    simp only [Bool.false_and]
    go_wp2
    go_ret
    exact ⟨by rw [HV.out]; rfl, alloc_drew G2.out _⟩
  | true =>
    simp only [Bool.true_and]
    have HV : Hid (insV x = (aV (hasA x.op) (decide (x.op = 1)) x.a && bV (decide (x.op = 21)) x.b && lV (decide (x.op = 2)) x.lit && tV (decide (x.op = 22)) x.tos)) := by show _ = _; unfold insV; rw [ho]; simp only [Bool.true_and]
    generalize hasA x.op = q0 at *
    generalize decide (x.op = 1) = q1 at *
    generalize decide (x.op = 21) = q2 at *
    generalize decide (x.op = 2) = q3 at *
    generalize decide (x.op = 22) = q4 at *
    have ga := World.grownBy_alloc u0 (.cells #[.bool q0, .bool q1, .bool q2, .bool q3, .bool q4] 40) none
    have ba := heap_alloc_new u0 (.cells #[.bool q0, .bool q1, .bool q2, .bool q3, .bool q4] 40)
    have L2 : Hid (w.grownBy _ none ∧ _ = some (Obj.cells #[.int .i64 x.op, .int .i64 x.a, .int .i64 x.b, .slice a1 l1 c1, .slice a2 l2 c2] 28) ∧ _ = some (Obj.cells #[.bool q0, .bool q1, .bool q2, .bool q3, .bool q4] 40)) := ⟨grown_trans L1.out.1 ga, (ga.block _ (lt_of_block L1.out.2) (by simp)).trans L1.out.2, ba⟩
    clear L1 ga ba ho
    obtain ⟨⟨y0, y1, y2, y3, y4⟩, -⟩ := blk5 L2.out.2.1
    obtain ⟨⟨z0, z1, z2, z3, z4⟩, -⟩ := blk5 L2.out.2.2
    have C1 : Hid _ := aFitsT q0 q1 q2 q3 q4 x.a (u0.alloc (.cells #[.bool q0, .bool q1, .bool q2, .bool q3, .bool q4] 40))
    go_wp2_with fail
    refine Calls.mono C1.out ?_
    rintro e u1 ⟨rfl, hg⟩
    generalize u0.heap.size = p9 at *
    have L3 : Hid (w.grownBy u1 none ∧ u1.heap[p0]? = some (Obj.cells #[.int .i64 x.op, .int .i64 x.a, .int .i64 x.b, .slice a1 l1 c1, .slice a2 l2 c2] 28) ∧ u1.heap[p9]? = some (Obj.cells #[.bool q0, .bool q1, .bool q2, .bool q3, .bool q4] 40)) := ⟨grown_trans L2.out.1 hg, (hg.block _ (lt_of_block L2.out.2.1) (by simp)).trans L2.out.2.1, (hg.block _ (lt_of_block L2.out.2.2) (by simp)).trans L2.out.2.2⟩
    clear C1 hg L2 y0 y1 y2 y3 y4 z0 z1 z2 z3 z4
    obtain ⟨⟨y0, y1, y2, y3, y4⟩, -⟩ := blk5 L3.out.2.1
    obtain ⟨⟨z0, z1, z2, z3, z4⟩, -⟩ := blk5 L3.out.2.2
    simp only []
    cases hq0 : aV q0 q1 x.a with
    | false =>
      go_wp2
      go_ret
      exact ⟨by rw [HV.out]; simp [hq0], L3.out.1⟩
    | true =>
      have C2 : Hid _ := bFitsT q0 q1 q2 q3 q4 x.b u1
      go_wp2_with fail
      refine Calls.mono C2.out ?_
      rintro e u2 ⟨rfl, hg⟩
      have L4 : Hid (w.grownBy u2 none ∧ u2.heap[p0]? = some (Obj.cells #[.int .i64 x.op, .int .i64 x.a, .int .i64 x.b, .slice a1 l1 c1, .slice a2 l2 c2] 28) ∧ u2.heap[p9]? = some (Obj.cells #[.bool q0, .bool q1, .bool q2, .bool q3, .bool q4] 40)) := ⟨grown_trans L3.out.1 hg, (hg.block _ (lt_of_block L3.out.2.1) (by simp)).trans L3.out.2.1, (hg.block _ (lt_of_block L3.out.2.2) (by simp)).trans L3.out.2.2⟩
      clear C2 hg L3 y0 y1 y2 y3 y4 z0 z1 z2 z3 z4
      obtain ⟨⟨y0, y1, y2, y3, y4⟩, -⟩ := blk5 L4.out.2.1
      obtain ⟨⟨z0, z1, z2, z3, z4⟩, -⟩ := blk5 L4.out.2.2
      simp only []
      cases hq1 : bV q2 x.b with
      | false =>
        go_wp2
        go_ret
        exact ⟨by rw [HV.out]; simp [hq0, hq1], L4.out.1⟩
      | true =>
        have C3 : Hid _ := litFitsT q0 q1 q2 q3 q4 a1 l1 c1 x.lit u2 (HS.out _ L4.out.1).1
        go_wp2_with fail
        refine Calls.mono C3.out ?_
        rintro e u3 ⟨rfl, hg⟩
        have L5 : Hid (w.grownBy u3 none ∧ u3.heap[p0]? = some (Obj.cells #[.int .i64 x.op, .int .i64 x.a, .int .i64 x.b, .slice a1 l1 c1, .slice a2 l2 c2] 28) ∧ u3.heap[p9]? = some (Obj.cells #[.bool q0, .bool q1, .bool q2, .bool q3, .bool q4] 40)) := ⟨grown_trans L4.out.1 hg, (hg.block _ (lt_of_block L4.out.2.1) (by simp)).trans L4.out.2.1, (hg.block _ (lt_of_block L4.out.2.2) (by simp)).trans L4.out.2.2⟩
        clear C3 hg L4 y0 y1 y2 y3 y4 z0 z1 z2 z3 z4
        obtain ⟨⟨y0, y1, y2, y3, y4⟩, -⟩ := blk5 L5.out.2.1
        obtain ⟨⟨z0, z1, z2, z3, z4⟩, -⟩ := blk5 L5.out.2.2
        simp only []
        cases hq2 : lV q3 x.lit with
        | false =>
          go_wp2
          go_ret
          exact ⟨by rw [HV.out]; simp [hq0, hq1, hq2], L5.out.1⟩
        | true =>
          have C4 : Hid _ := toFitsT q0 q1 q2 q3 q4 a2 l2 c2 x.tos u3 (HS.out _ L5.out.1).2
          go_wp2_with fail
          refine Calls.mono C4.out ?_
          rintro e u4 ⟨rfl, hg⟩
          have L6 : Hid (w.grownBy u4 none ∧ u4.heap[p0]? = some (Obj.cells #[.int .i64 x.op, .int .i64 x.a, .int .i64 x.b, .slice a1 l1 c1, .slice a2 l2 c2] 28) ∧ u4.heap[p9]? = some (Obj.cells #[.bool q0, .bool q1, .bool q2, .bool q3, .bool q4] 40)) := ⟨grown_trans L5.out.1 hg, (hg.block _ (lt_of_block L5.out.2.1) (by simp)).trans L5.out.2.1, (hg.block _ (lt_of_block L5.out.2.2) (by simp)).trans L5.out.2.2⟩
          clear C4 hg L5 y0 y1 y2 y3 y4 z0 z1 z2 z3 z4
          obtain ⟨⟨y0, y1, y2, y3, y4⟩, -⟩ := blk5 L6.out.2.1
          obtain ⟨⟨z0, z1, z2, z3, z4⟩, -⟩ := blk5 L6.out.2.2
          simp only []
          go_wp2
          go_ret
          exact ⟨by rw [HV.out]; simp [hq0, hq1, hq2], L6.out.1⟩

end Go.Proofs.YtmjbnalhimhgnaaDoor.By
