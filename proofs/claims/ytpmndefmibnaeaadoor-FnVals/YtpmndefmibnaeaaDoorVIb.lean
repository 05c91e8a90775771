/-
  What is looked at: a value, and its parts by a closure. No statement is proved here.
-/
import Derived.Test.YtpmndefmibnaeaaDoorVIa
import Derived.Laws.EntriesVeiled
namespace Go.Proofs.YtpmndefmibnaeaaDoor.By
open Go.RowKit
set_option linter.unusedVariables false
set_option linter.unusedSimpArgs false

def LkV (x : RVal) (a1 : Option Addr) (l1 c1 pl p5 p3 : Nat) : Value := .agg #[.int .i64 x.k, .int .i64 x.n, .slice a1 l1 c1, .int .i64 (pl : Nat), .func (Fn.func 32) #[] #[.pointer (some ⟨p5, 0, none⟩), .pointer (some ⟨p3, 0, none⟩)]]
/-- What the closure names. -/
def Clo (W0 u : World) (cells : V) (x : RVal) (ca : Option Addr) (cl cc p5 p3 : Nat) : Prop :=
  (∃ pa pc, u.heap[p5]? = some (.cells #[.slice pa (prt cells x).len pc] 29 (0, 0)) ∧ SlVal W0 pa (prt cells x).len (prt cells x)) ∧ u.heap[p3]? = some (.cells #[.slice ca cl cc] 29 (0, 0))
theorem Clo.of {W0 u u' : World} {cells : V} {x : RVal} {ca : Option Addr} {cl cc p5 p3 : Nat} (h : Clo W0 u cells x ca cl cc p5 p3) (hk : ∀ (i : Nat) (v : Value), u.heap[i]? = some (Obj.cells #[v] 29 (0, 0)) → u'.heap[i]? = some (Obj.cells #[v] 29 (0, 0))) : Clo W0 u' cells x ca cl cc p5 p3 := by
  obtain ⟨⟨pa, pc, h1, h2⟩, h3⟩ := h
  exact ⟨⟨pa, pc, hk _ _ h1, h2⟩, hk _ _ h3⟩
theorem Clo.none {W0 u u' : World} {cells : V} {x : RVal} {ca : Option Addr} {cl cc p5 p3 : Nat} (h : Clo W0 u cells x ca cl cc p5 p3) (g : u.grownBy u' Option.none) : Clo W0 u' cells x ca cl cc p5 p3 := h.of fun i v hi => (g.block i (lt_of_block hi) (by simp)).trans hi

theorem cellAt_in {w : World} : ∀ (xs : V) {b o : Nat} (i : Nat), InVal w w xs b o → i < xs.len → InVal w w (V.cn (xs.nth i) .nil) b (o + i * 4) := by
  intro xs
  induction xs with
  | nil => intro b o i _ h; simp [V.len] at h
  | cons k n t d r _ ih =>
    intro b o i h hi
    cases i with
    | zero => rw [Nat.zero_mul, Nat.add_zero]; exact ⟨h.1, trivial⟩
    | succ i =>
      have := ih i h.2 (by simp only [V.len] at hi; omega)
      rw [show o + 4 + i * 4 = o + (i + 1) * 4 by omega] at this
      exact this

set_option maxRecDepth 8000 in
set_option maxHeartbeats 2000000 in
theorem cellAtT (W0 : World) (cells : V) (x : RVal) (ca : Option Addr) (cl cc : Nat) (w : World) (hC : SlVal W0 ca cl cells) (hcc : cl ≤ cc) (hk : x.k = 5) (hn : -9223372036854775808 ≤ x.n ∧ x.n ≤ 9223372036854775807) :
    Calls Tryd.prog 31 #[.slice ca cl cc, .int .i64 x.n] w fun e u => (∃ pa pc, e = .returned (.slice pa (prt cells x).len pc) ∧ SlVal W0 pa (prt cells x).len (prt cells x)) ∧ u = w := by
  obtain ⟨k, n, t, dl⟩ := x
  simp only [] at hk hn ⊢
  subst hk
  have hcl := hC.1
  have hcl2 := hC.2.1
  by_cases hin : 0 ≤ n ∧ n < (cells.len : Int)
  · have ep : prt cells ⟨5, n, t, dl⟩ = V.cn (cells.nth n.toNat) .nil := by unfold prt; rw [if_pos rfl, if_pos hin]
    rw [ep]
    obtain ⟨i, rfl⟩ : ∃ i : Nat, n = (i : Int) := ⟨n.toNat, by omega⟩
    rw [Int.toNat_natCast]
    rcases hC.cases with ⟨e0, -⟩ | ⟨b, o, rfl, hi, -⟩
    · omega
    have hil : i < cl := by omega
    have hil' : ¬ (cl : Int) ≤ (i : Int) := by omega
    have hi0 : ¬ (i : Int) < 0 := by omega
    have hw : IntKind.i64.wrap ((i : Int) + 1) = (i : Int) + 1 := IntWalk.i64_in _ ⟨by omega, by omega⟩
    have FF : Hid (SlVal W0 (some ⟨b, o + i * 4, none⟩) 1 (V.cn (cells.nth i) .nil)) := ⟨rfl, by omega, .inr ⟨_, _, rfl, cellAt_in cells i hi (by omega)⟩⟩
    clear hi hC ep hin
    go_enter Tryd.func31, Tryd.ntmps31
    go_wp2
    go_ret
    exact ⟨⟨_, ⟨_, rfl⟩, FF.out⟩, rfl⟩
  · have ep : prt cells ⟨5, n, t, dl⟩ = .nil := by unfold prt; rw [if_pos rfl, if_neg hin]
    rw [ep]
    clear ep
    by_cases hn0 : n < 0
    · go_enter Tryd.func31, Tryd.ntmps31
      go_wp2
      go_ret
      exact ⟨⟨none, 0, rfl, rfl, by simp [V.len], Or.inl rfl⟩, rfl⟩
    · have hil' : (cl : Int) ≤ n := by omega
      go_enter Tryd.func31, Tryd.ntmps31
      go_wp2
      go_ret
      exact ⟨⟨none, ⟨0, rfl⟩, rfl, by simp [V.len], .inl rfl⟩, rfl⟩

theorem blkLook {w : World} {g : Nat} {t : TypeId} {v0 v1 v2 v3 v4 : Value} (h : w.heap[g]? = some (.cells #[v0, v1, v2, v3, v4] t (0, 0))) : (w.cell? ⟨g, 0, none⟩ = some v0 ∧ w.cell? ⟨g, 1, none⟩ = some v1 ∧ w.cell? ⟨g, 2, none⟩ = some v2 ∧ w.cell? ⟨g, 3, none⟩ = some v3 ∧ w.cell? ⟨g, 4, none⟩ = some v4) ∧ ∀ j, w.frozen? ⟨g, j, none⟩ = false := by
  refine ⟨⟨?_, ?_, ?_, ?_, ?_⟩, fun j => frozen_of_row w g _ _ t h⟩ <;> (rw [cell_of_row w g _ _ t (0, 0) h]; rfl)
theorem fillLook {w : World} {p : Nat} {t : TypeId} {o0 o1 o2 o3 o4 : Value} (v0 v1 v2 v3 v4 : Value) (h : w.heap[p]? = some (.cells #[o0, o1, o2, o3, o4] t (0, 0))) :
    (((((w.setCell ⟨p, 0, none⟩ (v0)).setCell ⟨p, 1, none⟩ (v1)).setCell ⟨p, 2, none⟩ (v2)).setCell ⟨p, 3, none⟩ (v3)).setCell ⟨p, 4, none⟩ (v4)).heap[p]? = some (.cells #[v0, v1, v2, v3, v4] t (0, 0)) ∧ w.grownBy (((((w.setCell ⟨p, 0, none⟩ (v0)).setCell ⟨p, 1, none⟩ (v1)).setCell ⟨p, 2, none⟩ (v2)).setCell ⟨p, 3, none⟩ (v3)).setCell ⟨p, 4, none⟩ (v4)) (some p) := by
  have h0 : (w.setCell ⟨p, 0, none⟩ (v0)).heap[p]? = some (.cells #[v0, o1, o2, o3, o4] t (0, 0)) := heap_setCell_same _ p 0 _ t v0 h
  have h1 : ((w.setCell ⟨p, 0, none⟩ (v0)).setCell ⟨p, 1, none⟩ (v1)).heap[p]? = some (.cells #[v0, v1, o2, o3, o4] t (0, 0)) := heap_setCell_same _ p 1 _ t v1 h0
  have h2 : (((w.setCell ⟨p, 0, none⟩ (v0)).setCell ⟨p, 1, none⟩ (v1)).setCell ⟨p, 2, none⟩ (v2)).heap[p]? = some (.cells #[v0, v1, v2, o3, o4] t (0, 0)) := heap_setCell_same _ p 2 _ t v2 h1
  have h3 : ((((w.setCell ⟨p, 0, none⟩ (v0)).setCell ⟨p, 1, none⟩ (v1)).setCell ⟨p, 2, none⟩ (v2)).setCell ⟨p, 3, none⟩ (v3)).heap[p]? = some (.cells #[v0, v1, v2, v3, o4] t (0, 0)) := heap_setCell_same _ p 3 _ t v3 h2
  have h4 : (((((w.setCell ⟨p, 0, none⟩ (v0)).setCell ⟨p, 1, none⟩ (v1)).setCell ⟨p, 2, none⟩ (v2)).setCell ⟨p, 3, none⟩ (v3)).setCell ⟨p, 4, none⟩ (v4)).heap[p]? = some (.cells #[v0, v1, v2, v3, v4] t (0, 0)) := heap_setCell_same _ p 4 _ t v4 h3
  exact ⟨h4, grown_trans (grown_trans (grown_trans (grown_trans (grown_trans (World.grownBy.refl _ _) (grown_setCell _ _ _ _)) (grown_setCell _ _ _ _)) (grown_setCell _ _ _ _)) (grown_setCell _ _ _ _)) (grown_setCell _ _ _ _)⟩


set_option maxRecDepth 8000 in
set_option maxHeartbeats 4000000 in
theorem lookT (W0 : World) (cells : V) (x : RVal) (a1 : Option Addr) (l1 c1 : Nat) (a2 : Option Addr) (l2 c2 : Nat) (ca : Option Addr) (cl cc : Nat) (w : World) (hC : SlVal W0 ca cl cells) (hcc : cl ≤ cc) (h : SlVal W0 a2 l2 x.list) (hn : -9223372036854775808 ≤ x.n ∧ x.n ≤ 9223372036854775807) :
    Calls Tryd.prog 24 #[.agg #[.int .i64 x.k, .int .i64 x.n, .slice a1 l1 c1, .slice a2 l2 c2], .slice ca cl cc] w fun e u => ∃ p5 p3, e = .returned (LkV x a1 l1 c1 (prt cells x).len p5 p3) ∧ w.grownBy u none ∧ Clo W0 u cells x ca cl cc p5 p3 := by
  have L0 : Hid (w.grownBy ((((w.alloc (.cells #[.int .i64 x.k, .int .i64 x.n, .slice a1 l1 c1, .slice a2 l2 c2] 31)).alloc (.cells #[.slice ca cl cc] 29)).alloc (.cells #[.int .i64 0, .int .i64 0, .slice none 0 0, .int .i64 0, .nilFunc] 48)).alloc (.cells #[.slice a2 l2 c2] 29)) none ∧ ((((w.alloc (.cells #[.int .i64 x.k, .int .i64 x.n, .slice a1 l1 c1, .slice a2 l2 c2] 31)).alloc (.cells #[.slice ca cl cc] 29)).alloc (.cells #[.int .i64 0, .int .i64 0, .slice none 0 0, .int .i64 0, .nilFunc] 48)).alloc (.cells #[.slice a2 l2 c2] 29)).heap[w.heap.size]? = some (Obj.cells #[.int .i64 x.k, .int .i64 x.n, .slice a1 l1 c1, .slice a2 l2 c2] 31 (0, 0)) ∧ ((((w.alloc (.cells #[.int .i64 x.k, .int .i64 x.n, .slice a1 l1 c1, .slice a2 l2 c2] 31)).alloc (.cells #[.slice ca cl cc] 29)).alloc (.cells #[.int .i64 0, .int .i64 0, .slice none 0 0, .int .i64 0, .nilFunc] 48)).alloc (.cells #[.slice a2 l2 c2] 29)).heap[w.heap.size + 1]? = some (Obj.cells #[.slice ca cl cc] 29 (0, 0)) ∧ ((((w.alloc (.cells #[.int .i64 x.k, .int .i64 x.n, .slice a1 l1 c1, .slice a2 l2 c2] 31)).alloc (.cells #[.slice ca cl cc] 29)).alloc (.cells #[.int .i64 0, .int .i64 0, .slice none 0 0, .int .i64 0, .nilFunc] 48)).alloc (.cells #[.slice a2 l2 c2] 29)).heap[w.heap.size + 1 + 1]? = some (Obj.cells #[.int .i64 0, .int .i64 0, .slice none 0 0, .int .i64 0, .nilFunc] 48 (0, 0)) ∧ ((((w.alloc (.cells #[.int .i64 x.k, .int .i64 x.n, .slice a1 l1 c1, .slice a2 l2 c2] 31)).alloc (.cells #[.slice ca cl cc] 29)).alloc (.cells #[.int .i64 0, .int .i64 0, .slice none 0 0, .int .i64 0, .nilFunc] 48)).alloc (.cells #[.slice a2 l2 c2] 29)).heap[w.heap.size + 1 + 1 + 1]? = some (Obj.cells #[.slice a2 l2 c2] 29 (0, 0))) := by
    obtain ⟨b0, b1, b2, bs⟩ := alloc3_blocks w (.cells #[.int .i64 x.k, .int .i64 x.n, .slice a1 l1 c1, .slice a2 l2 c2] 31) (.cells #[.slice ca cl cc] 29) (.cells #[.int .i64 0, .int .i64 0, .slice none 0 0, .int .i64 0, .nilFunc] 48)
    have g0 := grown_alloc (grown_alloc (grown_alloc (World.grownBy.refl w none) (.cells #[.int .i64 x.k, .int .i64 x.n, .slice a1 l1 c1, .slice a2 l2 c2] 31)) (.cells #[.slice ca cl cc] 29)) (.cells #[.int .i64 0, .int .i64 0, .slice none 0 0, .int .i64 0, .nilFunc] 48)
    generalize ((w.alloc (.cells #[.int .i64 x.k, .int .i64 x.n, .slice a1 l1 c1, .slice a2 l2 c2] 31)).alloc (.cells #[.slice ca cl cc] 29)).alloc (.cells #[.int .i64 0, .int .i64 0, .slice none 0 0, .int .i64 0, .nilFunc] 48) = w3 at *
    have ga := World.grownBy_alloc w3 (.cells #[.slice a2 l2 c2] 29) none
    have bn := heap_alloc_new w3 (.cells #[.slice a2 l2 c2] 29)
    rw [bs] at bn
    exact ⟨grown_trans g0 ga, (ga.block _ (lt_of_block b0) (by simp)).trans b0, (ga.block _ (lt_of_block b1) (by simp)).trans b1, (ga.block _ (lt_of_block b2) (by simp)).trans b2, bn⟩
  go_enter Tryd.func24, Tryd.ntmps24
  go_upto_region 2 with fail
  generalize (((w.alloc (.cells #[.int .i64 x.k, .int .i64 x.n, .slice a1 l1 c1, .slice a2 l2 c2] 31)).alloc (.cells #[.slice ca cl cc] 29)).alloc (.cells #[.int .i64 0, .int .i64 0, .slice none 0 0, .int .i64 0, .nilFunc] 48)).alloc (.cells #[.slice a2 l2 c2] 29) = u at *
  generalize ee0 : w.heap.size = p0 at *
  generalize ee1 : p0 + 1 = p3 at *
  generalize ee2 : p3 + 1 = p4 at *
  generalize ee3 : p4 + 1 = p5 at *
  obtain ⟨gu, b0, b3, b4, b5⟩ := L0.out
  clear L0
  by_cases h5 : x.k = 5
  · have CC : Hid _ := cellAtT W0 cells x ca cl cc u hC hcc h5 hn
    have h5' : (x.k == 5) = true := by simpa using h5
    clear h5
    obtain ⟨⟨y0, y1, y2, y3⟩, -⟩ := blkVal b0
    obtain ⟨q0, qf0⟩ := one_cell b5
    obtain ⟨q3, -⟩ := one_cell b3
    have BB : Hid _ := And.intro gu (And.intro b0 (And.intro b3 (And.intro b4 b5)))
    clear gu b0 b3 b4 b5 h hC
    go_wp2_with fail
    refine Calls.mono CC.out ?_
    rintro e z ⟨⟨pa, pc, rfl, hpl⟩, rfl⟩
    have PL : Hid (SlVal W0 pa (prt cells x).len (prt cells x)) := hpl
    clear hpl CC
    simp only []
    go_upto_region 4 with fail
    clear y0 y1 y2 y3 q0 qf0 q3
    have kk := grown_setCell z p5 0 (.slice pa (prt cells x).len pc)
    have B4 : Hid (w.grownBy (z.setCell ⟨p5, 0, none⟩ (.slice pa (prt cells x).len pc)) none ∧ (z.setCell ⟨p5, 0, none⟩ (.slice pa (prt cells x).len pc)).heap[p4]? = some (Obj.cells #[.int .i64 0, .int .i64 0, .slice none 0 0, .int .i64 0, .nilFunc] 48 (0, 0)) ∧ (z.setCell ⟨p5, 0, none⟩ (.slice pa (prt cells x).len pc)).heap[p0]? = some (Obj.cells #[.int .i64 x.k, .int .i64 x.n, .slice a1 l1 c1, .slice a2 l2 c2] 31 (0, 0)) ∧ (z.setCell ⟨p5, 0, none⟩ (.slice pa (prt cells x).len pc)).heap[p5]? = some (Obj.cells #[.slice pa (prt cells x).len pc] 29 (0, 0)) ∧ (z.setCell ⟨p5, 0, none⟩ (.slice pa (prt cells x).len pc)).heap[p3]? = some (Obj.cells #[.slice ca cl cc] 29 (0, 0)) ∧ p0 ≠ p4 ∧ p5 ≠ p4 ∧ p3 ≠ p4) := by
      obtain ⟨gu, b0, b3, b4, b5⟩ := BB.out
      exact ⟨grown_into gu kk (by omega), (kk.block _ (lt_of_block b4) (by simp; omega)).trans b4, (kk.block _ (lt_of_block b0) (by simp; omega)).trans b0, heap_setCell_same _ p5 0 _ _ _ b5, (kk.block _ (lt_of_block b3) (by simp; omega)).trans b3, by omega, by omega, by omega⟩
    clear kk BB
    generalize z.setCell ⟨p5, 0, none⟩ (.slice pa (prt cells x).len pc) = z2 at *
    obtain ⟨⟨z0, z1, z2, z3, z4⟩, hfz⟩ := blkLook B4.out.2.1
    have fz0 := hfz 0
    have fz1 := hfz 1
    have fz2 := hfz 2
    have fz3 := hfz 3
    have fz4 := hfz 4
    obtain ⟨⟨y0, y1, y2, y3⟩, -⟩ := blkVal B4.out.2.2.1
    obtain ⟨q0, -⟩ := one_cell B4.out.2.2.2.1
    have nn := B4.out.2.2.2.2.2
    obtain ⟨mf, kf⟩ := fillLook (.int .i64 x.k) (.int .i64 x.n) (.slice a1 l1 c1) (.int .i64 ((prt cells x).len : Nat)) (.func (Fn.func 32) #[] #[.pointer (some ⟨p5, 0, none⟩), .pointer (some ⟨p3, 0, none⟩)]) B4.out.2.1
    have FQ : Hid _ := And.intro mf (And.intro (grown_into B4.out.1 kf (by omega)) (And.intro ((kf.block p5 (lt_of_block B4.out.2.2.2.1) (by simp; omega)).trans B4.out.2.2.2.1) ((kf.block p3 (lt_of_block B4.out.2.2.2.2.1) (by simp; omega)).trans B4.out.2.2.2.2.1)))
    clear mf kf hfz B4
    go_wp2
    (try simp only [Exit.inBlock, Exit.then])
    refine bodyPost_ret (results_cell_row (P := Tryd.prog) Tryd.results24 _ _ p4 _ _ _ _ rfl FQ.out.1 Tryd.underlying48 rfl (by kernel_rfl)) rfl ?_
    refine ⟨p5, p3, rfl, FQ.out.2.1, ⟨_, _, FQ.out.2.2.1, PL.out⟩, FQ.out.2.2.2⟩
  · have ep : (prt cells x).len = l2 := by unfold prt; rw [if_neg h5]; exact h.1
    have PL : Hid (SlVal W0 a2 (prt cells x).len (prt cells x)) := by
      show SlVal _ _ _ _
      rw [ep]
      unfold prt; rw [if_neg h5]; exact h
    have h5' : (x.k == 5) = false := by simpa using h5
    rw [← ep] at b5 b0 ⊢
    have B4 : Hid _ := And.intro gu (And.intro b4 (And.intro b0 (And.intro b5 (And.intro b3 (show p0 ≠ p4 ∧ p5 ≠ p4 ∧ p3 ≠ p4 from ⟨by omega, by omega, by omega⟩)))))
    clear gu b0 b3 b4 b5 h hC ep h5
    obtain ⟨⟨z0, z1, z2, z3, z4⟩, hfz⟩ := blkLook B4.out.2.1
    have fz0 := hfz 0
    have fz1 := hfz 1
    have fz2 := hfz 2
    have fz3 := hfz 3
    have fz4 := hfz 4
    obtain ⟨⟨y0, y1, y2, y3⟩, -⟩ := blkVal B4.out.2.2.1
    obtain ⟨q0, -⟩ := one_cell B4.out.2.2.2.1
    have nn := B4.out.2.2.2.2.2
    obtain ⟨mf, kf⟩ := fillLook (.int .i64 x.k) (.int .i64 x.n) (.slice a1 l1 c1) (.int .i64 ((prt cells x).len : Nat)) (.func (Fn.func 32) #[] #[.pointer (some ⟨p5, 0, none⟩), .pointer (some ⟨p3, 0, none⟩)]) B4.out.2.1
    have FQ : Hid _ := And.intro mf (And.intro (grown_into B4.out.1 kf (by omega)) (And.intro ((kf.block p5 (lt_of_block B4.out.2.2.2.1) (by simp; omega)).trans B4.out.2.2.2.1) ((kf.block p3 (lt_of_block B4.out.2.2.2.2.1) (by simp; omega)).trans B4.out.2.2.2.2.1)))
    clear mf kf hfz B4
    go_wp2
    (try simp only [Exit.inBlock, Exit.then])
    refine bodyPost_ret (results_cell_row (P := Tryd.prog) Tryd.results24 _ _ p4 _ _ _ _ rfl FQ.out.1 Tryd.underlying48 rfl (by kernel_rfl)) rfl ?_
    refine ⟨p5, p3, rfl, FQ.out.2.1, ⟨_, _, FQ.out.2.2.1, PL.out⟩, FQ.out.2.2.2⟩
end Go.Proofs.YtpmndefmibnaeaaDoor.By
