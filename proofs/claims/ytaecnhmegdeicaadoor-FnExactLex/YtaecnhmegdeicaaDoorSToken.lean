/-
  Token: how it lies in memory, how great it is, two that read the same compared, and its copy: the law's own helpers by their contracts. No statement is proved here.
-/
import Derived.Test.YtaecnhmegdeicaaDoorSBaAlso
import Derived.Test.YtaecnhmegdeicaaDoorEC1
import Derived.Deep.DeepCutAuto
namespace Go.Proofs.YtaecnhmegdeicaaDoor.By
open Go.RowKit
set_option linter.unusedVariables false
set_option linter.unusedSimpArgs false

structure RToken where
  kind : Int
  pos : Int
  n : Int
  text : List Int
def RdToken (w : World) (x : RToken) (a1 : Option Addr) (l1 : Nat) : Prop := RdB w a1 l1 x.text
theorem RdToken.le {w u : World} {x : RToken} {a1 : Option Addr} {l1 : Nat} (h : RdToken w x a1 l1) (k : CLe w u) : RdToken u x a1 l1 := (show RdB w a1 l1 x.text from h).le k
theorem RdToken.none {w u : World} {x : RToken} {a1 : Option Addr} {l1 : Nat} (h : RdToken w x a1 l1) (k : w.grownBy u Option.none) : RdToken u x a1 l1 := h.le (CLe.grown k)
def szToken (x : RToken) : Nat := x.text.length
theorem blkToken {w : World} {g : Nat} {t : TypeId} {v0 v1 v2 v3 : Value} (h : w.heap[g]? = some (.cells #[v0, v1, v2, v3] t (0, 0))) : (w.cell? ⟨g, 0, none⟩ = some v0 ∧ w.cell? ⟨g, 1, none⟩ = some v1 ∧ w.cell? ⟨g, 2, none⟩ = some v2 ∧ w.cell? ⟨g, 3, none⟩ = some v3) ∧ ∀ j, w.frozen? ⟨g, j, none⟩ = false := by
  refine ⟨⟨?_, ?_, ?_, ?_⟩, fun j => frozen_of_row w g _ _ t h⟩ <;> (rw [cell_of_row w g _ _ t (0, 0) h]; rfl)
theorem fillToken {w : World} {p : Nat} {t : TypeId} {o0 o1 o2 o3 : Value} (v0 v1 v2 v3 : Value) (h : w.heap[p]? = some (.cells #[o0, o1, o2, o3] t (0, 0))) :
    ((((w.setCell ⟨p, 0, none⟩ (v0)).setCell ⟨p, 1, none⟩ (v1)).setCell ⟨p, 2, none⟩ (v2)).setCell ⟨p, 3, none⟩ (v3)).heap[p]? = some (.cells #[v0, v1, v2, v3] t (0, 0)) ∧ w.grownBy ((((w.setCell ⟨p, 0, none⟩ (v0)).setCell ⟨p, 1, none⟩ (v1)).setCell ⟨p, 2, none⟩ (v2)).setCell ⟨p, 3, none⟩ (v3)) (some p) := by
  have h0 : (w.setCell ⟨p, 0, none⟩ (v0)).heap[p]? = some (.cells #[v0, o1, o2, o3] t (0, 0)) := heap_setCell_same _ p 0 _ t v0 h
  have h1 : ((w.setCell ⟨p, 0, none⟩ (v0)).setCell ⟨p, 1, none⟩ (v1)).heap[p]? = some (.cells #[v0, v1, o2, o3] t (0, 0)) := heap_setCell_same _ p 1 _ t v1 h0
  have h2 : (((w.setCell ⟨p, 0, none⟩ (v0)).setCell ⟨p, 1, none⟩ (v1)).setCell ⟨p, 2, none⟩ (v2)).heap[p]? = some (.cells #[v0, v1, v2, o3] t (0, 0)) := heap_setCell_same _ p 2 _ t v2 h1
  have h3 : ((((w.setCell ⟨p, 0, none⟩ (v0)).setCell ⟨p, 1, none⟩ (v1)).setCell ⟨p, 2, none⟩ (v2)).setCell ⟨p, 3, none⟩ (v3)).heap[p]? = some (.cells #[v0, v1, v2, v3] t (0, 0)) := heap_setCell_same _ p 3 _ t v3 h2
  exact ⟨h3, grown_trans (grown_trans (grown_trans (grown_trans (World.grownBy.refl _ _) (grown_setCell _ _ _ _)) (grown_setCell _ _ _ _)) (grown_setCell _ _ _ _)) (grown_setCell _ _ _ _)⟩

set_option maxRecDepth 4000 in
set_option maxHeartbeats 4000000 in
theorem eqTokenT (x : RToken) (a1 f1 : Option Addr) (l1 c1 g1 : Nat) (w : World) (h : RdToken w x a1 l1) (h' : RdToken w x f1 l1) (hs : szToken x ≤ 1048576) :
    Calls Tryd.prog 18 #[.agg #[.int .i64 x.kind, .int .i64 x.pos, .int .i64 x.n, .slice a1 l1 c1], .agg #[.int .i64 x.kind, .int .i64 x.pos, .int .i64 x.n, .slice f1 l1 g1]] w fun e u => e = .returned (.bool true) ∧ w.grownBy u none := by
  have hb1 : l1 ≤ 4194304 := by have := h.1.1; unfold szToken at hs; omega
  have HN : Hid (∀ u, w.grownBy u none → RdToken u x a1 l1 ∧ RdToken u x f1 l1) := fun u hu => ⟨h.none hu, h'.none hu⟩
  clear h h'
  obtain ⟨b0, b1, bsz⟩ := alloc2_blocks w (.cells #[.int .i64 x.kind, .int .i64 x.pos, .int .i64 x.n, .slice a1 l1 c1] 33) (.cells #[.int .i64 x.kind, .int .i64 x.pos, .int .i64 x.n, .slice f1 l1 g1] 33)
  have g0 := grown_alloc (grown_alloc (World.grownBy.refl w none) (.cells #[.int .i64 x.kind, .int .i64 x.pos, .int .i64 x.n, .slice a1 l1 c1] 33)) (.cells #[.int .i64 x.kind, .int .i64 x.pos, .int .i64 x.n, .slice f1 l1 g1] 33)
  have L0 : Hid (w.grownBy _ none ∧ _ = some (Obj.cells #[.int .i64 x.kind, .int .i64 x.pos, .int .i64 x.n, .slice a1 l1 c1] 33) ∧ _ = some (Obj.cells #[.int .i64 x.kind, .int .i64 x.pos, .int .i64 x.n, .slice f1 l1 g1] 33)) := ⟨g0, b0, b1⟩
  have C0 : Hid _ := eqBy a1 f1 l1 c1 g1 (x.text) _ ((HN.out _ g0).1).1 ((HN.out _ g0).2).1 (hb1)
  obtain ⟨⟨y0, y1, y2, y3⟩, -⟩ := blkToken b0
  obtain ⟨⟨yy0, yy1, yy2, yy3⟩, -⟩ := blkToken b1
  clear g0 b0 b1 bsz
  go_enter Tryd.func18, Tryd.ntmps18
  go_wp2_with fail
  refine Calls.mono C0.out ?_
  rintro e u0 ⟨he, hg⟩
  subst he
  have L1 : Hid (w.grownBy u0 none ∧ u0.heap[w.heap.size]? = some (Obj.cells #[.int .i64 x.kind, .int .i64 x.pos, .int .i64 x.n, .slice a1 l1 c1] 33) ∧ u0.heap[w.heap.size + 1]? = some (Obj.cells #[.int .i64 x.kind, .int .i64 x.pos, .int .i64 x.n, .slice f1 l1 g1] 33)) := ⟨grown_trans L0.out.1 hg, (hg.block _ (lt_of_block L0.out.2.1) (by simp)).trans L0.out.2.1, (hg.block _ (lt_of_block L0.out.2.2) (by simp)).trans L0.out.2.2⟩
  clear C0 hg L0 y0 y1 y2 y3 yy0 yy1 yy2 yy3
  simp only []
  go_wp2
  go_ret
  exact ⟨rfl, L1.out.1⟩

end Go.Proofs.YtaecnhmegdeicaaDoor.By
