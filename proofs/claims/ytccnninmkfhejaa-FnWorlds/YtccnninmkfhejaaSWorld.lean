/-
  World: how it lies in memory, how great it is, two that read the same compared, and its copy: the law's own helpers by their contracts. No statement is proved here.
-/
import Derived.Test.YtccnninmkfhejaaSEntryAlso
import Derived.Test.YtccnninmkfhejaaGQAlso
import Derived.Deep.DeepCutAuto
import Derived.Test.YtccnninmkfhejaaSEntrys
import Derived.Test.YtccnninmkfhejaaSEvents
namespace Go.Proofs.Ytccnninmkfhejaa.By
open Go.RowKit
set_option linter.unusedVariables false
set_option linter.unusedSimpArgs false

structure RWorld where
  ticks : Int
  draws : List Int
  store : List REntry
  trace : List REvent
def RdWorld (w : World) (x : RWorld) (a1 : Option Addr) (l1 : Nat) (a2 : Option Addr) (l2 : Nat) (a3 : Option Addr) (l3 : Nat) : Prop := RdI w a1 l1 x.draws ∧ SlEntry w a2 l2 x.store ∧ SlEvent w a3 l3 x.trace
theorem RdWorld.le {w u : World} {x : RWorld} {a1 a2 a3 : Option Addr} {l1 l2 l3 : Nat} (h : RdWorld w x a1 l1 a2 l2 a3 l3) (k : CLe w u) : RdWorld u x a1 l1 a2 l2 a3 l3 := ⟨h.1.le k, h.2.1.le k, h.2.2.le k⟩
theorem RdWorld.none {w u : World} {x : RWorld} {a1 a2 a3 : Option Addr} {l1 l2 l3 : Nat} (h : RdWorld w x a1 l1 a2 l2 a3 l3) (k : w.grownBy u Option.none) : RdWorld u x a1 l1 a2 l2 a3 l3 := h.le (CLe.grown k)
def szWorld (x : RWorld) : Nat := x.draws.length + szEntrys x.store + szEvents x.trace
theorem blkWorld {w : World} {g : Nat} {t : TypeId} {v0 v1 v2 v3 : Value} (h : w.heap[g]? = some (.cells #[v0, v1, v2, v3] t (0, 0))) : (w.cell? ⟨g, 0, none⟩ = some v0 ∧ w.cell? ⟨g, 1, none⟩ = some v1 ∧ w.cell? ⟨g, 2, none⟩ = some v2 ∧ w.cell? ⟨g, 3, none⟩ = some v3) ∧ ∀ j, w.frozen? ⟨g, j, none⟩ = false := by
  refine ⟨⟨?_, ?_, ?_, ?_⟩, fun j => frozen_of_row w g _ _ t h⟩ <;> (rw [cell_of_row w g _ _ t (0, 0) h]; rfl)
theorem fillWorld {w : World} {p : Nat} {t : TypeId} {o0 o1 o2 o3 : Value} (v0 v1 v2 v3 : Value) (h : w.heap[p]? = some (.cells #[o0, o1, o2, o3] t (0, 0))) :
    ((((w.setCell ⟨p, 0, none⟩ (v0)).setCell ⟨p, 1, none⟩ (v1)).setCell ⟨p, 2, none⟩ (v2)).setCell ⟨p, 3, none⟩ (v3)).heap[p]? = some (.cells #[v0, v1, v2, v3] t (0, 0)) ∧ w.grownBy ((((w.setCell ⟨p, 0, none⟩ (v0)).setCell ⟨p, 1, none⟩ (v1)).setCell ⟨p, 2, none⟩ (v2)).setCell ⟨p, 3, none⟩ (v3)) (some p) := by
  have h0 : (w.setCell ⟨p, 0, none⟩ (v0)).heap[p]? = some (.cells #[v0, o1, o2, o3] t (0, 0)) := heap_setCell_same _ p 0 _ t v0 h
  have h1 : ((w.setCell ⟨p, 0, none⟩ (v0)).setCell ⟨p, 1, none⟩ (v1)).heap[p]? = some (.cells #[v0, v1, o2, o3] t (0, 0)) := heap_setCell_same _ p 1 _ t v1 h0
  have h2 : (((w.setCell ⟨p, 0, none⟩ (v0)).setCell ⟨p, 1, none⟩ (v1)).setCell ⟨p, 2, none⟩ (v2)).heap[p]? = some (.cells #[v0, v1, v2, o3] t (0, 0)) := heap_setCell_same _ p 2 _ t v2 h1
  have h3 : ((((w.setCell ⟨p, 0, none⟩ (v0)).setCell ⟨p, 1, none⟩ (v1)).setCell ⟨p, 2, none⟩ (v2)).setCell ⟨p, 3, none⟩ (v3)).heap[p]? = some (.cells #[v0, v1, v2, v3] t (0, 0)) := heap_setCell_same _ p 3 _ t v3 h2
  exact ⟨h3, grown_trans (grown_trans (grown_trans (grown_trans (World.grownBy.refl _ _) (grown_setCell _ _ _ _)) (grown_setCell _ _ _ _)) (grown_setCell _ _ _ _)) (grown_setCell _ _ _ _)⟩

set_option maxRecDepth 4000 in
set_option maxHeartbeats 4000000 in
theorem szWorldT (x : RWorld) (a1 : Option Addr) (l1 c1 : Nat) (a2 : Option Addr) (l2 c2 : Nat) (a3 : Option Addr) (l3 c3 : Nat) (L : Int) (w : World) (h : RdWorld w x a1 l1 a2 l2 a3 l3) (h0 : 0 ≤ L) (h1 : L ≤ 1048576) :
    Calls Try.prog 11 #[.agg #[.int .i64 x.ticks, .slice a1 l1 c1, .slice a2 l2 c2, .slice a3 l3 c3], .int .i64 L] w fun e u => SzW L (szWorld x) e ∧ w.grownBy u none := by
  have g0 := World.grownBy_alloc w (.cells #[.int .i64 x.ticks, .slice a1 l1 c1, .slice a2 l2 c2, .slice a3 l3 c3] 41) none
  have b0 := heap_alloc_new w (.cells #[.int .i64 x.ticks, .slice a1 l1 c1, .slice a2 l2 c2, .slice a3 l3 c3] 41)
  have HN : Hid (∀ u, w.grownBy u none → RdWorld u x a1 l1 a2 l2 a3 l3) := fun u hu => h.none hu
  clear h
  have L0 : Hid (w.grownBy _ none ∧ _ = some (Obj.cells #[.int .i64 x.ticks, .slice a1 l1 c1, .slice a2 l2 c2, .slice a3 l3 c3] 41)) := ⟨g0, b0⟩
  have C0 : Hid _ := szInW a1 l1 c1 (x.draws) L _ ((HN.out _ g0).1) h0 h1
  obtain ⟨⟨y0, y1, y2, y3⟩, -⟩ := blkWorld b0
  clear g0 b0
  go_enter Try.func11, Try.ntmps11
  go_wp2_with fail
  refine Calls.mono C0.out ?_
  rintro e u0 ⟨⟨r0, he, hr⟩, hg⟩
  subst he
  have L1 : Hid (w.grownBy u0 none ∧ u0.heap[w.heap.size]? = some (Obj.cells #[.int .i64 x.ticks, .slice a1 l1 c1, .slice a2 l2 c2, .slice a3 l3 c3] 41)) := ⟨grown_trans L0.out.1 hg, (hg.block _ (lt_of_block L0.out.2) (by simp)).trans L0.out.2⟩
  clear C0 hg L0 y0 y1 y2 y3
  simp only []
  rcases hr with rfl | ⟨hr0, hs0⟩
  · go_wp2
    go_ret
    exact ⟨⟨-1, rfl, .inl rfl⟩, L1.out.1⟩
  have C1 : Hid _ := szEntrysT (x.store) a2 l2 c2 r0 u0 ((HN.out _ L1.out.1).2.1) hr0 (by omega)
  obtain ⟨⟨y0, y1, y2, y3⟩, -⟩ := blkWorld L1.out.2
  go_wp2_with fail
  refine Calls.mono C1.out ?_
  rintro e u1 ⟨⟨r1, he, hr⟩, hg⟩
  subst he
  have L2 : Hid (w.grownBy u1 none ∧ u1.heap[w.heap.size]? = some (Obj.cells #[.int .i64 x.ticks, .slice a1 l1 c1, .slice a2 l2 c2, .slice a3 l3 c3] 41)) := ⟨grown_trans L1.out.1 hg, (hg.block _ (lt_of_block L1.out.2) (by simp)).trans L1.out.2⟩
  clear C1 hg L1 y0 y1 y2 y3
  simp only []
  rcases hr with rfl | ⟨hr1, hs1⟩
  · go_wp2
    go_ret
    exact ⟨⟨-1, rfl, .inl rfl⟩, L2.out.1⟩
  have C2 : Hid _ := szEventsT (x.trace) a3 l3 c3 r1 u1 ((HN.out _ L2.out.1).2.2) hr1 (by omega)
  obtain ⟨⟨y0, y1, y2, y3⟩, -⟩ := blkWorld L2.out.2
  go_wp2_with fail
  refine Calls.mono C2.out ?_
  rintro e u2 ⟨⟨r2, he, hr⟩, hg⟩
  subst he
  have L3 : Hid (w.grownBy u2 none ∧ u2.heap[w.heap.size]? = some (Obj.cells #[.int .i64 x.ticks, .slice a1 l1 c1, .slice a2 l2 c2, .slice a3 l3 c3] 41)) := ⟨grown_trans L2.out.1 hg, (hg.block _ (lt_of_block L2.out.2) (by simp)).trans L2.out.2⟩
  clear C2 hg L2 y0 y1 y2 y3
  simp only []
  rcases hr with rfl | ⟨hr2, hs2⟩
  · go_wp2
    go_ret
    exact ⟨⟨-1, rfl, .inl rfl⟩, L3.out.1⟩
  go_wp2
  go_ret
  exact ⟨⟨r2, rfl, .inr ⟨hr2, by unfold szWorld; omega⟩⟩, L3.out.1⟩

set_option maxRecDepth 4000 in
set_option maxHeartbeats 4000000 in
theorem eqWorldT (x : RWorld) (a1 f1 : Option Addr) (l1 c1 g1 : Nat) (a2 f2 : Option Addr) (l2 c2 g2 : Nat) (a3 f3 : Option Addr) (l3 c3 g3 : Nat) (w : World) (h : RdWorld w x a1 l1 a2 l2 a3 l3) (h' : RdWorld w x f1 l1 f2 l2 f3 l3) (hs : szWorld x ≤ 2097152) :
    Calls Try.prog 15 #[.agg #[.int .i64 x.ticks, .slice a1 l1 c1, .slice a2 l2 c2, .slice a3 l3 c3], .agg #[.int .i64 x.ticks, .slice f1 l1 g1, .slice f2 l2 g2, .slice f3 l3 g3]] w fun e u => e = .returned (.bool true) ∧ w.grownBy u none := by
  have hb1 : l1 ≤ 4194304 := by have := h.1.1.1; unfold szWorld at hs; omega
  have hb2 : szEntrys (x.store) ≤ 2097152 := by unfold szWorld at hs; omega
  have hb3 : szEvents (x.trace) ≤ 2097152 := by unfold szWorld at hs; omega
  have HN : Hid (∀ u, w.grownBy u none → RdWorld u x a1 l1 a2 l2 a3 l3 ∧ RdWorld u x f1 l1 f2 l2 f3 l3) := fun u hu => ⟨h.none hu, h'.none hu⟩
  clear h h'
  obtain ⟨b0, b1, bsz⟩ := alloc2_blocks w (.cells #[.int .i64 x.ticks, .slice a1 l1 c1, .slice a2 l2 c2, .slice a3 l3 c3] 27) (.cells #[.int .i64 x.ticks, .slice f1 l1 g1, .slice f2 l2 g2, .slice f3 l3 g3] 27)
  have g0 := grown_alloc (grown_alloc (World.grownBy.refl w none) (.cells #[.int .i64 x.ticks, .slice a1 l1 c1, .slice a2 l2 c2, .slice a3 l3 c3] 27)) (.cells #[.int .i64 x.ticks, .slice f1 l1 g1, .slice f2 l2 g2, .slice f3 l3 g3] 27)
  have L0 : Hid (w.grownBy _ none ∧ _ = some (Obj.cells #[.int .i64 x.ticks, .slice a1 l1 c1, .slice a2 l2 c2, .slice a3 l3 c3] 27) ∧ _ = some (Obj.cells #[.int .i64 x.ticks, .slice f1 l1 g1, .slice f2 l2 g2, .slice f3 l3 g3] 27)) := ⟨g0, b0, b1⟩
  have C0 : Hid _ := eqIn a1 f1 l1 c1 g1 (x.draws) _ ((HN.out _ g0).1.1) ((HN.out _ g0).2.1) (hb1)
  obtain ⟨⟨y0, y1, y2, y3⟩, -⟩ := blkWorld b0
  obtain ⟨⟨yy0, yy1, yy2, yy3⟩, -⟩ := blkWorld b1
  clear g0 b0 b1 bsz
  go_enter Try.func15, Try.ntmps15
  go_wp2_with fail
  refine Calls.mono C0.out ?_
  rintro e u0 ⟨he, hg⟩
  subst he
  have L1 : Hid (w.grownBy u0 none ∧ u0.heap[w.heap.size]? = some (Obj.cells #[.int .i64 x.ticks, .slice a1 l1 c1, .slice a2 l2 c2, .slice a3 l3 c3] 27) ∧ u0.heap[w.heap.size + 1]? = some (Obj.cells #[.int .i64 x.ticks, .slice f1 l1 g1, .slice f2 l2 g2, .slice f3 l3 g3] 27)) := ⟨grown_trans L0.out.1 hg, (hg.block _ (lt_of_block L0.out.2.1) (by simp)).trans L0.out.2.1, (hg.block _ (lt_of_block L0.out.2.2) (by simp)).trans L0.out.2.2⟩
  clear C0 hg L0 y0 y1 y2 y3 yy0 yy1 yy2 yy3
  simp only []
  have C1 : Hid _ := eqEntrysT (x.store) a2 f2 l2 c2 g2 u0 ((HN.out u0 L1.out.1).1.2.1) ((HN.out u0 L1.out.1).2.2.1) (hb2)
  obtain ⟨⟨y0, y1, y2, y3⟩, -⟩ := blkWorld L1.out.2.1
  obtain ⟨⟨yy0, yy1, yy2, yy3⟩, -⟩ := blkWorld L1.out.2.2
  go_wp2_with fail
  refine Calls.mono C1.out ?_
  rintro e u1 ⟨he, hg⟩
  subst he
  have L2 : Hid (w.grownBy u1 none ∧ u1.heap[w.heap.size]? = some (Obj.cells #[.int .i64 x.ticks, .slice a1 l1 c1, .slice a2 l2 c2, .slice a3 l3 c3] 27) ∧ u1.heap[w.heap.size + 1]? = some (Obj.cells #[.int .i64 x.ticks, .slice f1 l1 g1, .slice f2 l2 g2, .slice f3 l3 g3] 27)) := ⟨grown_trans L1.out.1 hg, (hg.block _ (lt_of_block L1.out.2.1) (by simp)).trans L1.out.2.1, (hg.block _ (lt_of_block L1.out.2.2) (by simp)).trans L1.out.2.2⟩
  clear C1 hg L1 y0 y1 y2 y3 yy0 yy1 yy2 yy3
  simp only []
  have C2 : Hid _ := eqEventsT (x.trace) a3 f3 l3 c3 g3 u1 ((HN.out u1 L2.out.1).1.2.2) ((HN.out u1 L2.out.1).2.2.2) (hb3)
  obtain ⟨⟨y0, y1, y2, y3⟩, -⟩ := blkWorld L2.out.2.1
  obtain ⟨⟨yy0, yy1, yy2, yy3⟩, -⟩ := blkWorld L2.out.2.2
  go_wp2_with fail
  refine Calls.mono C2.out ?_
  rintro e u2 ⟨he, hg⟩
  subst he
  have L3 : Hid (w.grownBy u2 none ∧ u2.heap[w.heap.size]? = some (Obj.cells #[.int .i64 x.ticks, .slice a1 l1 c1, .slice a2 l2 c2, .slice a3 l3 c3] 27) ∧ u2.heap[w.heap.size + 1]? = some (Obj.cells #[.int .i64 x.ticks, .slice f1 l1 g1, .slice f2 l2 g2, .slice f3 l3 g3] 27)) := ⟨grown_trans L2.out.1 hg, (hg.block _ (lt_of_block L2.out.2.1) (by simp)).trans L2.out.2.1, (hg.block _ (lt_of_block L2.out.2.2) (by simp)).trans L2.out.2.2⟩
  clear C2 hg L2 y0 y1 y2 y3 yy0 yy1 yy2 yy3
  simp only []
  go_wp2
  go_ret
  exact ⟨rfl, L3.out.1⟩

set_option maxRecDepth 8000 in
set_option maxHeartbeats 8000000 in
theorem toWorldT (x : RWorld) (a1 : Option Addr) (l1 c1 : Nat) (a2 : Option Addr) (l2 c2 : Nat) (a3 : Option Addr) (l3 c3 : Nat) (w : World) (h : RdWorld w x a1 l1 a2 l2 a3 l3) (hs : szWorld x ≤ 1048576) :
    Calls Try.prog 13 #[.agg #[.int .i64 x.ticks, .slice a1 l1 c1, .slice a2 l2 c2, .slice a3 l3 c3]] w fun e u => ∃ t1 w1 t2 w2 t3 w3, e = .returned (.agg #[.int .i64 x.ticks, .slice t1 l1 w1, .slice t2 l2 w2, .slice t3 l3 w3]) ∧ w.grownBy u none ∧ RdWorld (hideZ u w.heap.size) x t1 l1 t2 l2 t3 l3 := by
  have HS : Hid (szWorld x ≤ 1048576) := hs
  have HY : Hid (RdWorld w x a1 l1 a2 l2 a3 l3) := h
  have HN : Hid (∀ u, w.grownBy u none → RdWorld u x a1 l1 a2 l2 a3 l3) := fun u hu => h.none hu
  clear h hs
  obtain ⟨b0, b1, b2, bsz⟩ := alloc3_blocks w (.cells #[.int .i64 x.ticks, .slice a1 l1 c1, .slice a2 l2 c2, .slice a3 l3 c3] 41) (.cells #[.int .i64 0, .slice none 0 0, .slice none 0 0, .slice none 0 0] 27) (.cells #[.int .i64 x.ticks, .slice none 0 0, .slice none 0 0, .slice none 0 0] 27)
  have g0 := grown_alloc (grown_alloc (grown_alloc (World.grownBy.refl w none) (.cells #[.int .i64 x.ticks, .slice a1 l1 c1, .slice a2 l2 c2, .slice a3 l3 c3] 41)) (.cells #[.int .i64 0, .slice none 0 0, .slice none 0 0, .slice none 0 0] 27)) (.cells #[.int .i64 x.ticks, .slice none 0 0, .slice none 0 0, .slice none 0 0] 27)
  have L0 : Hid (w.grownBy _ none ∧ _ = some (Obj.cells #[.int .i64 x.ticks, .slice a1 l1 c1, .slice a2 l2 c2, .slice a3 l3 c3] 41) ∧ _ = some (Obj.cells #[.int .i64 0, .slice none 0 0, .slice none 0 0, .slice none 0 0] 27) ∧ _ = some (Obj.cells #[.int .i64 x.ticks, .slice none 0 0, .slice none 0 0, .slice none 0 0] 27) ∧ _ = w.heap.size + 1 + 1 + 1) := ⟨g0, b0, b1, b2, bsz⟩
  have C0 : Hid _ := toI a1 l1 c1 (x.draws) _ ((HN.out _ g0).1).1 (by have := HS.out; have := ((HN.out _ g0).1).1.1; unfold szWorld at *; omega)
  obtain ⟨⟨y0, y1, y2, y3⟩, -⟩ := blkWorld b0
  clear g0 b0 b1 b2 bsz
  go_enter Try.func13, Try.ntmps13
  go_wp2_with fail
  refine Calls.mono C0.out ?_
  rintro e u0 ⟨r1, he, hg, hgl, hrow⟩
  subst he
  obtain ⟨gv, ck0, ck1, ck2, hsz⟩ := L0.out
  have dk0 := (hg.block _ (lt_of_block ck0) (by simp)).trans ck0
  have dk1 := (hg.block _ (lt_of_block ck1) (by simp)).trans ck1
  have dk2 := (hg.block _ (lt_of_block ck2) (by simp)).trans ck2
  have g2 := grown_trans gv hg
  have hlo := Nat.le_of_eq hsz.symm
  have hhs := hg.size
  generalize ee0 : w.heap.size = p0 at *
  generalize ee1 : p0 + 1 = p1 at *
  generalize ee2 : p1 + 1 = p2 at *
  have nw0 := RowI.hizn (t := 3) hrow (HY.out.1).1.1 (by have := HS.out; have := (HY.out.1).1.1; unfold szWorld at *; omega) (lo := p2 + 1) (by omega)
  clear C0 L0 gv ck0 ck1 ck2 hsz hg hgl hrow hlo hhs y0 y1 y2 y3
  have n02 : p0 ≠ p2 := by omega
  have n12 : p1 ≠ p2 := by omega
  have n01 : p0 ≠ p1 := by omega
  have kS0 : u0.grownBy (u0.setCell ⟨p2, 1, none⟩ (.slice (some ⟨r1, 0, none⟩) l1 l1)) (some p2) := grown_trans (World.grownBy.refl _ _) (grown_setCell _ _ _ _)
  have dd0_0 : (u0.setCell ⟨p2, 1, none⟩ (.slice (some ⟨r1, 0, none⟩) l1 l1)).heap[p2]? = some (Obj.cells #[.int .i64 x.ticks, .slice (some ⟨r1, 0, none⟩) l1 l1, .slice none 0 0, .slice none 0 0] 27) := heap_setCell_same _ p2 1 _ _ (.slice (some ⟨r1, 0, none⟩) l1 l1) dk2
  have m2 : (u0.setCell ⟨p2, 1, none⟩ (.slice (some ⟨r1, 0, none⟩) l1 l1)).heap[p2]? = some (Obj.cells #[.int .i64 x.ticks, .slice (some ⟨r1, 0, none⟩) l1 l1, .slice none 0 0, .slice none 0 0] 27) := dd0_0
  have m1 := (kS0.block _ (lt_of_block dk1) (by simp; omega)).trans dk1
  have m0 := (kS0.block _ (lt_of_block dk0) (by simp; omega)).trans dk0
  have gv : w.grownBy (u0.setCell ⟨p2, 1, none⟩ (.slice (some ⟨r1, 0, none⟩) l1 l1)) none := grown_into g2 kS0 (by omega)
  have hcl : CLe (hideZ u0 (p2 + 1)) (hideZ (u0.setCell ⟨p2, 1, none⟩ (.slice (some ⟨r1, 0, none⟩) l1 l1)) (p2 + 1)) := hiz_into kS0 (by omega)
  have L1 : Hid (w.grownBy (u0.setCell ⟨p2, 1, none⟩ (.slice (some ⟨r1, 0, none⟩) l1 l1)) none ∧ (u0.setCell ⟨p2, 1, none⟩ (.slice (some ⟨r1, 0, none⟩) l1 l1)).heap[p0]? = some (Obj.cells #[.int .i64 x.ticks, .slice a1 l1 c1, .slice a2 l2 c2, .slice a3 l3 c3] 41) ∧ (u0.setCell ⟨p2, 1, none⟩ (.slice (some ⟨r1, 0, none⟩) l1 l1)).heap[p1]? = some (Obj.cells #[.int .i64 0, .slice none 0 0, .slice none 0 0, .slice none 0 0] 27) ∧ (u0.setCell ⟨p2, 1, none⟩ (.slice (some ⟨r1, 0, none⟩) l1 l1)).heap[p2]? = some (Obj.cells #[.int .i64 x.ticks, .slice (some ⟨r1, 0, none⟩) l1 l1, .slice none 0 0, .slice none 0 0] 27) ∧ (w.heap.size = p0 ∧ p0 + 1 = p1 ∧ p1 + 1 = p2) ∧ RdI (hideZ (u0.setCell ⟨p2, 1, none⟩ (.slice (some ⟨r1, 0, none⟩) l1 l1)) (p2 + 1)) (some ⟨r1, 0, none⟩) l1 (x.draws)) := ⟨gv, m0, m1, m2, ⟨ee0, ee1, ee2⟩, nw0.le hcl⟩
  have C1 : Hid _ := toEntrysT (x.store) a2 l2 c2 (u0.setCell ⟨p2, 1, none⟩ (.slice (some ⟨r1, 0, none⟩) l1 l1)) ((HN.out (u0.setCell ⟨p2, 1, none⟩ (.slice (some ⟨r1, 0, none⟩) l1 l1)) gv).2.1) (by have := HS.out; unfold szWorld at *; omega)
  obtain ⟨⟨y0, y1, y2, y3⟩, -⟩ := blkWorld dk0
  obtain ⟨⟨zz0, zz1, zz2, zz3⟩, hfz⟩ := blkWorld dk2
  have ff0 := hfz 1
  clear kS0 dd0_0 m2 m1 m0 gv hcl dk0 dk1 dk2 g2 ee0 ee1 ee2 hfz nw0
  simp only []
  go_wp2_with fail
  refine Calls.mono C1.out ?_
  rintro e u1 ⟨r2, s2, he, hg, hN⟩
  subst he
  obtain ⟨gv, ck0, ck1, ck2, ⟨ee0, ee1, ee2⟩, ow0⟩ := L1.out
  have dk0 := (hg.block _ (lt_of_block ck0) (by simp)).trans ck0
  have dk1 := (hg.block _ (lt_of_block ck1) (by simp)).trans ck1
  have dk2 := (hg.block _ (lt_of_block ck2) (by simp)).trans ck2
  have g2 := grown_trans gv hg
  have hlo : p2 + 1 ≤ (u0.setCell ⟨p2, 1, none⟩ (.slice (some ⟨r1, 0, none⟩) l1 l1)).heap.size := lt_of_block ck2
  have hhs := hg.size
  have nw1 := hN.le (hiz_low (lo' := p2 + 1) hlo)
  have nw0 := ow0.le (hiz_grown (lo := p2 + 1) hg)
  clear C1 L1 gv ck0 ck1 ck2 hg hN hlo hhs ow0 y0 y1 y2 y3 zz0 zz1 zz2 zz3 ff0
  have kS1 : u1.grownBy (u1.setCell ⟨p2, 2, none⟩ (.slice r2 l2 s2)) (some p2) := grown_trans (World.grownBy.refl _ _) (grown_setCell _ _ _ _)
  have dd1_0 : (u1.setCell ⟨p2, 2, none⟩ (.slice r2 l2 s2)).heap[p2]? = some (Obj.cells #[.int .i64 x.ticks, .slice (some ⟨r1, 0, none⟩) l1 l1, .slice r2 l2 s2, .slice none 0 0] 27) := heap_setCell_same _ p2 2 _ _ (.slice r2 l2 s2) dk2
  have m2 : (u1.setCell ⟨p2, 2, none⟩ (.slice r2 l2 s2)).heap[p2]? = some (Obj.cells #[.int .i64 x.ticks, .slice (some ⟨r1, 0, none⟩) l1 l1, .slice r2 l2 s2, .slice none 0 0] 27) := dd1_0
  have m1 := (kS1.block _ (lt_of_block dk1) (by simp; omega)).trans dk1
  have m0 := (kS1.block _ (lt_of_block dk0) (by simp; omega)).trans dk0
  have gv : w.grownBy (u1.setCell ⟨p2, 2, none⟩ (.slice r2 l2 s2)) none := grown_into g2 kS1 (by omega)
  have hcl : CLe (hideZ u1 (p2 + 1)) (hideZ (u1.setCell ⟨p2, 2, none⟩ (.slice r2 l2 s2)) (p2 + 1)) := hiz_into kS1 (by omega)
  have L2 : Hid (w.grownBy (u1.setCell ⟨p2, 2, none⟩ (.slice r2 l2 s2)) none ∧ (u1.setCell ⟨p2, 2, none⟩ (.slice r2 l2 s2)).heap[p0]? = some (Obj.cells #[.int .i64 x.ticks, .slice a1 l1 c1, .slice a2 l2 c2, .slice a3 l3 c3] 41) ∧ (u1.setCell ⟨p2, 2, none⟩ (.slice r2 l2 s2)).heap[p1]? = some (Obj.cells #[.int .i64 0, .slice none 0 0, .slice none 0 0, .slice none 0 0] 27) ∧ (u1.setCell ⟨p2, 2, none⟩ (.slice r2 l2 s2)).heap[p2]? = some (Obj.cells #[.int .i64 x.ticks, .slice (some ⟨r1, 0, none⟩) l1 l1, .slice r2 l2 s2, .slice none 0 0] 27) ∧ (w.heap.size = p0 ∧ p0 + 1 = p1 ∧ p1 + 1 = p2) ∧ RdI (hideZ (u1.setCell ⟨p2, 2, none⟩ (.slice r2 l2 s2)) (p2 + 1)) (some ⟨r1, 0, none⟩) l1 (x.draws) ∧ SlEntry (hideZ (u1.setCell ⟨p2, 2, none⟩ (.slice r2 l2 s2)) (p2 + 1)) r2 l2 (x.store)) := ⟨gv, m0, m1, m2, ⟨ee0, ee1, ee2⟩, nw0.le hcl, nw1.le hcl⟩
  have C2 : Hid _ := toEventsT (x.trace) a3 l3 c3 (u1.setCell ⟨p2, 2, none⟩ (.slice r2 l2 s2)) ((HN.out (u1.setCell ⟨p2, 2, none⟩ (.slice r2 l2 s2)) gv).2.2) (by have := HS.out; unfold szWorld at *; omega)
  obtain ⟨⟨y0, y1, y2, y3⟩, -⟩ := blkWorld dk0
  obtain ⟨⟨zz0, zz1, zz2, zz3⟩, hfz⟩ := blkWorld dk2
  have ff0 := hfz 2
  clear kS1 dd1_0 m2 m1 m0 gv hcl dk0 dk1 dk2 g2 ee0 ee1 ee2 hfz nw0 nw1
  simp only []
  go_wp2_with fail
  refine Calls.mono C2.out ?_
  rintro e u2 ⟨r3, s3, he, hg, hN⟩
  subst he
  obtain ⟨gv, ck0, ck1, ck2, ⟨ee0, ee1, ee2⟩, ow0, ow1⟩ := L2.out
  have dk0 := (hg.block _ (lt_of_block ck0) (by simp)).trans ck0
  have dk1 := (hg.block _ (lt_of_block ck1) (by simp)).trans ck1
  have dk2 := (hg.block _ (lt_of_block ck2) (by simp)).trans ck2
  have g2 := grown_trans gv hg
  have hlo : p2 + 1 ≤ (u1.setCell ⟨p2, 2, none⟩ (.slice r2 l2 s2)).heap.size := lt_of_block ck2
  have hhs := hg.size
  have nw2 := hN.le (hiz_low (lo' := p2 + 1) hlo)
  have nw0 := ow0.le (hiz_grown (lo := p2 + 1) hg)
  have nw1 := ow1.le (hiz_grown (lo := p2 + 1) hg)
  clear C2 L2 gv ck0 ck1 ck2 hg hN hlo hhs ow0 ow1 y0 y1 y2 y3 zz0 zz1 zz2 zz3 ff0
  have kS2 : u2.grownBy (u2.setCell ⟨p2, 3, none⟩ (.slice r3 l3 s3)) (some p2) := grown_trans (World.grownBy.refl _ _) (grown_setCell _ _ _ _)
  have dd2_0 : (u2.setCell ⟨p2, 3, none⟩ (.slice r3 l3 s3)).heap[p2]? = some (Obj.cells #[.int .i64 x.ticks, .slice (some ⟨r1, 0, none⟩) l1 l1, .slice r2 l2 s2, .slice r3 l3 s3] 27) := heap_setCell_same _ p2 3 _ _ (.slice r3 l3 s3) dk2
  have m2 : (u2.setCell ⟨p2, 3, none⟩ (.slice r3 l3 s3)).heap[p2]? = some (Obj.cells #[.int .i64 x.ticks, .slice (some ⟨r1, 0, none⟩) l1 l1, .slice r2 l2 s2, .slice r3 l3 s3] 27) := dd2_0
  have m1 := (kS2.block _ (lt_of_block dk1) (by simp; omega)).trans dk1
  have m0 := (kS2.block _ (lt_of_block dk0) (by simp; omega)).trans dk0
  have gv : w.grownBy (u2.setCell ⟨p2, 3, none⟩ (.slice r3 l3 s3)) none := grown_into g2 kS2 (by omega)
  have hcl : CLe (hideZ u2 (p2 + 1)) (hideZ (u2.setCell ⟨p2, 3, none⟩ (.slice r3 l3 s3)) (p2 + 1)) := hiz_into kS2 (by omega)
  have L3 : Hid (w.grownBy (u2.setCell ⟨p2, 3, none⟩ (.slice r3 l3 s3)) none ∧ (u2.setCell ⟨p2, 3, none⟩ (.slice r3 l3 s3)).heap[p0]? = some (Obj.cells #[.int .i64 x.ticks, .slice a1 l1 c1, .slice a2 l2 c2, .slice a3 l3 c3] 41) ∧ (u2.setCell ⟨p2, 3, none⟩ (.slice r3 l3 s3)).heap[p1]? = some (Obj.cells #[.int .i64 0, .slice none 0 0, .slice none 0 0, .slice none 0 0] 27) ∧ (u2.setCell ⟨p2, 3, none⟩ (.slice r3 l3 s3)).heap[p2]? = some (Obj.cells #[.int .i64 x.ticks, .slice (some ⟨r1, 0, none⟩) l1 l1, .slice r2 l2 s2, .slice r3 l3 s3] 27) ∧ (w.heap.size = p0 ∧ p0 + 1 = p1 ∧ p1 + 1 = p2) ∧ RdI (hideZ (u2.setCell ⟨p2, 3, none⟩ (.slice r3 l3 s3)) (p2 + 1)) (some ⟨r1, 0, none⟩) l1 (x.draws) ∧ SlEntry (hideZ (u2.setCell ⟨p2, 3, none⟩ (.slice r3 l3 s3)) (p2 + 1)) r2 l2 (x.store) ∧ SlEvent (hideZ (u2.setCell ⟨p2, 3, none⟩ (.slice r3 l3 s3)) (p2 + 1)) r3 l3 (x.trace)) := ⟨gv, m0, m1, m2, ⟨ee0, ee1, ee2⟩, nw0.le hcl, nw1.le hcl, nw2.le hcl⟩
  obtain ⟨mf, kf⟩ := fillWorld (.int .i64 x.ticks) (.slice (some ⟨r1, 0, none⟩) l1 l1) (.slice r2 l2 s2) (.slice r3 l3 s3) m1
  have GF := grown_into gv kf (by omega)
  have hcf := hiz_into (lo := p2 + 1) kf (by omega)
  have FQ : Hid _ := And.intro mf (And.intro GF (show RdWorld (hideZ _ p0) x (some ⟨r1, 0, none⟩) l1 (r2) l2 (r3) l3 from ⟨((nw0.le hcl).le hcf).le (hiz_low (lo := p2 + 1) (lo' := p0) (by omega)), ((nw1.le hcl).le hcf).le (hiz_low (lo := p2 + 1) (lo' := p0) (by omega)), ((nw2.le hcl).le hcf).le (hiz_low (lo := p2 + 1) (lo' := p0) (by omega))⟩))
  obtain ⟨⟨y0, y1, y2, y3⟩, -⟩ := blkWorld dk0
  obtain ⟨⟨zz0, zz1, zz2, zz3⟩, hfz⟩ := blkWorld dk2
  obtain ⟨⟨x0, x1, x2, x3⟩, hfx⟩ := blkWorld dk1
  have ff0 := hfz 3
  have fx0 := hfx 0
  have fx1 := hfx 1
  have fx2 := hfx 2
  have fx3 := hfx 3
  clear kS2 dd2_0 m2 m1 m0 gv hcl dk0 dk1 dk2 g2 hfz hfx nw0 nw1 nw2 mf kf GF hcf L3
  have p12 : p2 ≠ p1 := by omega
  simp only []
  go_wp2
  (try simp only [Exit.inBlock, Exit.then])
  refine bodyPost_ret (results_cell_row (P := Try.prog) Try.results13 _ _ p1 _ _ _ _ rfl FQ.out.1 Try.underlying27 rfl (by kernel_rfl)) rfl ?_
  refine ⟨some ⟨r1, 0, none⟩, l1, r2, s2, r3, s3, rfl, ?_⟩
  rw [ee0]
  exact FQ.out.2
end Go.Proofs.Ytccnninmkfhejaa.By
