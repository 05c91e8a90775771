/-
  Event: how it lies in memory, how great it is, two that read the same compared, and its copy: the law's own helpers by their contracts. No statement is proved here.
-/
import Derived.Test.YtccnninmkfhejaaSEntryAlso
import Derived.Test.YtccnninmkfhejaaGQAlso
import Derived.Deep.DeepCutAuto
namespace Go.Proofs.Ytccnninmkfhejaa.By
open Go.RowKit
set_option linter.unusedVariables false
set_option linter.unusedSimpArgs false

structure REvent where
  cap : Int
  a : Int
  b : Int
  lit : List Int
  res : Int
def RdEvent (w : World) (x : REvent) (a1 : Option Addr) (l1 : Nat) : Prop := RdB w a1 l1 x.lit
theorem RdEvent.le {w u : World} {x : REvent} {a1 : Option Addr} {l1 : Nat} (h : RdEvent w x a1 l1) (k : CLe w u) : RdEvent u x a1 l1 := (show RdB w a1 l1 x.lit from h).le k
theorem RdEvent.none {w u : World} {x : REvent} {a1 : Option Addr} {l1 : Nat} (h : RdEvent w x a1 l1) (k : w.grownBy u Option.none) : RdEvent u x a1 l1 := h.le (CLe.grown k)
def szEvent (x : REvent) : Nat := x.lit.length
theorem blkEvent {w : World} {g : Nat} {t : TypeId} {v0 v1 v2 v3 v4 : Value} (h : w.heap[g]? = some (.cells #[v0, v1, v2, v3, v4] t (0, 0))) : (w.cell? ⟨g, 0, none⟩ = some v0 ∧ w.cell? ⟨g, 1, none⟩ = some v1 ∧ w.cell? ⟨g, 2, none⟩ = some v2 ∧ w.cell? ⟨g, 3, none⟩ = some v3 ∧ w.cell? ⟨g, 4, none⟩ = some v4) ∧ ∀ j, w.frozen? ⟨g, j, none⟩ = false := by
  refine ⟨⟨?_, ?_, ?_, ?_, ?_⟩, fun j => frozen_of_row w g _ _ t h⟩ <;> (rw [cell_of_row w g _ _ t (0, 0) h]; rfl)
theorem fillEvent {w : World} {p : Nat} {t : TypeId} {o0 o1 o2 o3 o4 : Value} (v0 v1 v2 v3 v4 : Value) (h : w.heap[p]? = some (.cells #[o0, o1, o2, o3, o4] t (0, 0))) :
    (((((w.setCell ⟨p, 0, none⟩ (v0)).setCell ⟨p, 1, none⟩ (v1)).setCell ⟨p, 2, none⟩ (v2)).setCell ⟨p, 3, none⟩ (v3)).setCell ⟨p, 4, none⟩ (v4)).heap[p]? = some (.cells #[v0, v1, v2, v3, v4] t (0, 0)) ∧ w.grownBy (((((w.setCell ⟨p, 0, none⟩ (v0)).setCell ⟨p, 1, none⟩ (v1)).setCell ⟨p, 2, none⟩ (v2)).setCell ⟨p, 3, none⟩ (v3)).setCell ⟨p, 4, none⟩ (v4)) (some p) := by
  have h0 : (w.setCell ⟨p, 0, none⟩ (v0)).heap[p]? = some (.cells #[v0, o1, o2, o3, o4] t (0, 0)) := heap_setCell_same _ p 0 _ t v0 h
  have h1 : ((w.setCell ⟨p, 0, none⟩ (v0)).setCell ⟨p, 1, none⟩ (v1)).heap[p]? = some (.cells #[v0, v1, o2, o3, o4] t (0, 0)) := heap_setCell_same _ p 1 _ t v1 h0
  have h2 : (((w.setCell ⟨p, 0, none⟩ (v0)).setCell ⟨p, 1, none⟩ (v1)).setCell ⟨p, 2, none⟩ (v2)).heap[p]? = some (.cells #[v0, v1, v2, o3, o4] t (0, 0)) := heap_setCell_same _ p 2 _ t v2 h1
  have h3 : ((((w.setCell ⟨p, 0, none⟩ (v0)).setCell ⟨p, 1, none⟩ (v1)).setCell ⟨p, 2, none⟩ (v2)).setCell ⟨p, 3, none⟩ (v3)).heap[p]? = some (.cells #[v0, v1, v2, v3, o4] t (0, 0)) := heap_setCell_same _ p 3 _ t v3 h2
  have h4 : (((((w.setCell ⟨p, 0, none⟩ (v0)).setCell ⟨p, 1, none⟩ (v1)).setCell ⟨p, 2, none⟩ (v2)).setCell ⟨p, 3, none⟩ (v3)).setCell ⟨p, 4, none⟩ (v4)).heap[p]? = some (.cells #[v0, v1, v2, v3, v4] t (0, 0)) := heap_setCell_same _ p 4 _ t v4 h3
  exact ⟨h4, grown_trans (grown_trans (grown_trans (grown_trans (grown_trans (World.grownBy.refl _ _) (grown_setCell _ _ _ _)) (grown_setCell _ _ _ _)) (grown_setCell _ _ _ _)) (grown_setCell _ _ _ _)) (grown_setCell _ _ _ _)⟩

set_option maxRecDepth 4000 in
set_option maxHeartbeats 4000000 in
theorem szEventT (x : REvent) (a1 : Option Addr) (l1 c1 : Nat) (L : Int) (w : World) (h : RdEvent w x a1 l1) (h0 : 0 ≤ L) (h1 : L ≤ 1048576) :
    Calls Try.prog 64 #[.agg #[.int .i64 x.cap, .int .i64 x.a, .int .i64 x.b, .slice a1 l1 c1, .int .i64 x.res], .int .i64 L] w fun e u => SzW L (szEvent x) e ∧ w.grownBy u none := by
  have g0 := World.grownBy_alloc w (.cells #[.int .i64 x.cap, .int .i64 x.a, .int .i64 x.b, .slice a1 l1 c1, .int .i64 x.res] 94) none
  have b0 := heap_alloc_new w (.cells #[.int .i64 x.cap, .int .i64 x.a, .int .i64 x.b, .slice a1 l1 c1, .int .i64 x.res] 94)
  have HN : Hid (∀ u, w.grownBy u none → RdEvent u x a1 l1) := fun u hu => h.none hu
  clear h
  have L0 : Hid (w.grownBy _ none ∧ _ = some (Obj.cells #[.int .i64 x.cap, .int .i64 x.a, .int .i64 x.b, .slice a1 l1 c1, .int .i64 x.res] 94)) := ⟨g0, b0⟩
  have C0 : Hid _ := szByW a1 l1 c1 (x.lit) L _ ((HN.out _ g0)) h0 h1
  obtain ⟨⟨y0, y1, y2, y3, y4⟩, -⟩ := blkEvent b0
  clear g0 b0
  go_enter Try.func64, Try.ntmps64
  go_wp2_with fail
  refine Calls.mono C0.out ?_
  rintro e u0 ⟨⟨r0, he, hr⟩, hg⟩
  subst he
  have L1 : Hid (w.grownBy u0 none ∧ u0.heap[w.heap.size]? = some (Obj.cells #[.int .i64 x.cap, .int .i64 x.a, .int .i64 x.b, .slice a1 l1 c1, .int .i64 x.res] 94)) := ⟨grown_trans L0.out.1 hg, (hg.block _ (lt_of_block L0.out.2) (by simp)).trans L0.out.2⟩
  clear C0 hg L0 y0 y1 y2 y3 y4
  simp only []
  rcases hr with rfl | ⟨hr0, hs0⟩
  · go_wp2
    go_ret
    exact ⟨⟨-1, rfl, .inl rfl⟩, L1.out.1⟩
  go_wp2
  go_ret
  exact ⟨⟨r0, rfl, .inr ⟨hr0, by unfold szEvent; omega⟩⟩, L1.out.1⟩

set_option maxRecDepth 4000 in
set_option maxHeartbeats 4000000 in
theorem eqEventT (x : REvent) (a1 f1 : Option Addr) (l1 c1 g1 : Nat) (w : World) (h : RdEvent w x a1 l1) (h' : RdEvent w x f1 l1) (hs : szEvent x ≤ 2097152) :
    Calls Try.prog 68 #[.agg #[.int .i64 x.cap, .int .i64 x.a, .int .i64 x.b, .slice a1 l1 c1, .int .i64 x.res], .agg #[.int .i64 x.cap, .int .i64 x.a, .int .i64 x.b, .slice f1 l1 g1, .int .i64 x.res]] w fun e u => e = .returned (.bool true) ∧ w.grownBy u none := by
  have hb1 : l1 ≤ 4194304 := by have := h.1.1; unfold szEvent at hs; omega
  have HN : Hid (∀ u, w.grownBy u none → RdEvent u x a1 l1 ∧ RdEvent u x f1 l1) := fun u hu => ⟨h.none hu, h'.none hu⟩
  clear h h'
  obtain ⟨b0, b1, bsz⟩ := alloc2_blocks w (.cells #[.int .i64 x.cap, .int .i64 x.a, .int .i64 x.b, .slice a1 l1 c1, .int .i64 x.res] 36) (.cells #[.int .i64 x.cap, .int .i64 x.a, .int .i64 x.b, .slice f1 l1 g1, .int .i64 x.res] 36)
  have g0 := grown_alloc (grown_alloc (World.grownBy.refl w none) (.cells #[.int .i64 x.cap, .int .i64 x.a, .int .i64 x.b, .slice a1 l1 c1, .int .i64 x.res] 36)) (.cells #[.int .i64 x.cap, .int .i64 x.a, .int .i64 x.b, .slice f1 l1 g1, .int .i64 x.res] 36)
  have L0 : Hid (w.grownBy _ none ∧ _ = some (Obj.cells #[.int .i64 x.cap, .int .i64 x.a, .int .i64 x.b, .slice a1 l1 c1, .int .i64 x.res] 36) ∧ _ = some (Obj.cells #[.int .i64 x.cap, .int .i64 x.a, .int .i64 x.b, .slice f1 l1 g1, .int .i64 x.res] 36)) := ⟨g0, b0, b1⟩
  have C0 : Hid _ := eqBy a1 f1 l1 c1 g1 (x.lit) _ ((HN.out _ g0).1).1 ((HN.out _ g0).2).1 (hb1)
  obtain ⟨⟨y0, y1, y2, y3, y4⟩, -⟩ := blkEvent b0
  obtain ⟨⟨yy0, yy1, yy2, yy3, yy4⟩, -⟩ := blkEvent b1
  clear g0 b0 b1 bsz
  go_enter Try.func68, Try.ntmps68
  go_wp2_with fail
  refine Calls.mono C0.out ?_
  rintro e u0 ⟨he, hg⟩
  subst he
  have L1 : Hid (w.grownBy u0 none ∧ u0.heap[w.heap.size]? = some (Obj.cells #[.int .i64 x.cap, .int .i64 x.a, .int .i64 x.b, .slice a1 l1 c1, .int .i64 x.res] 36) ∧ u0.heap[w.heap.size + 1]? = some (Obj.cells #[.int .i64 x.cap, .int .i64 x.a, .int .i64 x.b, .slice f1 l1 g1, .int .i64 x.res] 36)) := ⟨grown_trans L0.out.1 hg, (hg.block _ (lt_of_block L0.out.2.1) (by simp)).trans L0.out.2.1, (hg.block _ (lt_of_block L0.out.2.2) (by simp)).trans L0.out.2.2⟩
  clear C0 hg L0 y0 y1 y2 y3 y4 yy0 yy1 yy2 yy3 yy4
  simp only []
  obtain ⟨⟨y0, y1, y2, y3, y4⟩, -⟩ := blkEvent L1.out.2.1
  obtain ⟨⟨yy0, yy1, yy2, yy3, yy4⟩, -⟩ := blkEvent L1.out.2.2
  go_wp2
  go_ret
  exact ⟨rfl, L1.out.1⟩

set_option maxRecDepth 8000 in
set_option maxHeartbeats 8000000 in
theorem toEventT (x : REvent) (a1 : Option Addr) (l1 c1 : Nat) (w : World) (h : RdEvent w x a1 l1) (hs : szEvent x ≤ 1048576) :
    Calls Try.prog 66 #[.agg #[.int .i64 x.cap, .int .i64 x.a, .int .i64 x.b, .slice a1 l1 c1, .int .i64 x.res]] w fun e u => ∃ t1 w1, e = .returned (.agg #[.int .i64 x.cap, .int .i64 x.a, .int .i64 x.b, .slice t1 l1 w1, .int .i64 x.res]) ∧ w.grownBy u none ∧ RdEvent (hideZ u w.heap.size) x t1 l1 := by
  have HS : Hid (szEvent x ≤ 1048576) := hs
  have HY : Hid (RdEvent w x a1 l1) := h
  have HN : Hid (∀ u, w.grownBy u none → RdEvent u x a1 l1) := fun u hu => h.none hu
  clear h hs
  obtain ⟨b0, b1, b2, bsz⟩ := alloc3_blocks w (.cells #[.int .i64 x.cap, .int .i64 x.a, .int .i64 x.b, .slice a1 l1 c1, .int .i64 x.res] 94) (.cells #[.int .i64 0, .int .i64 0, .int .i64 0, .slice none 0 0, .int .i64 0] 36) (.cells #[.int .i64 x.cap, .int .i64 x.a, .int .i64 x.b, .slice none 0 0, .int .i64 0] 36)
  have g0 := grown_alloc (grown_alloc (grown_alloc (World.grownBy.refl w none) (.cells #[.int .i64 x.cap, .int .i64 x.a, .int .i64 x.b, .slice a1 l1 c1, .int .i64 x.res] 94)) (.cells #[.int .i64 0, .int .i64 0, .int .i64 0, .slice none 0 0, .int .i64 0] 36)) (.cells #[.int .i64 x.cap, .int .i64 x.a, .int .i64 x.b, .slice none 0 0, .int .i64 0] 36)
  have L0 : Hid (w.grownBy _ none ∧ _ = some (Obj.cells #[.int .i64 x.cap, .int .i64 x.a, .int .i64 x.b, .slice a1 l1 c1, .int .i64 x.res] 94) ∧ _ = some (Obj.cells #[.int .i64 0, .int .i64 0, .int .i64 0, .slice none 0 0, .int .i64 0] 36) ∧ _ = some (Obj.cells #[.int .i64 x.cap, .int .i64 x.a, .int .i64 x.b, .slice none 0 0, .int .i64 0] 36) ∧ _ = w.heap.size + 1 + 1 + 1) := ⟨g0, b0, b1, b2, bsz⟩
  have C0 : Hid _ := toB a1 l1 c1 (x.lit) _ ((HN.out _ g0)).1 (by have := HS.out; have := ((HN.out _ g0)).1.1; unfold szEvent at *; omega)
  obtain ⟨⟨y0, y1, y2, y3, y4⟩, -⟩ := blkEvent b0
  clear g0 b0 b1 b2 bsz
  go_enter Try.func66, Try.ntmps66
  go_wp2_with fail
  refine Calls.mono C0.out ?_
  rintro e u0 ⟨r1, he, hg, hgl, hrow⟩
  subst he
  obtain ⟨gv, ck0, ck1, ck2, hsz⟩ := L0.out
  have dk0 := (hg.block _ (lt_of_block ck0) (by simp)).trans ck0
  have dk1 := (hg.block _ (lt_of_block ck1) (by simp)).trans ck1
  have dk2 := (hg.block _ (lt_of_block ck2) (by simp)).trans ck2
  have g2 := grown_trans gv hg
  have hlo := Nat.le_of_eq hsz.symm
  have hhs := hg.size
  generalize ee0 : w.heap.size = p0 at *
  generalize ee1 : p0 + 1 = p1 at *
  generalize ee2 : p1 + 1 = p2 at *
  have nw0 := hrow.hiz (HY.out).2.1 (HY.out).1.1 (by have := HS.out; have := (HY.out).1.1; unfold szEvent at *; omega) (lo := p2 + 1) (by omega)
  clear C0 L0 gv ck0 ck1 ck2 hsz hg hgl hrow hlo hhs y0 y1 y2 y3 y4
  have n02 : p0 ≠ p2 := by omega
  have n12 : p1 ≠ p2 := by omega
  have n01 : p0 ≠ p1 := by omega
  have kS0 : u0.grownBy ((u0.setCell ⟨p2, 3, none⟩ (.slice (some ⟨r1, 0, none⟩) l1 l1)).setCell ⟨p2, 4, none⟩ (.int .i64 x.res)) (some p2) := grown_trans (grown_trans (World.grownBy.refl _ _) (grown_setCell _ _ _ _)) (grown_setCell _ _ _ _)
  have dd0_0 : (u0.setCell ⟨p2, 3, none⟩ (.slice (some ⟨r1, 0, none⟩) l1 l1)).heap[p2]? = some (Obj.cells #[.int .i64 x.cap, .int .i64 x.a, .int .i64 x.b, .slice (some ⟨r1, 0, none⟩) l1 l1, .int .i64 0] 36) := heap_setCell_same _ p2 3 _ _ (.slice (some ⟨r1, 0, none⟩) l1 l1) dk2
  have dd0_1 : ((u0.setCell ⟨p2, 3, none⟩ (.slice (some ⟨r1, 0, none⟩) l1 l1)).setCell ⟨p2, 4, none⟩ (.int .i64 x.res)).heap[p2]? = some (Obj.cells #[.int .i64 x.cap, .int .i64 x.a, .int .i64 x.b, .slice (some ⟨r1, 0, none⟩) l1 l1, .int .i64 x.res] 36) := heap_setCell_same _ p2 4 _ _ (.int .i64 x.res) dd0_0
  have m2 : ((u0.setCell ⟨p2, 3, none⟩ (.slice (some ⟨r1, 0, none⟩) l1 l1)).setCell ⟨p2, 4, none⟩ (.int .i64 x.res)).heap[p2]? = some (Obj.cells #[.int .i64 x.cap, .int .i64 x.a, .int .i64 x.b, .slice (some ⟨r1, 0, none⟩) l1 l1, .int .i64 x.res] 36) := dd0_1
  have m1 := (kS0.block _ (lt_of_block dk1) (by simp; omega)).trans dk1
  have m0 := (kS0.block _ (lt_of_block dk0) (by simp; omega)).trans dk0
  have gv : w.grownBy ((u0.setCell ⟨p2, 3, none⟩ (.slice (some ⟨r1, 0, none⟩) l1 l1)).setCell ⟨p2, 4, none⟩ (.int .i64 x.res)) none := grown_into g2 kS0 (by omega)
  have hcl : CLe (hideZ u0 (p2 + 1)) (hideZ ((u0.setCell ⟨p2, 3, none⟩ (.slice (some ⟨r1, 0, none⟩) l1 l1)).setCell ⟨p2, 4, none⟩ (.int .i64 x.res)) (p2 + 1)) := hiz_into kS0 (by omega)
  have L1 : Hid (w.grownBy ((u0.setCell ⟨p2, 3, none⟩ (.slice (some ⟨r1, 0, none⟩) l1 l1)).setCell ⟨p2, 4, none⟩ (.int .i64 x.res)) none ∧ ((u0.setCell ⟨p2, 3, none⟩ (.slice (some ⟨r1, 0, none⟩) l1 l1)).setCell ⟨p2, 4, none⟩ (.int .i64 x.res)).heap[p0]? = some (Obj.cells #[.int .i64 x.cap, .int .i64 x.a, .int .i64 x.b, .slice a1 l1 c1, .int .i64 x.res] 94) ∧ ((u0.setCell ⟨p2, 3, none⟩ (.slice (some ⟨r1, 0, none⟩) l1 l1)).setCell ⟨p2, 4, none⟩ (.int .i64 x.res)).heap[p1]? = some (Obj.cells #[.int .i64 0, .int .i64 0, .int .i64 0, .slice none 0 0, .int .i64 0] 36) ∧ ((u0.setCell ⟨p2, 3, none⟩ (.slice (some ⟨r1, 0, none⟩) l1 l1)).setCell ⟨p2, 4, none⟩ (.int .i64 x.res)).heap[p2]? = some (Obj.cells #[.int .i64 x.cap, .int .i64 x.a, .int .i64 x.b, .slice (some ⟨r1, 0, none⟩) l1 l1, .int .i64 x.res] 36) ∧ (w.heap.size = p0 ∧ p0 + 1 = p1 ∧ p1 + 1 = p2) ∧ RdB (hideZ ((u0.setCell ⟨p2, 3, none⟩ (.slice (some ⟨r1, 0, none⟩) l1 l1)).setCell ⟨p2, 4, none⟩ (.int .i64 x.res)) (p2 + 1)) (some ⟨r1, 0, none⟩) l1 (x.lit)) := ⟨gv, m0, m1, m2, ⟨ee0, ee1, ee2⟩, nw0.le hcl⟩
  obtain ⟨mf, kf⟩ := fillEvent (.int .i64 x.cap) (.int .i64 x.a) (.int .i64 x.b) (.slice (some ⟨r1, 0, none⟩) l1 l1) (.int .i64 x.res) m1
  have GF := grown_into gv kf (by omega)
  have hcf := hiz_into (lo := p2 + 1) kf (by omega)
  have FQ : Hid _ := And.intro mf (And.intro GF (show RdEvent (hideZ _ p0) x (some ⟨r1, 0, none⟩) l1 from ((nw0.le hcl).le hcf).le (hiz_low (lo := p2 + 1) (lo' := p0) (by omega))))
  obtain ⟨⟨y0, y1, y2, y3, y4⟩, -⟩ := blkEvent dk0
  obtain ⟨⟨zz0, zz1, zz2, zz3, zz4⟩, hfz⟩ := blkEvent dk2
  obtain ⟨⟨x0, x1, x2, x3, x4⟩, hfx⟩ := blkEvent dk1
  have ff0 := hfz 3
  have ff1 := hfz 4
  have fx0 := hfx 0
  have fx1 := hfx 1
  have fx2 := hfx 2
  have fx3 := hfx 3
  have fx4 := hfx 4
  clear kS0 dd0_0 dd0_1 m2 m1 m0 gv hcl dk0 dk1 dk2 g2 hfz hfx nw0 mf kf GF hcf L1
  have p12 : p2 ≠ p1 := by omega
  simp only []
  go_wp2
  (try simp only [Exit.inBlock, Exit.then])
  refine bodyPost_ret (results_cell_row (P := Try.prog) Try.results66 _ _ p1 _ _ _ _ rfl FQ.out.1 Try.underlying36 rfl (by kernel_rfl)) rfl ?_
  refine ⟨some ⟨r1, 0, none⟩, l1, rfl, ?_⟩
  rw [ee0]
  exact FQ.out.2
end Go.Proofs.Ytccnninmkfhejaa.By
