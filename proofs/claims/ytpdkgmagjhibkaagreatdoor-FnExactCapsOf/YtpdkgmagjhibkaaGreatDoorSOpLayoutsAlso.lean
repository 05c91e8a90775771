/-
  Several texts in one (SProg, SOpTy, SOpTyss, SOpLayout, SOpLayouts). No statement is proved here.
-/
import Derived.Test.YtpdkgmagjhibkaaGreatDoorSBaAlso
import Derived.Test.YtpdkgmagjhibkaaGreatDoorEC0Also
import Derived.Deep.DeepCutAuto
import Derived.Test.YtpdkgmagjhibkaaGreatDoorSLayouts
import Derived.Test.YtpdkgmagjhibkaaGreatDoorSBlocks
import Derived.Test.YtpdkgmagjhibkaaGreatDoorEBAlso
import Derived.Test.YtpdkgmagjhibkaaGreatDoorSLayoutAlso
import Derived.Test.YtpdkgmagjhibkaaGreatDoorTEqAlso
namespace Go.Proofs.YtpdkgmagjhibkaaGreatDoor.By
open Go.RowKit
set_option linter.unusedVariables false
set_option linter.unusedSimpArgs false

structure RProg where
  lays : List RLayout
  blks : List RBlock
  caps : List Int
def RdProg (w : World) (x : RProg) (a1 : Option Addr) (l1 : Nat) (a2 : Option Addr) (l2 : Nat) (a3 : Option Addr) (l3 : Nat) : Prop := SlLayout w a1 l1 x.lays ∧ SlBlock w a2 l2 x.blks ∧ RdI w a3 l3 x.caps
theorem RdProg.le {w u : World} {x : RProg} {a1 a2 a3 : Option Addr} {l1 l2 l3 : Nat} (h : RdProg w x a1 l1 a2 l2 a3 l3) (k : CLe w u) : RdProg u x a1 l1 a2 l2 a3 l3 := ⟨h.1.le k, h.2.1.le k, h.2.2.le k⟩
theorem RdProg.none {w u : World} {x : RProg} {a1 a2 a3 : Option Addr} {l1 l2 l3 : Nat} (h : RdProg w x a1 l1 a2 l2 a3 l3) (k : w.grownBy u Option.none) : RdProg u x a1 l1 a2 l2 a3 l3 := h.le (CLe.grown k)
def szProg (x : RProg) : Nat := szLayouts x.lays + szBlocks x.blks + x.caps.length
theorem blkProg {w : World} {g : Nat} {t : TypeId} {v0 v1 v2 : Value} (h : w.heap[g]? = some (.cells #[v0, v1, v2] t (0, 0))) : (w.cell? ⟨g, 0, none⟩ = some v0 ∧ w.cell? ⟨g, 1, none⟩ = some v1 ∧ w.cell? ⟨g, 2, none⟩ = some v2) ∧ ∀ j, w.frozen? ⟨g, j, none⟩ = false := by
  refine ⟨⟨?_, ?_, ?_⟩, fun j => frozen_of_row w g _ _ t h⟩ <;> (rw [cell_of_row w g _ _ t (0, 0) h]; rfl)
theorem fillProg {w : World} {p : Nat} {t : TypeId} {o0 o1 o2 : Value} (v0 v1 v2 : Value) (h : w.heap[p]? = some (.cells #[o0, o1, o2] t (0, 0))) :
    (((w.setCell ⟨p, 0, none⟩ (v0)).setCell ⟨p, 1, none⟩ (v1)).setCell ⟨p, 2, none⟩ (v2)).heap[p]? = some (.cells #[v0, v1, v2] t (0, 0)) ∧ w.grownBy (((w.setCell ⟨p, 0, none⟩ (v0)).setCell ⟨p, 1, none⟩ (v1)).setCell ⟨p, 2, none⟩ (v2)) (some p) := by
  have h0 : (w.setCell ⟨p, 0, none⟩ (v0)).heap[p]? = some (.cells #[v0, o1, o2] t (0, 0)) := heap_setCell_same _ p 0 _ t v0 h
  have h1 : ((w.setCell ⟨p, 0, none⟩ (v0)).setCell ⟨p, 1, none⟩ (v1)).heap[p]? = some (.cells #[v0, v1, o2] t (0, 0)) := heap_setCell_same _ p 1 _ t v1 h0
  have h2 : (((w.setCell ⟨p, 0, none⟩ (v0)).setCell ⟨p, 1, none⟩ (v1)).setCell ⟨p, 2, none⟩ (v2)).heap[p]? = some (.cells #[v0, v1, v2] t (0, 0)) := heap_setCell_same _ p 2 _ t v2 h1
  exact ⟨h2, grown_trans (grown_trans (grown_trans (World.grownBy.refl _ _) (grown_setCell _ _ _ _)) (grown_setCell _ _ _ _)) (grown_setCell _ _ _ _)⟩

set_option maxRecDepth 4000 in
set_option maxHeartbeats 4000000 in
theorem szProgT (x : RProg) (a1 : Option Addr) (l1 c1 : Nat) (a2 : Option Addr) (l2 c2 : Nat) (a3 : Option Addr) (l3 c3 : Nat) (L : Int) (w : World) (h : RdProg w x a1 l1 a2 l2 a3 l3) (h0 : 0 ≤ L) (h1 : L ≤ 1048576) :
    Calls Tryz.prog 6 #[.agg #[.slice a1 l1 c1, .slice a2 l2 c2, .slice a3 l3 c3], .int .i64 L] w fun e u => SzW L (szProg x) e ∧ w.grownBy u none := by
  have g0 := World.grownBy_alloc w (.cells #[.slice a1 l1 c1, .slice a2 l2 c2, .slice a3 l3 c3] 26) none
  have b0 := heap_alloc_new w (.cells #[.slice a1 l1 c1, .slice a2 l2 c2, .slice a3 l3 c3] 26)
  have HN : Hid (∀ u, w.grownBy u none → RdProg u x a1 l1 a2 l2 a3 l3) := fun u hu => h.none hu
  clear h
  have L0 : Hid (w.grownBy _ none ∧ _ = some (Obj.cells #[.slice a1 l1 c1, .slice a2 l2 c2, .slice a3 l3 c3] 26)) := ⟨g0, b0⟩
  have C0 : Hid _ := szLayoutsT (x.lays) a1 l1 c1 L _ ((HN.out _ g0).1) h0 h1
  obtain ⟨⟨y0, y1, y2⟩, -⟩ := blkProg b0
  clear g0 b0
  go_enter Tryz.func6, Tryz.ntmps6
  go_wp2_with fail
  refine Calls.mono C0.out ?_
  rintro e u0 ⟨⟨r0, he, hr⟩, hg⟩
  subst he
  have L1 : Hid (w.grownBy u0 none ∧ u0.heap[w.heap.size]? = some (Obj.cells #[.slice a1 l1 c1, .slice a2 l2 c2, .slice a3 l3 c3] 26)) := ⟨grown_trans L0.out.1 hg, (hg.block _ (lt_of_block L0.out.2) (by simp)).trans L0.out.2⟩
  clear C0 hg L0 y0 y1 y2
  simp only []
  rcases hr with rfl | ⟨hr0, hs0⟩
  · go_wp2
    go_ret
    exact ⟨⟨-1, rfl, .inl rfl⟩, L1.out.1⟩
  have C1 : Hid _ := szBlocksT (x.blks) a2 l2 c2 r0 u0 ((HN.out _ L1.out.1).2.1) hr0 (by omega)
  obtain ⟨⟨y0, y1, y2⟩, -⟩ := blkProg L1.out.2
  go_wp2_with fail
  refine Calls.mono C1.out ?_
  rintro e u1 ⟨⟨r1, he, hr⟩, hg⟩
  subst he
  have L2 : Hid (w.grownBy u1 none ∧ u1.heap[w.heap.size]? = some (Obj.cells #[.slice a1 l1 c1, .slice a2 l2 c2, .slice a3 l3 c3] 26)) := ⟨grown_trans L1.out.1 hg, (hg.block _ (lt_of_block L1.out.2) (by simp)).trans L1.out.2⟩
  clear C1 hg L1 y0 y1 y2
  simp only []
  rcases hr with rfl | ⟨hr1, hs1⟩
  · go_wp2
    go_ret
    exact ⟨⟨-1, rfl, .inl rfl⟩, L2.out.1⟩
  have C2 : Hid _ := szInW a3 l3 c3 (x.caps) r1 u1 ((HN.out _ L2.out.1).2.2) hr1 (by omega)
  obtain ⟨⟨y0, y1, y2⟩, -⟩ := blkProg L2.out.2
  go_wp2_with fail
  refine Calls.mono C2.out ?_
  rintro e u2 ⟨⟨r2, he, hr⟩, hg⟩
  subst he
  have L3 : Hid (w.grownBy u2 none ∧ u2.heap[w.heap.size]? = some (Obj.cells #[.slice a1 l1 c1, .slice a2 l2 c2, .slice a3 l3 c3] 26)) := ⟨grown_trans L2.out.1 hg, (hg.block _ (lt_of_block L2.out.2) (by simp)).trans L2.out.2⟩
  clear C2 hg L2 y0 y1 y2
  simp only []
  rcases hr with rfl | ⟨hr2, hs2⟩
  · go_wp2
    go_ret
    exact ⟨⟨-1, rfl, .inl rfl⟩, L3.out.1⟩
  go_wp2
  go_ret
  exact ⟨⟨r2, rfl, .inr ⟨hr2, by unfold szProg; omega⟩⟩, L3.out.1⟩

set_option maxRecDepth 4000 in
set_option maxHeartbeats 4000000 in
theorem eqProgT (x : RProg) (a1 f1 : Option Addr) (l1 c1 g1 : Nat) (a2 f2 : Option Addr) (l2 c2 g2 : Nat) (a3 f3 : Option Addr) (l3 c3 g3 : Nat) (w : World) (h : RdProg w x a1 l1 a2 l2 a3 l3) (h' : RdProg w x f1 l1 f2 l2 f3 l3) (hs : szProg x ≤ 1048576) :
    Calls Tryz.prog 10 #[.agg #[.slice a1 l1 c1, .slice a2 l2 c2, .slice a3 l3 c3], .agg #[.slice f1 l1 g1, .slice f2 l2 g2, .slice f3 l3 g3]] w fun e u => e = .returned (.bool true) ∧ w.grownBy u none := by
  have hb1 : szLayouts (x.lays) ≤ 1048576 := by unfold szProg at hs; omega
  have hb2 : szBlocks (x.blks) ≤ 1048576 := by unfold szProg at hs; omega
  have hb3 : l3 ≤ 4194304 := by have := h.2.2.1.1; unfold szProg at hs; omega
  have HN : Hid (∀ u, w.grownBy u none → RdProg u x a1 l1 a2 l2 a3 l3 ∧ RdProg u x f1 l1 f2 l2 f3 l3) := fun u hu => ⟨h.none hu, h'.none hu⟩
  clear h h'
  obtain ⟨b0, b1, bsz⟩ := alloc2_blocks w (.cells #[.slice a1 l1 c1, .slice a2 l2 c2, .slice a3 l3 c3] 32) (.cells #[.slice f1 l1 g1, .slice f2 l2 g2, .slice f3 l3 g3] 32)
  have g0 := grown_alloc (grown_alloc (World.grownBy.refl w none) (.cells #[.slice a1 l1 c1, .slice a2 l2 c2, .slice a3 l3 c3] 32)) (.cells #[.slice f1 l1 g1, .slice f2 l2 g2, .slice f3 l3 g3] 32)
  have L0 : Hid (w.grownBy _ none ∧ _ = some (Obj.cells #[.slice a1 l1 c1, .slice a2 l2 c2, .slice a3 l3 c3] 32) ∧ _ = some (Obj.cells #[.slice f1 l1 g1, .slice f2 l2 g2, .slice f3 l3 g3] 32)) := ⟨g0, b0, b1⟩
  have C0 : Hid _ := eqLayoutsT (x.lays) a1 f1 l1 c1 g1 _ ((HN.out _ g0).1.1) ((HN.out _ g0).2.1) (hb1)
  obtain ⟨⟨y0, y1, y2⟩, -⟩ := blkProg b0
  obtain ⟨⟨yy0, yy1, yy2⟩, -⟩ := blkProg b1
  clear g0 b0 b1 bsz
  go_enter Tryz.func10, Tryz.ntmps10
  go_wp2_with fail
  refine Calls.mono C0.out ?_
  rintro e u0 ⟨he, hg⟩
  subst he
  have L1 : Hid (w.grownBy u0 none ∧ u0.heap[w.heap.size]? = some (Obj.cells #[.slice a1 l1 c1, .slice a2 l2 c2, .slice a3 l3 c3] 32) ∧ u0.heap[w.heap.size + 1]? = some (Obj.cells #[.slice f1 l1 g1, .slice f2 l2 g2, .slice f3 l3 g3] 32)) := ⟨grown_trans L0.out.1 hg, (hg.block _ (lt_of_block L0.out.2.1) (by simp)).trans L0.out.2.1, (hg.block _ (lt_of_block L0.out.2.2) (by simp)).trans L0.out.2.2⟩
  clear C0 hg L0 y0 y1 y2 yy0 yy1 yy2
  simp only []
  have C1 : Hid _ := eqBlocksT (x.blks) a2 f2 l2 c2 g2 u0 ((HN.out u0 L1.out.1).1.2.1) ((HN.out u0 L1.out.1).2.2.1) (hb2)
  obtain ⟨⟨y0, y1, y2⟩, -⟩ := blkProg L1.out.2.1
  obtain ⟨⟨yy0, yy1, yy2⟩, -⟩ := blkProg L1.out.2.2
  go_wp2_with fail
  refine Calls.mono C1.out ?_
  rintro e u1 ⟨he, hg⟩
  subst he
  have L2 : Hid (w.grownBy u1 none ∧ u1.heap[w.heap.size]? = some (Obj.cells #[.slice a1 l1 c1, .slice a2 l2 c2, .slice a3 l3 c3] 32) ∧ u1.heap[w.heap.size + 1]? = some (Obj.cells #[.slice f1 l1 g1, .slice f2 l2 g2, .slice f3 l3 g3] 32)) := ⟨grown_trans L1.out.1 hg, (hg.block _ (lt_of_block L1.out.2.1) (by simp)).trans L1.out.2.1, (hg.block _ (lt_of_block L1.out.2.2) (by simp)).trans L1.out.2.2⟩
  clear C1 hg L1 y0 y1 y2 yy0 yy1 yy2
  simp only []
  have C2 : Hid _ := eqIn a3 f3 l3 c3 g3 (x.caps) u1 ((HN.out u1 L2.out.1).1.2.2) ((HN.out u1 L2.out.1).2.2.2) (hb3)
  obtain ⟨⟨y0, y1, y2⟩, -⟩ := blkProg L2.out.2.1
  obtain ⟨⟨yy0, yy1, yy2⟩, -⟩ := blkProg L2.out.2.2
  go_wp2_with fail
  refine Calls.mono C2.out ?_
  rintro e u2 ⟨he, hg⟩
  subst he
  have L3 : Hid (w.grownBy u2 none ∧ u2.heap[w.heap.size]? = some (Obj.cells #[.slice a1 l1 c1, .slice a2 l2 c2, .slice a3 l3 c3] 32) ∧ u2.heap[w.heap.size + 1]? = some (Obj.cells #[.slice f1 l1 g1, .slice f2 l2 g2, .slice f3 l3 g3] 32)) := ⟨grown_trans L2.out.1 hg, (hg.block _ (lt_of_block L2.out.2.1) (by simp)).trans L2.out.2.1, (hg.block _ (lt_of_block L2.out.2.2) (by simp)).trans L2.out.2.2⟩
  clear C2 hg L2 y0 y1 y2 yy0 yy1 yy2
  simp only []
  go_wp2
  go_ret
  exact ⟨rfl, L3.out.1⟩

set_option maxRecDepth 8000 in
set_option maxHeartbeats 8000000 in
theorem toProgT (x : RProg) (a1 : Option Addr) (l1 c1 : Nat) (a2 : Option Addr) (l2 c2 : Nat) (a3 : Option Addr) (l3 c3 : Nat) (w : World) (h : RdProg w x a1 l1 a2 l2 a3 l3) (hs : szProg x ≤ 1048576) :
    Calls Tryz.prog 8 #[.agg #[.slice a1 l1 c1, .slice a2 l2 c2, .slice a3 l3 c3]] w fun e u => ∃ t1 w1 t2 w2 t3 w3, e = .returned (.agg #[.slice t1 l1 w1, .slice t2 l2 w2, .slice t3 l3 w3]) ∧ w.grownBy u none ∧ RdProg (hideZ u w.heap.size) x t1 l1 t2 l2 t3 l3 := by
  have HS : Hid (szProg x ≤ 1048576) := hs
  have HY : Hid (RdProg w x a1 l1 a2 l2 a3 l3) := h
  have HN : Hid (∀ u, w.grownBy u none → RdProg u x a1 l1 a2 l2 a3 l3) := fun u hu => h.none hu
  clear h hs
  obtain ⟨b0, b1, b2, bsz⟩ := alloc3_blocks w (.cells #[.slice a1 l1 c1, .slice a2 l2 c2, .slice a3 l3 c3] 26) (.cells #[.slice none 0 0, .slice none 0 0, .slice none 0 0] 32) (.cells #[.slice none 0 0, .slice none 0 0, .slice none 0 0] 32)
  have g0 := grown_alloc (grown_alloc (grown_alloc (World.grownBy.refl w none) (.cells #[.slice a1 l1 c1, .slice a2 l2 c2, .slice a3 l3 c3] 26)) (.cells #[.slice none 0 0, .slice none 0 0, .slice none 0 0] 32)) (.cells #[.slice none 0 0, .slice none 0 0, .slice none 0 0] 32)
  have L0 : Hid (w.grownBy _ none ∧ _ = some (Obj.cells #[.slice a1 l1 c1, .slice a2 l2 c2, .slice a3 l3 c3] 26) ∧ _ = some (Obj.cells #[.slice none 0 0, .slice none 0 0, .slice none 0 0] 32) ∧ _ = some (Obj.cells #[.slice none 0 0, .slice none 0 0, .slice none 0 0] 32) ∧ _ = w.heap.size + 1 + 1 + 1) := ⟨g0, b0, b1, b2, bsz⟩
  have C0 : Hid _ := toLayoutsT (x.lays) a1 l1 c1 _ ((HN.out _ g0).1) (by have := HS.out; unfold szProg at *; omega)
  obtain ⟨⟨y0, y1, y2⟩, -⟩ := blkProg b0
  clear g0 b0 b1 b2 bsz
  go_enter Tryz.func8, Tryz.ntmps8
  go_wp2_with fail
  refine Calls.mono C0.out ?_
  rintro e u0 ⟨r1, s1, he, hg, hN⟩
  subst he
  obtain ⟨gv, ck0, ck1, ck2, hsz⟩ := L0.out
  have dk0 := (hg.block _ (lt_of_block ck0) (by simp)).trans ck0
  have dk1 := (hg.block _ (lt_of_block ck1) (by simp)).trans ck1
  have dk2 := (hg.block _ (lt_of_block ck2) (by simp)).trans ck2
  have g2 := grown_trans gv hg
  have hlo := Nat.le_of_eq hsz.symm
  have hhs := hg.size
  generalize ee0 : w.heap.size = p0 at *
  generalize ee1 : p0 + 1 = p1 at *
  generalize ee2 : p1 + 1 = p2 at *
  have nw0 := hN.le (hiz_low (lo' := p2 + 1) hlo)
  clear C0 L0 gv ck0 ck1 ck2 hsz hg hN hlo hhs y0 y1 y2
  have n02 : p0 ≠ p2 := by omega
  have n12 : p1 ≠ p2 := by omega
  have n01 : p0 ≠ p1 := by omega
  have kS0 : u0.grownBy (u0.setCell ⟨p2, 0, none⟩ (.slice r1 l1 s1)) (some p2) := grown_trans (World.grownBy.refl _ _) (grown_setCell _ _ _ _)
  have dd0_0 : (u0.setCell ⟨p2, 0, none⟩ (.slice r1 l1 s1)).heap[p2]? = some (Obj.cells #[.slice r1 l1 s1, .slice none 0 0, .slice none 0 0] 32) := heap_setCell_same _ p2 0 _ _ (.slice r1 l1 s1) dk2
  have m2 : (u0.setCell ⟨p2, 0, none⟩ (.slice r1 l1 s1)).heap[p2]? = some (Obj.cells #[.slice r1 l1 s1, .slice none 0 0, .slice none 0 0] 32) := dd0_0
  have m1 := (kS0.block _ (lt_of_block dk1) (by simp; omega)).trans dk1
  have m0 := (kS0.block _ (lt_of_block dk0) (by simp; omega)).trans dk0
  have gv : w.grownBy (u0.setCell ⟨p2, 0, none⟩ (.slice r1 l1 s1)) none := grown_into g2 kS0 (by omega)
  have hcl : CLe (hideZ u0 (p2 + 1)) (hideZ (u0.setCell ⟨p2, 0, none⟩ (.slice r1 l1 s1)) (p2 + 1)) := hiz_into kS0 (by omega)
  have L1 : Hid (w.grownBy (u0.setCell ⟨p2, 0, none⟩ (.slice r1 l1 s1)) none ∧ (u0.setCell ⟨p2, 0, none⟩ (.slice r1 l1 s1)).heap[p0]? = some (Obj.cells #[.slice a1 l1 c1, .slice a2 l2 c2, .slice a3 l3 c3] 26) ∧ (u0.setCell ⟨p2, 0, none⟩ (.slice r1 l1 s1)).heap[p1]? = some (Obj.cells #[.slice none 0 0, .slice none 0 0, .slice none 0 0] 32) ∧ (u0.setCell ⟨p2, 0, none⟩ (.slice r1 l1 s1)).heap[p2]? = some (Obj.cells #[.slice r1 l1 s1, .slice none 0 0, .slice none 0 0] 32) ∧ (w.heap.size = p0 ∧ p0 + 1 = p1 ∧ p1 + 1 = p2) ∧ SlLayout (hideZ (u0.setCell ⟨p2, 0, none⟩ (.slice r1 l1 s1)) (p2 + 1)) r1 l1 (x.lays)) := ⟨gv, m0, m1, m2, ⟨ee0, ee1, ee2⟩, nw0.le hcl⟩
  have C1 : Hid _ := toBlocksT (x.blks) a2 l2 c2 (u0.setCell ⟨p2, 0, none⟩ (.slice r1 l1 s1)) ((HN.out (u0.setCell ⟨p2, 0, none⟩ (.slice r1 l1 s1)) gv).2.1) (by have := HS.out; unfold szProg at *; omega)
  obtain ⟨⟨y0, y1, y2⟩, -⟩ := blkProg dk0
  obtain ⟨⟨zz0, zz1, zz2⟩, hfz⟩ := blkProg dk2
  have ff0 := hfz 0
  clear kS0 dd0_0 m2 m1 m0 gv hcl dk0 dk1 dk2 g2 ee0 ee1 ee2 hfz nw0
  simp only []
  go_wp2_with fail
  refine Calls.mono C1.out ?_
  rintro e u1 ⟨r2, s2, he, hg, hN⟩
  subst he
  obtain ⟨gv, ck0, ck1, ck2, ⟨ee0, ee1, ee2⟩, ow0⟩ := L1.out
  have dk0 := (hg.block _ (lt_of_block ck0) (by simp)).trans ck0
  have dk1 := (hg.block _ (lt_of_block ck1) (by simp)).trans ck1
  have dk2 := (hg.block _ (lt_of_block ck2) (by simp)).trans ck2
  have g2 := grown_trans gv hg
  have hlo : p2 + 1 ≤ (u0.setCell ⟨p2, 0, none⟩ (.slice r1 l1 s1)).heap.size := lt_of_block ck2
  have hhs := hg.size
  have nw1 := hN.le (hiz_low (lo' := p2 + 1) hlo)
  have nw0 := ow0.le (hiz_grown (lo := p2 + 1) hg)
  clear C1 L1 gv ck0 ck1 ck2 hg hN hlo hhs ow0 y0 y1 y2 zz0 zz1 zz2 ff0
  have kS1 : u1.grownBy (u1.setCell ⟨p2, 1, none⟩ (.slice r2 l2 s2)) (some p2) := grown_trans (World.grownBy.refl _ _) (grown_setCell _ _ _ _)
  have dd1_0 : (u1.setCell ⟨p2, 1, none⟩ (.slice r2 l2 s2)).heap[p2]? = some (Obj.cells #[.slice r1 l1 s1, .slice r2 l2 s2, .slice none 0 0] 32) := heap_setCell_same _ p2 1 _ _ (.slice r2 l2 s2) dk2
  have m2 : (u1.setCell ⟨p2, 1, none⟩ (.slice r2 l2 s2)).heap[p2]? = some (Obj.cells #[.slice r1 l1 s1, .slice r2 l2 s2, .slice none 0 0] 32) := dd1_0
  have m1 := (kS1.block _ (lt_of_block dk1) (by simp; omega)).trans dk1
  have m0 := (kS1.block _ (lt_of_block dk0) (by simp; omega)).trans dk0
  have gv : w.grownBy (u1.setCell ⟨p2, 1, none⟩ (.slice r2 l2 s2)) none := grown_into g2 kS1 (by omega)
  have hcl : CLe (hideZ u1 (p2 + 1)) (hideZ (u1.setCell ⟨p2, 1, none⟩ (.slice r2 l2 s2)) (p2 + 1)) := hiz_into kS1 (by omega)
  have L2 : Hid (w.grownBy (u1.setCell ⟨p2, 1, none⟩ (.slice r2 l2 s2)) none ∧ (u1.setCell ⟨p2, 1, none⟩ (.slice r2 l2 s2)).heap[p0]? = some (Obj.cells #[.slice a1 l1 c1, .slice a2 l2 c2, .slice a3 l3 c3] 26) ∧ (u1.setCell ⟨p2, 1, none⟩ (.slice r2 l2 s2)).heap[p1]? = some (Obj.cells #[.slice none 0 0, .slice none 0 0, .slice none 0 0] 32) ∧ (u1.setCell ⟨p2, 1, none⟩ (.slice r2 l2 s2)).heap[p2]? = some (Obj.cells #[.slice r1 l1 s1, .slice r2 l2 s2, .slice none 0 0] 32) ∧ (w.heap.size = p0 ∧ p0 + 1 = p1 ∧ p1 + 1 = p2) ∧ SlLayout (hideZ (u1.setCell ⟨p2, 1, none⟩ (.slice r2 l2 s2)) (p2 + 1)) r1 l1 (x.lays) ∧ SlBlock (hideZ (u1.setCell ⟨p2, 1, none⟩ (.slice r2 l2 s2)) (p2 + 1)) r2 l2 (x.blks)) := ⟨gv, m0, m1, m2, ⟨ee0, ee1, ee2⟩, nw0.le hcl, nw1.le hcl⟩
  have C2 : Hid _ := toI a3 l3 c3 (x.caps) (u1.setCell ⟨p2, 1, none⟩ (.slice r2 l2 s2)) ((HN.out (u1.setCell ⟨p2, 1, none⟩ (.slice r2 l2 s2)) gv).2.2).1 (by have := HS.out; have := ((HN.out (u1.setCell ⟨p2, 1, none⟩ (.slice r2 l2 s2)) gv).2.2).1.1; unfold szProg at *; omega)
  obtain ⟨⟨y0, y1, y2⟩, -⟩ := blkProg dk0
  obtain ⟨⟨zz0, zz1, zz2⟩, hfz⟩ := blkProg dk2
  have ff0 := hfz 1
  clear kS1 dd1_0 m2 m1 m0 gv hcl dk0 dk1 dk2 g2 ee0 ee1 ee2 hfz nw0 nw1
  simp only []
  go_wp2_with fail
  refine Calls.mono C2.out ?_
  rintro e u2 ⟨r3, he, hg, hgl, hrow⟩
  subst he
  obtain ⟨gv, ck0, ck1, ck2, ⟨ee0, ee1, ee2⟩, ow0, ow1⟩ := L2.out
  have dk0 := (hg.block _ (lt_of_block ck0) (by simp)).trans ck0
  have dk1 := (hg.block _ (lt_of_block ck1) (by simp)).trans ck1
  have dk2 := (hg.block _ (lt_of_block ck2) (by simp)).trans ck2
  have g2 := grown_trans gv hg
  have hlo : p2 + 1 ≤ (u1.setCell ⟨p2, 1, none⟩ (.slice r2 l2 s2)).heap.size := lt_of_block ck2
  have hhs := hg.size
  have nw2 := RowI.hizn (t := 3) hrow (HY.out.2.2).1.1 (by have := HS.out; have := (HY.out.2.2).1.1; unfold szProg at *; omega) (lo := p2 + 1) (by omega)
  have nw0 := ow0.le (hiz_grown (lo := p2 + 1) hg)
  have nw1 := ow1.le (hiz_grown (lo := p2 + 1) hg)
  clear C2 L2 gv ck0 ck1 ck2 hg hgl hrow hlo hhs ow0 ow1 y0 y1 y2 zz0 zz1 zz2 ff0
  have kS2 : u2.grownBy (u2.setCell ⟨p2, 2, none⟩ (.slice (some ⟨r3, 0, none⟩) l3 l3)) (some p2) := grown_trans (World.grownBy.refl _ _) (grown_setCell _ _ _ _)
  have dd2_0 : (u2.setCell ⟨p2, 2, none⟩ (.slice (some ⟨r3, 0, none⟩) l3 l3)).heap[p2]? = some (Obj.cells #[.slice r1 l1 s1, .slice r2 l2 s2, .slice (some ⟨r3, 0, none⟩) l3 l3] 32) := heap_setCell_same _ p2 2 _ _ (.slice (some ⟨r3, 0, none⟩) l3 l3) dk2
  have m2 : (u2.setCell ⟨p2, 2, none⟩ (.slice (some ⟨r3, 0, none⟩) l3 l3)).heap[p2]? = some (Obj.cells #[.slice r1 l1 s1, .slice r2 l2 s2, .slice (some ⟨r3, 0, none⟩) l3 l3] 32) := dd2_0
  have m1 := (kS2.block _ (lt_of_block dk1) (by simp; omega)).trans dk1
  have m0 := (kS2.block _ (lt_of_block dk0) (by simp; omega)).trans dk0
  have gv : w.grownBy (u2.setCell ⟨p2, 2, none⟩ (.slice (some ⟨r3, 0, none⟩) l3 l3)) none := grown_into g2 kS2 (by omega)
  have hcl : CLe (hideZ u2 (p2 + 1)) (hideZ (u2.setCell ⟨p2, 2, none⟩ (.slice (some ⟨r3, 0, none⟩) l3 l3)) (p2 + 1)) := hiz_into kS2 (by omega)
  have L3 : Hid (w.grownBy (u2.setCell ⟨p2, 2, none⟩ (.slice (some ⟨r3, 0, none⟩) l3 l3)) none ∧ (u2.setCell ⟨p2, 2, none⟩ (.slice (some ⟨r3, 0, none⟩) l3 l3)).heap[p0]? = some (Obj.cells #[.slice a1 l1 c1, .slice a2 l2 c2, .slice a3 l3 c3] 26) ∧ (u2.setCell ⟨p2, 2, none⟩ (.slice (some ⟨r3, 0, none⟩) l3 l3)).heap[p1]? = some (Obj.cells #[.slice none 0 0, .slice none 0 0, .slice none 0 0] 32) ∧ (u2.setCell ⟨p2, 2, none⟩ (.slice (some ⟨r3, 0, none⟩) l3 l3)).heap[p2]? = some (Obj.cells #[.slice r1 l1 s1, .slice r2 l2 s2, .slice (some ⟨r3, 0, none⟩) l3 l3] 32) ∧ (w.heap.size = p0 ∧ p0 + 1 = p1 ∧ p1 + 1 = p2) ∧ SlLayout (hideZ (u2.setCell ⟨p2, 2, none⟩ (.slice (some ⟨r3, 0, none⟩) l3 l3)) (p2 + 1)) r1 l1 (x.lays) ∧ SlBlock (hideZ (u2.setCell ⟨p2, 2, none⟩ (.slice (some ⟨r3, 0, none⟩) l3 l3)) (p2 + 1)) r2 l2 (x.blks) ∧ RdI (hideZ (u2.setCell ⟨p2, 2, none⟩ (.slice (some ⟨r3, 0, none⟩) l3 l3)) (p2 + 1)) (some ⟨r3, 0, none⟩) l3 (x.caps)) := ⟨gv, m0, m1, m2, ⟨ee0, ee1, ee2⟩, nw0.le hcl, nw1.le hcl, nw2.le hcl⟩
  obtain ⟨mf, kf⟩ := fillProg (.slice r1 l1 s1) (.slice r2 l2 s2) (.slice (some ⟨r3, 0, none⟩) l3 l3) m1
  have GF := grown_into gv kf (by omega)
  have hcf := hiz_into (lo := p2 + 1) kf (by omega)
  have FQ : Hid _ := And.intro mf (And.intro GF (show RdProg (hideZ _ p0) x (r1) l1 (r2) l2 (some ⟨r3, 0, none⟩) l3 from ⟨((nw0.le hcl).le hcf).le (hiz_low (lo := p2 + 1) (lo' := p0) (by omega)), ((nw1.le hcl).le hcf).le (hiz_low (lo := p2 + 1) (lo' := p0) (by omega)), ((nw2.le hcl).le hcf).le (hiz_low (lo := p2 + 1) (lo' := p0) (by omega))⟩))
  obtain ⟨⟨y0, y1, y2⟩, -⟩ := blkProg dk0
  obtain ⟨⟨zz0, zz1, zz2⟩, hfz⟩ := blkProg dk2
  obtain ⟨⟨x0, x1, x2⟩, hfx⟩ := blkProg dk1
  have ff0 := hfz 2
  have fx0 := hfx 0
  have fx1 := hfx 1
  have fx2 := hfx 2
  clear kS2 dd2_0 m2 m1 m0 gv hcl dk0 dk1 dk2 g2 hfz hfx nw0 nw1 nw2 mf kf GF hcf L3
  have p12 : p2 ≠ p1 := by omega
  simp only []
  go_wp2
  (try simp only [Exit.inBlock, Exit.then])
  refine bodyPost_ret (results_cell_row (P := Tryz.prog) Tryz.results8 _ _ p1 _ _ _ _ rfl FQ.out.1 Tryz.underlying32 rfl (by kernel_rfl)) rfl ?_
  refine ⟨r1, s1, r2, s2, some ⟨r3, 0, none⟩, l3, rfl, ?_⟩
  rw [ee0]
  exact FQ.out.2
end Go.Proofs.YtpdkgmagjhibkaaGreatDoor.By

namespace Go.Proofs.YtpdkgmagjhibkaaGreatDoor.By
open Go.ChangeShapes Go.WideShapes Go.ChangeAt Go.RowKit Go.Deep
set_option linter.unusedVariables false

section
variable {H : Type} {enc : TypeId × Value → H} {W : World} {base : Nat} {spare : Nat → Bool} {held : Bool}
theorem openTyV (fuel : Nat) (v0 v1 v2 : Value) (x : DataW H × List MemPlace) (h : DataW.trod enc Tryz.prog W base spare held fuel 75 [v0, v1, v2] = some x) : ∃ k n a l c d, v0 = .int .i64 k ∧ v1 = .int .i64 n ∧ v2 = .slice a l c ∧ SlF W a l d := (openTree (enc := enc) (W := W) (base := base) (spare := spare) (held := held) fuel).1 v0 v1 v2 x h
theorem openTyL (fuel : Nat) (v : Value) (x : DataW H × List MemPlace) (h : DataW.trod enc Tryz.prog W base spare held fuel 73 [v] = some x) : ∃ a l c d, v = .slice a l c ∧ SlF W a l d := (openTree (enc := enc) (W := W) (base := base) (spare := spare) (held := held) fuel).2 v x h
end
end Go.Proofs.YtpdkgmagjhibkaaGreatDoor.By

namespace Go.Proofs.YtpdkgmagjhibkaaGreatDoor.By
open Go.ChangeShapes Go.WideShapes Go.ChangeAt Go.RowKit Go.Deep
set_option linter.unusedVariables false
set_option maxRecDepth 100000

theorem inTys_of_each {W : World} {b : Nat} (l : Nat) : ∀ (o : Nat), (∀ i, i < l → ∃ (x : F) (a1 : Option Addr) (l1 c1 : Nat), (W.cell? ⟨b, o + i * 1, none⟩ = some (.slice a1 l1 c1)) ∧ SlF W a1 l1 x) → ∃ xs : List F, xs.length = l ∧ InTys W W xs b o := by
  induction l with
  | zero => intro o _; exact ⟨[], rfl, trivial⟩
  | succ l ih =>
    intro o h
    obtain ⟨x, a1, l1, c1, h0, hp⟩ := h 0 (by omega)
    obtain ⟨xs, hl, hin⟩ := ih (o + 1) (fun i hi => by
      have := h (i + 1) (by omega)
      have e : o + (i + 1) * 1 = o + 1 + i * 1 := by omega
      rw [e] at this; exact this)
    exact ⟨x :: xs, by simp [hl], ⟨a1, l1, c1, by simpa using h0, hp⟩, hin⟩

section
variable {H : Type} {enc : TypeId × Value → H} {W : World} {base : Nat} {spare : Nat → Bool} {held : Bool}

theorem openTysS (fuel : Nat) (v : Value) (x : DataW H × List MemPlace) (h : DataW.trod enc Tryz.prog W base spare held fuel 69 [v] = some x) : ∃ a l c xs, v = .slice a l c ∧ SlTys W a l xs := by
  rcases DataW.trod_slice Tryz.underlying69 h with ⟨hcs, _⟩ | ⟨y, l, c, elems, rest, n', hn', hcs, _, hb, hl, hm, hlen, hel, _, _⟩
  · simp at hcs
    exact ⟨none, 0, 0, [], hcs, rfl, by omega, .inl rfl⟩
  · simp at hcs
    have hm' : c ≤ 9223372036854775807 := by simpa [maxLen] using hm
    have hC : Tryz.prog.cellsOf 73 = 1 := by kernel_rfl
    rw [hC] at hel
    have hel2 : ∀ i, i < l → ∃ (x : F) (a1 : Option Addr) (l1 c1 : Nat), (W.cell? (y.add (i * 1)) = some (.slice a1 l1 c1)) ∧ SlF W a1 l1 x := by
      intro i hi
      have h1 := hel i hi
      rw [List.getElem?_eq_getElem (by omega), Option.bind_eq_some_iff] at h1
      obtain ⟨cs', h1, h2⟩ := h1
      obtain ⟨_, hlen', hcell⟩ := World.cells?_some h1
      match cs', hlen' with
      | [v0], _ =>
        obtain ⟨a1, l1, c1, x, rfl, hd⟩ := openTyL _ v0 _ h2
        have k0 := hcell 0 (by omega)
        exact ⟨x, a1, l1, c1, by simpa [Addr.add] using k0, hd⟩
    by_cases h0 : l = 0
    · subst h0
      exact ⟨some y, 0, c, [], hcs, rfl, by omega, .inl rfl⟩
    have hz : ∃ v, W.cell? y = some v := by
      obtain ⟨x, a1, l1, c1, q0, _⟩ := hel2 0 (by omega)
      exact ⟨_, by simpa [Addr.add] using q0⟩
    obtain ⟨_, hz0⟩ := hz
    have e := plain_at hz0
    obtain ⟨f, hf, hin⟩ := inTys_of_each (W := W) (b := y.block) l y.off (fun i hi => by
      obtain ⟨x, a1, l1, c1, q0, hd⟩ := hel2 i hi
      rw [e, add_plain] at q0
      exact ⟨x, a1, l1, c1, q0, hd⟩)
    exact ⟨some y, l, c, f, hcs, hf, by omega, .inr ⟨y.block, y.off, by rw [← e], hin⟩⟩
end
end Go.Proofs.YtpdkgmagjhibkaaGreatDoor.By

namespace Go.Proofs.YtpdkgmagjhibkaaGreatDoor.By
open Go.ChangeShapes Go.WideShapes Go.ChangeAt Go.RowKit Go.Deep
set_option linter.unusedVariables false
set_option maxRecDepth 100000

theorem arrSLayout {cs : Array Value} (h : cs.size = 1) : ∃ v0, cs = #[v0] := by
  obtain ⟨l⟩ := cs
  match l, h with
  | [v0], _ => exact ⟨v0, rfl⟩

section
variable {H : Type} {enc : TypeId × Value → H} {W : World} {base : Nat} {spare : Nat → Bool} {held : Bool}

theorem openLayoutV (fuel : Nat) (v0 : Value) (y : DataW H × List MemPlace) (h : DataW.trod enc Tryz.prog W base spare held fuel 71 [v0] = some y) :
    ∃ (x : RLayout) (a1 : Option Addr) (l1 c1 : Nat), (v0 = .slice a1 l1 c1) ∧ RdLayout W x a1 l1 := by
  obtain ⟨xs, n, hn, hx, hl, hxl, hf⟩ := DataW.trod_struct Tryz.underlying71 h
  have f0 : DataW.trod enc Tryz.prog W base spare held n 69 ((([v0] : List Value).drop 0).take (Tryz.prog.cellsOf 69)) = xs[0]? := hf 0 _ rfl
  rw [show Tryz.prog.cellsOf 69 = 1 by kernel_rfl] at f0
  match xs, (show xs.length = 1 from hxl) with
  | [x0], _ =>
  obtain ⟨a1, l1, c1, d1, e0, hd1⟩ := openTysS (enc := enc) (W := W) (base := base) (spare := spare) (held := held) n v0 x0 f0
  exact ⟨⟨d1⟩, a1, l1, c1, e0, hd1⟩

theorem openLayoutT {b0 : Nat} {v : Value} {dd : DataW H} {p : List MemPlace} (hv : Value.okWide Tryz.prog W .any b0 71 v) (h : DataW.Trod enc Tryz.prog W base spare held 71 v dd p) :
    ∃ (x : RLayout) (a1 : Option Addr) (l1 c1 : Nat), v = .agg #[.slice a1 l1 c1] ∧ RdLayout W x a1 l1 := by
  have hC : Tryz.prog.cellsOf 71 = 1 := by kernel_rfl
  obtain ⟨cs, rfl, hsz⟩ := okWide_struct Tryz.underlying71 hv
  obtain ⟨v0, rfl⟩ := arrSLayout (hsz.trans hC)
  obtain ⟨fuel, hf⟩ := h
  obtain ⟨x, a1, l1, c1, rfl, hnd⟩ := openLayoutV (enc := enc) (W := W) (base := base) (spare := spare) (held := held) fuel v0 _ (by simpa [Value.cells] using hf)
  exact ⟨x, a1, l1, c1, rfl, hnd⟩
end
end Go.Proofs.YtpdkgmagjhibkaaGreatDoor.By

namespace Go.Proofs.YtpdkgmagjhibkaaGreatDoor.By
open Go.ChangeShapes Go.WideShapes Go.ChangeAt Go.RowKit Go.Deep
set_option linter.unusedVariables false
set_option maxRecDepth 100000

theorem inLayout_of_each {W : World} {b : Nat} (l : Nat) : ∀ (o : Nat), (∀ i, i < l → ∃ (x : RLayout) (a1 : Option Addr) (l1 c1 : Nat), (W.cell? ⟨b, o + i * 1, none⟩ = some (.slice a1 l1 c1)) ∧ RdLayout W x a1 l1) → ∃ xs : List RLayout, xs.length = l ∧ InLayout W W xs b o := by
  induction l with
  | zero => intro o _; exact ⟨[], rfl, trivial⟩
  | succ l ih =>
    intro o h
    obtain ⟨x, a1, l1, c1, h0, hp⟩ := h 0 (by omega)
    obtain ⟨xs, hl, hin⟩ := ih (o + 1) (fun i hi => by
      have := h (i + 1) (by omega)
      have e : o + (i + 1) * 1 = o + 1 + i * 1 := by omega
      rw [e] at this; exact this)
    exact ⟨x :: xs, by simp [hl], ⟨a1, l1, c1, by simpa using h0, hp⟩, hin⟩

section
variable {H : Type} {enc : TypeId × Value → H} {W : World} {base : Nat} {spare : Nat → Bool} {held : Bool}

theorem openLayoutS (fuel : Nat) (v : Value) (x : DataW H × List MemPlace) (h : DataW.trod enc Tryz.prog W base spare held fuel 22 [v] = some x) : ∃ a l c xs, v = .slice a l c ∧ SlLayout W a l xs := by
  rcases DataW.trod_slice Tryz.underlying22 h with ⟨hcs, _⟩ | ⟨y, l, c, elems, rest, n', hn', hcs, _, hb, hl, hm, hlen, hel, _, _⟩
  · simp at hcs
    exact ⟨none, 0, 0, [], hcs, rfl, by omega, .inl rfl⟩
  · simp at hcs
    have hm' : c ≤ 9223372036854775807 := by simpa [maxLen] using hm
    have hC : Tryz.prog.cellsOf 71 = 1 := by kernel_rfl
    rw [hC] at hel
    have hel2 : ∀ i, i < l → ∃ (x : RLayout) (a1 : Option Addr) (l1 c1 : Nat), (W.cell? (y.add (i * 1)) = some (.slice a1 l1 c1)) ∧ RdLayout W x a1 l1 := by
      intro i hi
      have h1 := hel i hi
      rw [List.getElem?_eq_getElem (by omega), Option.bind_eq_some_iff] at h1
      obtain ⟨cs', h1, h2⟩ := h1
      obtain ⟨_, hlen', hcell⟩ := World.cells?_some h1
      match cs', hlen' with
      | [v0], _ =>
        obtain ⟨x, a1, l1, c1, rfl, hd⟩ := openLayoutV _ v0 _ h2
        have k0 := hcell 0 (by omega)
        exact ⟨x, a1, l1, c1, by simpa [Addr.add] using k0, hd⟩
    by_cases h0 : l = 0
    · subst h0
      exact ⟨some y, 0, c, [], hcs, rfl, by omega, .inl rfl⟩
    have hz : ∃ v, W.cell? y = some v := by
      obtain ⟨x, a1, l1, c1, q0, _⟩ := hel2 0 (by omega)
      exact ⟨_, by simpa [Addr.add] using q0⟩
    obtain ⟨_, hz0⟩ := hz
    have e := plain_at hz0
    obtain ⟨f, hf, hin⟩ := inLayout_of_each (W := W) (b := y.block) l y.off (fun i hi => by
      obtain ⟨x, a1, l1, c1, q0, hd⟩ := hel2 i hi
      rw [e, add_plain] at q0
      exact ⟨x, a1, l1, c1, q0, hd⟩)
    exact ⟨some y, l, c, f, hcs, hf, by omega, .inr ⟨y.block, y.off, by rw [← e], hin⟩⟩
end
end Go.Proofs.YtpdkgmagjhibkaaGreatDoor.By
