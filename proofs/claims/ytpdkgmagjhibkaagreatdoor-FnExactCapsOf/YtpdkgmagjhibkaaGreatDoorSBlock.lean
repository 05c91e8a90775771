/-
  Block: how it lies in memory, how great it is, two that read the same compared, and its copy: the law's own helpers by their contracts. No statement is proved here.
-/
import Derived.Test.YtpdkgmagjhibkaaGreatDoorSBaAlso
import Derived.Test.YtpdkgmagjhibkaaGreatDoorEC0Also
import Derived.Deep.DeepCutAuto
import Derived.Test.YtpdkgmagjhibkaaGreatDoorSInss
namespace Go.Proofs.YtpdkgmagjhibkaaGreatDoor.By
open Go.RowKit
set_option linter.unusedVariables false
set_option linter.unusedSimpArgs false

structure RBlock where
  env : F
  argk : Int
  argn : Int
  argf : F
  resk : Int
  resn : Int
  resf : F
  locs : F
  code : List RIns
def RdBlock (w : World) (x : RBlock) (a1 : Option Addr) (l1 : Nat) (a2 : Option Addr) (l2 : Nat) (a3 : Option Addr) (l3 : Nat) (a4 : Option Addr) (l4 : Nat) (a5 : Option Addr) (l5 : Nat) : Prop := SlF w a1 l1 x.env ∧ SlF w a2 l2 x.argf ∧ SlF w a3 l3 x.resf ∧ SlF w a4 l4 x.locs ∧ SlIns w a5 l5 x.code
theorem RdBlock.le {w u : World} {x : RBlock} {a1 a2 a3 a4 a5 : Option Addr} {l1 l2 l3 l4 l5 : Nat} (h : RdBlock w x a1 l1 a2 l2 a3 l3 a4 l4 a5 l5) (k : CLe w u) : RdBlock u x a1 l1 a2 l2 a3 l3 a4 l4 a5 l5 := ⟨h.1.le k, h.2.1.le k, h.2.2.1.le k, h.2.2.2.1.le k, h.2.2.2.2.le k⟩
theorem RdBlock.none {w u : World} {x : RBlock} {a1 a2 a3 a4 a5 : Option Addr} {l1 l2 l3 l4 l5 : Nat} (h : RdBlock w x a1 l1 a2 l2 a3 l3 a4 l4 a5 l5) (k : w.grownBy u Option.none) : RdBlock u x a1 l1 a2 l2 a3 l3 a4 l4 a5 l5 := h.le (CLe.grown k)
def szBlock (x : RBlock) : Nat := x.env.size + x.argf.size + x.resf.size + x.locs.size + szInss x.code
theorem blkBlock {w : World} {g : Nat} {t : TypeId} {v0 v1 v2 v3 v4 v5 v6 v7 v8 : Value} (h : w.heap[g]? = some (.cells #[v0, v1, v2, v3, v4, v5, v6, v7, v8] t (0, 0))) : (w.cell? ⟨g, 0, none⟩ = some v0 ∧ w.cell? ⟨g, 1, none⟩ = some v1 ∧ w.cell? ⟨g, 2, none⟩ = some v2 ∧ w.cell? ⟨g, 3, none⟩ = some v3 ∧ w.cell? ⟨g, 4, none⟩ = some v4 ∧ w.cell? ⟨g, 5, none⟩ = some v5 ∧ w.cell? ⟨g, 6, none⟩ = some v6 ∧ w.cell? ⟨g, 7, none⟩ = some v7 ∧ w.cell? ⟨g, 8, none⟩ = some v8) ∧ ∀ j, w.frozen? ⟨g, j, none⟩ = false := by
  refine ⟨⟨?_, ?_, ?_, ?_, ?_, ?_, ?_, ?_, ?_⟩, fun j => frozen_of_row w g _ _ t h⟩ <;> (rw [cell_of_row w g _ _ t (0, 0) h]; rfl)
theorem fillBlock {w : World} {p : Nat} {t : TypeId} {o0 o1 o2 o3 o4 o5 o6 o7 o8 : Value} (v0 v1 v2 v3 v4 v5 v6 v7 v8 : Value) (h : w.heap[p]? = some (.cells #[o0, o1, o2, o3, o4, o5, o6, o7, o8] t (0, 0))) :
    (((((((((w.setCell ⟨p, 0, none⟩ (v0)).setCell ⟨p, 1, none⟩ (v1)).setCell ⟨p, 2, none⟩ (v2)).setCell ⟨p, 3, none⟩ (v3)).setCell ⟨p, 4, none⟩ (v4)).setCell ⟨p, 5, none⟩ (v5)).setCell ⟨p, 6, none⟩ (v6)).setCell ⟨p, 7, none⟩ (v7)).setCell ⟨p, 8, none⟩ (v8)).heap[p]? = some (.cells #[v0, v1, v2, v3, v4, v5, v6, v7, v8] t (0, 0)) ∧ w.grownBy (((((((((w.setCell ⟨p, 0, none⟩ (v0)).setCell ⟨p, 1, none⟩ (v1)).setCell ⟨p, 2, none⟩ (v2)).setCell ⟨p, 3, none⟩ (v3)).setCell ⟨p, 4, none⟩ (v4)).setCell ⟨p, 5, none⟩ (v5)).setCell ⟨p, 6, none⟩ (v6)).setCell ⟨p, 7, none⟩ (v7)).setCell ⟨p, 8, none⟩ (v8)) (some p) := by
  have h0 : (w.setCell ⟨p, 0, none⟩ (v0)).heap[p]? = some (.cells #[v0, o1, o2, o3, o4, o5, o6, o7, o8] t (0, 0)) := heap_setCell_same _ p 0 _ t v0 h
  have h1 : ((w.setCell ⟨p, 0, none⟩ (v0)).setCell ⟨p, 1, none⟩ (v1)).heap[p]? = some (.cells #[v0, v1, o2, o3, o4, o5, o6, o7, o8] t (0, 0)) := heap_setCell_same _ p 1 _ t v1 h0
  have h2 : (((w.setCell ⟨p, 0, none⟩ (v0)).setCell ⟨p, 1, none⟩ (v1)).setCell ⟨p, 2, none⟩ (v2)).heap[p]? = some (.cells #[v0, v1, v2, o3, o4, o5, o6, o7, o8] t (0, 0)) := heap_setCell_same _ p 2 _ t v2 h1
  have h3 : ((((w.setCell ⟨p, 0, none⟩ (v0)).setCell ⟨p, 1, none⟩ (v1)).setCell ⟨p, 2, none⟩ (v2)).setCell ⟨p, 3, none⟩ (v3)).heap[p]? = some (.cells #[v0, v1, v2, v3, o4, o5, o6, o7, o8] t (0, 0)) := heap_setCell_same _ p 3 _ t v3 h2
  have h4 : (((((w.setCell ⟨p, 0, none⟩ (v0)).setCell ⟨p, 1, none⟩ (v1)).setCell ⟨p, 2, none⟩ (v2)).setCell ⟨p, 3, none⟩ (v3)).setCell ⟨p, 4, none⟩ (v4)).heap[p]? = some (.cells #[v0, v1, v2, v3, v4, o5, o6, o7, o8] t (0, 0)) := heap_setCell_same _ p 4 _ t v4 h3
  have h5 : ((((((w.setCell ⟨p, 0, none⟩ (v0)).setCell ⟨p, 1, none⟩ (v1)).setCell ⟨p, 2, none⟩ (v2)).setCell ⟨p, 3, none⟩ (v3)).setCell ⟨p, 4, none⟩ (v4)).setCell ⟨p, 5, none⟩ (v5)).heap[p]? = some (.cells #[v0, v1, v2, v3, v4, v5, o6, o7, o8] t (0, 0)) := heap_setCell_same _ p 5 _ t v5 h4
  have h6 : (((((((w.setCell ⟨p, 0, none⟩ (v0)).setCell ⟨p, 1, none⟩ (v1)).setCell ⟨p, 2, none⟩ (v2)).setCell ⟨p, 3, none⟩ (v3)).setCell ⟨p, 4, none⟩ (v4)).setCell ⟨p, 5, none⟩ (v5)).setCell ⟨p, 6, none⟩ (v6)).heap[p]? = some (.cells #[v0, v1, v2, v3, v4, v5, v6, o7, o8] t (0, 0)) := heap_setCell_same _ p 6 _ t v6 h5
  have h7 : ((((((((w.setCell ⟨p, 0, none⟩ (v0)).setCell ⟨p, 1, none⟩ (v1)).setCell ⟨p, 2, none⟩ (v2)).setCell ⟨p, 3, none⟩ (v3)).setCell ⟨p, 4, none⟩ (v4)).setCell ⟨p, 5, none⟩ (v5)).setCell ⟨p, 6, none⟩ (v6)).setCell ⟨p, 7, none⟩ (v7)).heap[p]? = some (.cells #[v0, v1, v2, v3, v4, v5, v6, v7, o8] t (0, 0)) := heap_setCell_same _ p 7 _ t v7 h6
  have h8 : (((((((((w.setCell ⟨p, 0, none⟩ (v0)).setCell ⟨p, 1, none⟩ (v1)).setCell ⟨p, 2, none⟩ (v2)).setCell ⟨p, 3, none⟩ (v3)).setCell ⟨p, 4, none⟩ (v4)).setCell ⟨p, 5, none⟩ (v5)).setCell ⟨p, 6, none⟩ (v6)).setCell ⟨p, 7, none⟩ (v7)).setCell ⟨p, 8, none⟩ (v8)).heap[p]? = some (.cells #[v0, v1, v2, v3, v4, v5, v6, v7, v8] t (0, 0)) := heap_setCell_same _ p 8 _ t v8 h7
  exact ⟨h8, grown_trans (grown_trans (grown_trans (grown_trans (grown_trans (grown_trans (grown_trans (grown_trans (grown_trans (World.grownBy.refl _ _) (grown_setCell _ _ _ _)) (grown_setCell _ _ _ _)) (grown_setCell _ _ _ _)) (grown_setCell _ _ _ _)) (grown_setCell _ _ _ _)) (grown_setCell _ _ _ _)) (grown_setCell _ _ _ _)) (grown_setCell _ _ _ _)) (grown_setCell _ _ _ _)⟩

set_option maxRecDepth 4000 in
set_option maxHeartbeats 4000000 in
theorem szBlockT (x : RBlock) (a1 : Option Addr) (l1 c1 : Nat) (a2 : Option Addr) (l2 c2 : Nat) (a3 : Option Addr) (l3 c3 : Nat) (a4 : Option Addr) (l4 c4 : Nat) (a5 : Option Addr) (l5 c5 : Nat) (L : Int) (w : World) (h : RdBlock w x a1 l1 a2 l2 a3 l3 a4 l4 a5 l5) (h0 : 0 ≤ L) (h1 : L ≤ 1048576) :
    Calls Tryz.prog 40 #[.agg #[.slice a1 l1 c1, .int .i64 x.argk, .int .i64 x.argn, .slice a2 l2 c2, .int .i64 x.resk, .int .i64 x.resn, .slice a3 l3 c3, .slice a4 l4 c4, .slice a5 l5 c5], .int .i64 L] w fun e u => SzW L (szBlock x) e ∧ w.grownBy u none := by
  have g0 := World.grownBy_alloc w (.cells #[.slice a1 l1 c1, .int .i64 x.argk, .int .i64 x.argn, .slice a2 l2 c2, .int .i64 x.resk, .int .i64 x.resn, .slice a3 l3 c3, .slice a4 l4 c4, .slice a5 l5 c5] 78) none
  have b0 := heap_alloc_new w (.cells #[.slice a1 l1 c1, .int .i64 x.argk, .int .i64 x.argn, .slice a2 l2 c2, .int .i64 x.resk, .int .i64 x.resn, .slice a3 l3 c3, .slice a4 l4 c4, .slice a5 l5 c5] 78)
  have HN : Hid (∀ u, w.grownBy u none → RdBlock u x a1 l1 a2 l2 a3 l3 a4 l4 a5 l5) := fun u hu => h.none hu
  clear h
  have L0 : Hid (w.grownBy _ none ∧ _ = some (Obj.cells #[.slice a1 l1 c1, .int .i64 x.argk, .int .i64 x.argn, .slice a2 l2 c2, .int .i64 x.resk, .int .i64 x.resn, .slice a3 l3 c3, .slice a4 l4 c4, .slice a5 l5 c5] 78)) := ⟨g0, b0⟩
  have C0 : Hid _ := szTsW (x.env) a1 l1 c1 L _ ((HN.out _ g0).1) h0 h1
  obtain ⟨⟨y0, y1, y2, y3, y4, y5, y6, y7, y8⟩, -⟩ := blkBlock b0
  clear g0 b0
  go_enter Tryz.func40, Tryz.ntmps40
  go_wp2_with fail
  refine Calls.mono C0.out ?_
  rintro e u0 ⟨⟨r0, he, hr⟩, hg⟩
  subst he
  have L1 : Hid (w.grownBy u0 none ∧ u0.heap[w.heap.size]? = some (Obj.cells #[.slice a1 l1 c1, .int .i64 x.argk, .int .i64 x.argn, .slice a2 l2 c2, .int .i64 x.resk, .int .i64 x.resn, .slice a3 l3 c3, .slice a4 l4 c4, .slice a5 l5 c5] 78)) := ⟨grown_trans L0.out.1 hg, (hg.block _ (lt_of_block L0.out.2) (by simp)).trans L0.out.2⟩
  clear C0 hg L0 y0 y1 y2 y3 y4 y5 y6 y7 y8
  simp only []
  rcases hr with rfl | ⟨hr0, hs0⟩
  · go_wp2
    go_ret
    exact ⟨⟨-1, rfl, .inl rfl⟩, L1.out.1⟩
  have C1 : Hid _ := szTrW (x.argf) x.argk x.argn a2 l2 c2 r0 u0 ((HN.out _ L1.out.1).2.1) hr0 (by omega)
  obtain ⟨⟨y0, y1, y2, y3, y4, y5, y6, y7, y8⟩, -⟩ := blkBlock L1.out.2
  go_wp2_with fail
  refine Calls.mono C1.out ?_
  rintro e u1 ⟨⟨r1, he, hr⟩, hg⟩
  subst he
  have L2 : Hid (w.grownBy u1 none ∧ u1.heap[w.heap.size]? = some (Obj.cells #[.slice a1 l1 c1, .int .i64 x.argk, .int .i64 x.argn, .slice a2 l2 c2, .int .i64 x.resk, .int .i64 x.resn, .slice a3 l3 c3, .slice a4 l4 c4, .slice a5 l5 c5] 78)) := ⟨grown_trans L1.out.1 hg, (hg.block _ (lt_of_block L1.out.2) (by simp)).trans L1.out.2⟩
  clear C1 hg L1 y0 y1 y2 y3 y4 y5 y6 y7 y8
  simp only []
  rcases hr with rfl | ⟨hr1, hs1⟩
  · go_wp2
    go_ret
    exact ⟨⟨-1, rfl, .inl rfl⟩, L2.out.1⟩
  have C2 : Hid _ := szTrW (x.resf) x.resk x.resn a3 l3 c3 r1 u1 ((HN.out _ L2.out.1).2.2.1) hr1 (by omega)
  obtain ⟨⟨y0, y1, y2, y3, y4, y5, y6, y7, y8⟩, -⟩ := blkBlock L2.out.2
  go_wp2_with fail
  refine Calls.mono C2.out ?_
  rintro e u2 ⟨⟨r2, he, hr⟩, hg⟩
  subst he
  have L3 : Hid (w.grownBy u2 none ∧ u2.heap[w.heap.size]? = some (Obj.cells #[.slice a1 l1 c1, .int .i64 x.argk, .int .i64 x.argn, .slice a2 l2 c2, .int .i64 x.resk, .int .i64 x.resn, .slice a3 l3 c3, .slice a4 l4 c4, .slice a5 l5 c5] 78)) := ⟨grown_trans L2.out.1 hg, (hg.block _ (lt_of_block L2.out.2) (by simp)).trans L2.out.2⟩
  clear C2 hg L2 y0 y1 y2 y3 y4 y5 y6 y7 y8
  simp only []
  rcases hr with rfl | ⟨hr2, hs2⟩
  · go_wp2
    go_ret
    exact ⟨⟨-1, rfl, .inl rfl⟩, L3.out.1⟩
  have C3 : Hid _ := szTsW (x.locs) a4 l4 c4 r2 u2 ((HN.out _ L3.out.1).2.2.2.1) hr2 (by omega)
  obtain ⟨⟨y0, y1, y2, y3, y4, y5, y6, y7, y8⟩, -⟩ := blkBlock L3.out.2
  go_wp2_with fail
  refine Calls.mono C3.out ?_
  rintro e u3 ⟨⟨r3, he, hr⟩, hg⟩
  subst he
  have L4 : Hid (w.grownBy u3 none ∧ u3.heap[w.heap.size]? = some (Obj.cells #[.slice a1 l1 c1, .int .i64 x.argk, .int .i64 x.argn, .slice a2 l2 c2, .int .i64 x.resk, .int .i64 x.resn, .slice a3 l3 c3, .slice a4 l4 c4, .slice a5 l5 c5] 78)) := ⟨grown_trans L3.out.1 hg, (hg.block _ (lt_of_block L3.out.2) (by simp)).trans L3.out.2⟩
  clear C3 hg L3 y0 y1 y2 y3 y4 y5 y6 y7 y8
  simp only []
  rcases hr with rfl | ⟨hr3, hs3⟩
  · go_wp2
    go_ret
    exact ⟨⟨-1, rfl, .inl rfl⟩, L4.out.1⟩
  have C4 : Hid _ := szInssT (x.code) a5 l5 c5 r3 u3 ((HN.out _ L4.out.1).2.2.2.2) hr3 (by omega)
  obtain ⟨⟨y0, y1, y2, y3, y4, y5, y6, y7, y8⟩, -⟩ := blkBlock L4.out.2
  go_wp2_with fail
  refine Calls.mono C4.out ?_
  rintro e u4 ⟨⟨r4, he, hr⟩, hg⟩
  subst he
  have L5 : Hid (w.grownBy u4 none ∧ u4.heap[w.heap.size]? = some (Obj.cells #[.slice a1 l1 c1, .int .i64 x.argk, .int .i64 x.argn, .slice a2 l2 c2, .int .i64 x.resk, .int .i64 x.resn, .slice a3 l3 c3, .slice a4 l4 c4, .slice a5 l5 c5] 78)) := ⟨grown_trans L4.out.1 hg, (hg.block _ (lt_of_block L4.out.2) (by simp)).trans L4.out.2⟩
  clear C4 hg L4 y0 y1 y2 y3 y4 y5 y6 y7 y8
  simp only []
  rcases hr with rfl | ⟨hr4, hs4⟩
  · go_wp2
    go_ret
    exact ⟨⟨-1, rfl, .inl rfl⟩, L5.out.1⟩
  go_wp2
  go_ret
  exact ⟨⟨r4, rfl, .inr ⟨hr4, by unfold szBlock; omega⟩⟩, L5.out.1⟩

set_option maxRecDepth 4000 in
set_option maxHeartbeats 4000000 in
theorem eqBlockT (x : RBlock) (a1 f1 : Option Addr) (l1 c1 g1 : Nat) (a2 f2 : Option Addr) (l2 c2 g2 : Nat) (a3 f3 : Option Addr) (l3 c3 g3 : Nat) (a4 f4 : Option Addr) (l4 c4 g4 : Nat) (a5 f5 : Option Addr) (l5 c5 g5 : Nat) (w : World) (h : RdBlock w x a1 l1 a2 l2 a3 l3 a4 l4 a5 l5) (h' : RdBlock w x f1 l1 f2 l2 f3 l3 f4 l4 f5 l5) (hs : szBlock x ≤ 1048576) :
    Calls Tryz.prog 52 #[.agg #[.slice a1 l1 c1, .int .i64 x.argk, .int .i64 x.argn, .slice a2 l2 c2, .int .i64 x.resk, .int .i64 x.resn, .slice a3 l3 c3, .slice a4 l4 c4, .slice a5 l5 c5], .agg #[.slice f1 l1 g1, .int .i64 x.argk, .int .i64 x.argn, .slice f2 l2 g2, .int .i64 x.resk, .int .i64 x.resn, .slice f3 l3 g3, .slice f4 l4 g4, .slice f5 l5 g5]] w fun e u => e = .returned (.bool true) ∧ w.grownBy u none := by
  have hb5 : szInss (x.code) ≤ 1048576 := by unfold szBlock at hs; omega
  have HN : Hid (∀ u, w.grownBy u none → RdBlock u x a1 l1 a2 l2 a3 l3 a4 l4 a5 l5 ∧ RdBlock u x f1 l1 f2 l2 f3 l3 f4 l4 f5 l5) := fun u hu => ⟨h.none hu, h'.none hu⟩
  clear h h'
  obtain ⟨b0, b1, bsz⟩ := alloc2_blocks w (.cells #[.slice a1 l1 c1, .int .i64 x.argk, .int .i64 x.argn, .slice a2 l2 c2, .int .i64 x.resk, .int .i64 x.resn, .slice a3 l3 c3, .slice a4 l4 c4, .slice a5 l5 c5] 63) (.cells #[.slice f1 l1 g1, .int .i64 x.argk, .int .i64 x.argn, .slice f2 l2 g2, .int .i64 x.resk, .int .i64 x.resn, .slice f3 l3 g3, .slice f4 l4 g4, .slice f5 l5 g5] 63)
  have g0 := grown_alloc (grown_alloc (World.grownBy.refl w none) (.cells #[.slice a1 l1 c1, .int .i64 x.argk, .int .i64 x.argn, .slice a2 l2 c2, .int .i64 x.resk, .int .i64 x.resn, .slice a3 l3 c3, .slice a4 l4 c4, .slice a5 l5 c5] 63)) (.cells #[.slice f1 l1 g1, .int .i64 x.argk, .int .i64 x.argn, .slice f2 l2 g2, .int .i64 x.resk, .int .i64 x.resn, .slice f3 l3 g3, .slice f4 l4 g4, .slice f5 l5 g5] 63)
  have L0 : Hid (w.grownBy _ none ∧ _ = some (Obj.cells #[.slice a1 l1 c1, .int .i64 x.argk, .int .i64 x.argn, .slice a2 l2 c2, .int .i64 x.resk, .int .i64 x.resn, .slice a3 l3 c3, .slice a4 l4 c4, .slice a5 l5 c5] 63) ∧ _ = some (Obj.cells #[.slice f1 l1 g1, .int .i64 x.argk, .int .i64 x.argn, .slice f2 l2 g2, .int .i64 x.resk, .int .i64 x.resn, .slice f3 l3 g3, .slice f4 l4 g4, .slice f5 l5 g5] 63)) := ⟨g0, b0, b1⟩
  have C0 : Hid _ := eqS (x.env).size (x.env) a1 f1 l1 c1 g1 _ (Nat.le_refl _) ((HN.out _ g0).1.1) ((HN.out _ g0).2.1)
  obtain ⟨⟨y0, y1, y2, y3, y4, y5, y6, y7, y8⟩, -⟩ := blkBlock b0
  obtain ⟨⟨yy0, yy1, yy2, yy3, yy4, yy5, yy6, yy7, yy8⟩, -⟩ := blkBlock b1
  clear g0 b0 b1 bsz
  go_enter Tryz.func52, Tryz.ntmps52
  go_wp2_with fail
  refine Calls.mono C0.out ?_
  rintro e u0 ⟨he, hg⟩
  subst he
  have L1 : Hid (w.grownBy u0 none ∧ u0.heap[w.heap.size]? = some (Obj.cells #[.slice a1 l1 c1, .int .i64 x.argk, .int .i64 x.argn, .slice a2 l2 c2, .int .i64 x.resk, .int .i64 x.resn, .slice a3 l3 c3, .slice a4 l4 c4, .slice a5 l5 c5] 63) ∧ u0.heap[w.heap.size + 1]? = some (Obj.cells #[.slice f1 l1 g1, .int .i64 x.argk, .int .i64 x.argn, .slice f2 l2 g2, .int .i64 x.resk, .int .i64 x.resn, .slice f3 l3 g3, .slice f4 l4 g4, .slice f5 l5 g5] 63)) := ⟨grown_trans L0.out.1 hg, (hg.block _ (lt_of_block L0.out.2.1) (by simp)).trans L0.out.2.1, (hg.block _ (lt_of_block L0.out.2.2) (by simp)).trans L0.out.2.2⟩
  clear C0 hg L0 y0 y1 y2 y3 y4 y5 y6 y7 y8 yy0 yy1 yy2 yy3 yy4 yy5 yy6 yy7 yy8
  simp only []
  have C1 : Hid _ := eqTr (x.argf) x.argk x.argn a2 f2 l2 c2 g2 u0 ((HN.out u0 L1.out.1).1.2.1) ((HN.out u0 L1.out.1).2.2.1)
  obtain ⟨⟨y0, y1, y2, y3, y4, y5, y6, y7, y8⟩, -⟩ := blkBlock L1.out.2.1
  obtain ⟨⟨yy0, yy1, yy2, yy3, yy4, yy5, yy6, yy7, yy8⟩, -⟩ := blkBlock L1.out.2.2
  go_wp2_with fail
  refine Calls.mono C1.out ?_
  rintro e u1 ⟨he, hg⟩
  subst he
  have L2 : Hid (w.grownBy u1 none ∧ u1.heap[w.heap.size]? = some (Obj.cells #[.slice a1 l1 c1, .int .i64 x.argk, .int .i64 x.argn, .slice a2 l2 c2, .int .i64 x.resk, .int .i64 x.resn, .slice a3 l3 c3, .slice a4 l4 c4, .slice a5 l5 c5] 63) ∧ u1.heap[w.heap.size + 1]? = some (Obj.cells #[.slice f1 l1 g1, .int .i64 x.argk, .int .i64 x.argn, .slice f2 l2 g2, .int .i64 x.resk, .int .i64 x.resn, .slice f3 l3 g3, .slice f4 l4 g4, .slice f5 l5 g5] 63)) := ⟨grown_trans L1.out.1 hg, (hg.block _ (lt_of_block L1.out.2.1) (by simp)).trans L1.out.2.1, (hg.block _ (lt_of_block L1.out.2.2) (by simp)).trans L1.out.2.2⟩
  clear C1 hg L1 y0 y1 y2 y3 y4 y5 y6 y7 y8 yy0 yy1 yy2 yy3 yy4 yy5 yy6 yy7 yy8
  simp only []
  have C2 : Hid _ := eqTr (x.resf) x.resk x.resn a3 f3 l3 c3 g3 u1 ((HN.out u1 L2.out.1).1.2.2.1) ((HN.out u1 L2.out.1).2.2.2.1)
  obtain ⟨⟨y0, y1, y2, y3, y4, y5, y6, y7, y8⟩, -⟩ := blkBlock L2.out.2.1
  obtain ⟨⟨yy0, yy1, yy2, yy3, yy4, yy5, yy6, yy7, yy8⟩, -⟩ := blkBlock L2.out.2.2
  go_wp2_with fail
  refine Calls.mono C2.out ?_
  rintro e u2 ⟨he, hg⟩
  subst he
  have L3 : Hid (w.grownBy u2 none ∧ u2.heap[w.heap.size]? = some (Obj.cells #[.slice a1 l1 c1, .int .i64 x.argk, .int .i64 x.argn, .slice a2 l2 c2, .int .i64 x.resk, .int .i64 x.resn, .slice a3 l3 c3, .slice a4 l4 c4, .slice a5 l5 c5] 63) ∧ u2.heap[w.heap.size + 1]? = some (Obj.cells #[.slice f1 l1 g1, .int .i64 x.argk, .int .i64 x.argn, .slice f2 l2 g2, .int .i64 x.resk, .int .i64 x.resn, .slice f3 l3 g3, .slice f4 l4 g4, .slice f5 l5 g5] 63)) := ⟨grown_trans L2.out.1 hg, (hg.block _ (lt_of_block L2.out.2.1) (by simp)).trans L2.out.2.1, (hg.block _ (lt_of_block L2.out.2.2) (by simp)).trans L2.out.2.2⟩
  clear C2 hg L2 y0 y1 y2 y3 y4 y5 y6 y7 y8 yy0 yy1 yy2 yy3 yy4 yy5 yy6 yy7 yy8
  simp only []
  have C3 : Hid _ := eqS (x.locs).size (x.locs) a4 f4 l4 c4 g4 u2 (Nat.le_refl _) ((HN.out u2 L3.out.1).1.2.2.2.1) ((HN.out u2 L3.out.1).2.2.2.2.1)
  obtain ⟨⟨y0, y1, y2, y3, y4, y5, y6, y7, y8⟩, -⟩ := blkBlock L3.out.2.1
  obtain ⟨⟨yy0, yy1, yy2, yy3, yy4, yy5, yy6, yy7, yy8⟩, -⟩ := blkBlock L3.out.2.2
  go_wp2_with fail
  refine Calls.mono C3.out ?_
  rintro e u3 ⟨he, hg⟩
  subst he
  have L4 : Hid (w.grownBy u3 none ∧ u3.heap[w.heap.size]? = some (Obj.cells #[.slice a1 l1 c1, .int .i64 x.argk, .int .i64 x.argn, .slice a2 l2 c2, .int .i64 x.resk, .int .i64 x.resn, .slice a3 l3 c3, .slice a4 l4 c4, .slice a5 l5 c5] 63) ∧ u3.heap[w.heap.size + 1]? = some (Obj.cells #[.slice f1 l1 g1, .int .i64 x.argk, .int .i64 x.argn, .slice f2 l2 g2, .int .i64 x.resk, .int .i64 x.resn, .slice f3 l3 g3, .slice f4 l4 g4, .slice f5 l5 g5] 63)) := ⟨grown_trans L3.out.1 hg, (hg.block _ (lt_of_block L3.out.2.1) (by simp)).trans L3.out.2.1, (hg.block _ (lt_of_block L3.out.2.2) (by simp)).trans L3.out.2.2⟩
  clear C3 hg L3 y0 y1 y2 y3 y4 y5 y6 y7 y8 yy0 yy1 yy2 yy3 yy4 yy5 yy6 yy7 yy8
  simp only []
  have C4 : Hid _ := eqInssT (x.code) a5 f5 l5 c5 g5 u3 ((HN.out u3 L4.out.1).1.2.2.2.2) ((HN.out u3 L4.out.1).2.2.2.2.2) (hb5)
  obtain ⟨⟨y0, y1, y2, y3, y4, y5, y6, y7, y8⟩, -⟩ := blkBlock L4.out.2.1
  obtain ⟨⟨yy0, yy1, yy2, yy3, yy4, yy5, yy6, yy7, yy8⟩, -⟩ := blkBlock L4.out.2.2
  go_wp2_with fail
  refine Calls.mono C4.out ?_
  rintro e u4 ⟨he, hg⟩
  subst he
  have L5 : Hid (w.grownBy u4 none ∧ u4.heap[w.heap.size]? = some (Obj.cells #[.slice a1 l1 c1, .int .i64 x.argk, .int .i64 x.argn, .slice a2 l2 c2, .int .i64 x.resk, .int .i64 x.resn, .slice a3 l3 c3, .slice a4 l4 c4, .slice a5 l5 c5] 63) ∧ u4.heap[w.heap.size + 1]? = some (Obj.cells #[.slice f1 l1 g1, .int .i64 x.argk, .int .i64 x.argn, .slice f2 l2 g2, .int .i64 x.resk, .int .i64 x.resn, .slice f3 l3 g3, .slice f4 l4 g4, .slice f5 l5 g5] 63)) := ⟨grown_trans L4.out.1 hg, (hg.block _ (lt_of_block L4.out.2.1) (by simp)).trans L4.out.2.1, (hg.block _ (lt_of_block L4.out.2.2) (by simp)).trans L4.out.2.2⟩
  clear C4 hg L4 y0 y1 y2 y3 y4 y5 y6 y7 y8 yy0 yy1 yy2 yy3 yy4 yy5 yy6 yy7 yy8
  simp only []
  go_wp2
  go_ret
  exact ⟨rfl, L5.out.1⟩

set_option maxRecDepth 8000 in
set_option maxHeartbeats 8000000 in
theorem toBlockT (x : RBlock) (a1 : Option Addr) (l1 c1 : Nat) (a2 : Option Addr) (l2 c2 : Nat) (a3 : Option Addr) (l3 c3 : Nat) (a4 : Option Addr) (l4 c4 : Nat) (a5 : Option Addr) (l5 c5 : Nat) (w : World) (h : RdBlock w x a1 l1 a2 l2 a3 l3 a4 l4 a5 l5) (hs : szBlock x ≤ 1048576) :
    Calls Tryz.prog 50 #[.agg #[.slice a1 l1 c1, .int .i64 x.argk, .int .i64 x.argn, .slice a2 l2 c2, .int .i64 x.resk, .int .i64 x.resn, .slice a3 l3 c3, .slice a4 l4 c4, .slice a5 l5 c5]] w fun e u => ∃ t1 w1 t2 w2 t3 w3 t4 w4 t5 w5, e = .returned (.agg #[.slice t1 l1 w1, .int .i64 x.argk, .int .i64 x.argn, .slice t2 l2 w2, .int .i64 x.resk, .int .i64 x.resn, .slice t3 l3 w3, .slice t4 l4 w4, .slice t5 l5 w5]) ∧ w.grownBy u none ∧ RdBlock (hideZ u w.heap.size) x t1 l1 t2 l2 t3 l3 t4 l4 t5 l5 := by
  have HS : Hid (szBlock x ≤ 1048576) := hs
  have HY : Hid (RdBlock w x a1 l1 a2 l2 a3 l3 a4 l4 a5 l5) := h
  have HN : Hid (∀ u, w.grownBy u none → RdBlock u x a1 l1 a2 l2 a3 l3 a4 l4 a5 l5) := fun u hu => h.none hu
  clear h hs
  obtain ⟨b0, b1, b2, bsz⟩ := alloc3_blocks w (.cells #[.slice a1 l1 c1, .int .i64 x.argk, .int .i64 x.argn, .slice a2 l2 c2, .int .i64 x.resk, .int .i64 x.resn, .slice a3 l3 c3, .slice a4 l4 c4, .slice a5 l5 c5] 78) (.cells #[.slice none 0 0, .int .i64 0, .int .i64 0, .slice none 0 0, .int .i64 0, .int .i64 0, .slice none 0 0, .slice none 0 0, .slice none 0 0] 63) (.cells #[.slice none 0 0, .int .i64 0, .int .i64 0, .slice none 0 0, .int .i64 0, .int .i64 0, .slice none 0 0, .slice none 0 0, .slice none 0 0] 63)
  have g0 := grown_alloc (grown_alloc (grown_alloc (World.grownBy.refl w none) (.cells #[.slice a1 l1 c1, .int .i64 x.argk, .int .i64 x.argn, .slice a2 l2 c2, .int .i64 x.resk, .int .i64 x.resn, .slice a3 l3 c3, .slice a4 l4 c4, .slice a5 l5 c5] 78)) (.cells #[.slice none 0 0, .int .i64 0, .int .i64 0, .slice none 0 0, .int .i64 0, .int .i64 0, .slice none 0 0, .slice none 0 0, .slice none 0 0] 63)) (.cells #[.slice none 0 0, .int .i64 0, .int .i64 0, .slice none 0 0, .int .i64 0, .int .i64 0, .slice none 0 0, .slice none 0 0, .slice none 0 0] 63)
  have L0 : Hid (w.grownBy _ none ∧ _ = some (Obj.cells #[.slice a1 l1 c1, .int .i64 x.argk, .int .i64 x.argn, .slice a2 l2 c2, .int .i64 x.resk, .int .i64 x.resn, .slice a3 l3 c3, .slice a4 l4 c4, .slice a5 l5 c5] 78) ∧ _ = some (Obj.cells #[.slice none 0 0, .int .i64 0, .int .i64 0, .slice none 0 0, .int .i64 0, .int .i64 0, .slice none 0 0, .slice none 0 0, .slice none 0 0] 63) ∧ _ = some (Obj.cells #[.slice none 0 0, .int .i64 0, .int .i64 0, .slice none 0 0, .int .i64 0, .int .i64 0, .slice none 0 0, .slice none 0 0, .slice none 0 0] 63) ∧ _ = w.heap.size + 1 + 1 + 1) := ⟨g0, b0, b1, b2, bsz⟩
  have C0 : Hid _ := toTsW (x.env) a1 l1 c1 _ ((HN.out _ g0).1) (by have := HS.out; unfold szBlock at *; omega)
  obtain ⟨⟨y0, y1, y2, y3, y4, y5, y6, y7, y8⟩, -⟩ := blkBlock b0
  clear g0 b0 b1 b2 bsz
  go_enter Tryz.func50, Tryz.ntmps50
  go_wp2_with fail
  refine Calls.mono C0.out ?_
  rintro e u0 ⟨r1, s1, he, hg, hN⟩
  subst he
  obtain ⟨gv, ck0, ck1, ck2, hsz⟩ := L0.out
  have dk0 := (hg.block _ (lt_of_block ck0) (by simp)).trans ck0
  have dk1 := (hg.block _ (lt_of_block ck1) (by simp)).trans ck1
  have dk2 := (hg.block _ (lt_of_block ck2) (by simp)).trans ck2
  have g2 := grown_trans gv hg
  have hlo := Nat.le_of_eq hsz.symm
  have hhs := hg.size
  generalize ee0 : w.heap.size = p0 at *
  generalize ee1 : p0 + 1 = p1 at *
  generalize ee2 : p1 + 1 = p2 at *
  have nw0 := hN.le (hiz_low (lo' := p2 + 1) hlo)
  clear C0 L0 gv ck0 ck1 ck2 hsz hg hN hlo hhs y0 y1 y2 y3 y4 y5 y6 y7 y8
  have n02 : p0 ≠ p2 := by omega
  have n12 : p1 ≠ p2 := by omega
  have n01 : p0 ≠ p1 := by omega
  have kS0 : u0.grownBy (u0.setCell ⟨p2, 0, none⟩ (.slice r1 l1 s1)) (some p2) := grown_trans (World.grownBy.refl _ _) (grown_setCell _ _ _ _)
  have dd0_0 : (u0.setCell ⟨p2, 0, none⟩ (.slice r1 l1 s1)).heap[p2]? = some (Obj.cells #[.slice r1 l1 s1, .int .i64 0, .int .i64 0, .slice none 0 0, .int .i64 0, .int .i64 0, .slice none 0 0, .slice none 0 0, .slice none 0 0] 63) := heap_setCell_same _ p2 0 _ _ (.slice r1 l1 s1) dk2
  have m2 : (u0.setCell ⟨p2, 0, none⟩ (.slice r1 l1 s1)).heap[p2]? = some (Obj.cells #[.slice r1 l1 s1, .int .i64 0, .int .i64 0, .slice none 0 0, .int .i64 0, .int .i64 0, .slice none 0 0, .slice none 0 0, .slice none 0 0] 63) := dd0_0
  have m1 := (kS0.block _ (lt_of_block dk1) (by simp; omega)).trans dk1
  have m0 := (kS0.block _ (lt_of_block dk0) (by simp; omega)).trans dk0
  have gv : w.grownBy (u0.setCell ⟨p2, 0, none⟩ (.slice r1 l1 s1)) none := grown_into g2 kS0 (by omega)
  have hcl : CLe (hideZ u0 (p2 + 1)) (hideZ (u0.setCell ⟨p2, 0, none⟩ (.slice r1 l1 s1)) (p2 + 1)) := hiz_into kS0 (by omega)
  have L1 : Hid (w.grownBy (u0.setCell ⟨p2, 0, none⟩ (.slice r1 l1 s1)) none ∧ (u0.setCell ⟨p2, 0, none⟩ (.slice r1 l1 s1)).heap[p0]? = some (Obj.cells #[.slice a1 l1 c1, .int .i64 x.argk, .int .i64 x.argn, .slice a2 l2 c2, .int .i64 x.resk, .int .i64 x.resn, .slice a3 l3 c3, .slice a4 l4 c4, .slice a5 l5 c5] 78) ∧ (u0.setCell ⟨p2, 0, none⟩ (.slice r1 l1 s1)).heap[p1]? = some (Obj.cells #[.slice none 0 0, .int .i64 0, .int .i64 0, .slice none 0 0, .int .i64 0, .int .i64 0, .slice none 0 0, .slice none 0 0, .slice none 0 0] 63) ∧ (u0.setCell ⟨p2, 0, none⟩ (.slice r1 l1 s1)).heap[p2]? = some (Obj.cells #[.slice r1 l1 s1, .int .i64 0, .int .i64 0, .slice none 0 0, .int .i64 0, .int .i64 0, .slice none 0 0, .slice none 0 0, .slice none 0 0] 63) ∧ (w.heap.size = p0 ∧ p0 + 1 = p1 ∧ p1 + 1 = p2) ∧ SlF (hideZ (u0.setCell ⟨p2, 0, none⟩ (.slice r1 l1 s1)) (p2 + 1)) r1 l1 (x.env)) := ⟨gv, m0, m1, m2, ⟨ee0, ee1, ee2⟩, nw0.le hcl⟩
  have C1 : Hid _ := toTr (x.argf) x.argk x.argn a2 l2 c2 (u0.setCell ⟨p2, 0, none⟩ (.slice r1 l1 s1)) ((HN.out (u0.setCell ⟨p2, 0, none⟩ (.slice r1 l1 s1)) gv).2.1) (by have := HS.out; unfold szBlock at *; omega)
  obtain ⟨⟨y0, y1, y2, y3, y4, y5, y6, y7, y8⟩, -⟩ := blkBlock dk0
  obtain ⟨⟨zz0, zz1, zz2, zz3, zz4, zz5, zz6, zz7, zz8⟩, hfz⟩ := blkBlock dk2
  have ff0 := hfz 0
  clear kS0 dd0_0 m2 m1 m0 gv hcl dk0 dk1 dk2 g2 ee0 ee1 ee2 hfz nw0
  simp only []
  go_wp2_with fail
  refine Calls.mono C1.out ?_
  rintro e u1 ⟨r2, s2, bs2, he, hg, hN⟩
  subst he
  obtain ⟨gv, ck0, ck1, ck2, ⟨ee0, ee1, ee2⟩, ow0⟩ := L1.out
  have dk0 := (hg.block _ (lt_of_block ck0) (by simp)).trans ck0
  have dk1 := (hg.block _ (lt_of_block ck1) (by simp)).trans ck1
  have dk2 := (hg.block _ (lt_of_block ck2) (by simp)).trans ck2
  have g2 := grown_trans gv hg
  have hlo : p2 + 1 ≤ (u0.setCell ⟨p2, 0, none⟩ (.slice r1 l1 s1)).heap.size := lt_of_block ck2
  have hhs := hg.size
  have nw1 := hN.hiz (lo := p2 + 1) hlo
  have nw0 := ow0.le (hiz_grown (lo := p2 + 1) hg)
  clear C1 L1 gv ck0 ck1 ck2 hg hN hlo hhs ow0 y0 y1 y2 y3 y4 y5 y6 y7 y8 zz0 zz1 zz2 zz3 zz4 zz5 zz6 zz7 zz8 ff0
  have kS1 : u1.grownBy (((u1.setCell ⟨p2, 1, none⟩ (.int .i64 x.argk)).setCell ⟨p2, 2, none⟩ (.int .i64 x.argn)).setCell ⟨p2, 3, none⟩ (.slice r2 l2 s2)) (some p2) := grown_trans (grown_trans (grown_trans (World.grownBy.refl _ _) (grown_setCell _ _ _ _)) (grown_setCell _ _ _ _)) (grown_setCell _ _ _ _)
  have dd1_0 : (u1.setCell ⟨p2, 1, none⟩ (.int .i64 x.argk)).heap[p2]? = some (Obj.cells #[.slice r1 l1 s1, .int .i64 x.argk, .int .i64 0, .slice none 0 0, .int .i64 0, .int .i64 0, .slice none 0 0, .slice none 0 0, .slice none 0 0] 63) := heap_setCell_same _ p2 1 _ _ (.int .i64 x.argk) dk2
  have dd1_1 : ((u1.setCell ⟨p2, 1, none⟩ (.int .i64 x.argk)).setCell ⟨p2, 2, none⟩ (.int .i64 x.argn)).heap[p2]? = some (Obj.cells #[.slice r1 l1 s1, .int .i64 x.argk, .int .i64 x.argn, .slice none 0 0, .int .i64 0, .int .i64 0, .slice none 0 0, .slice none 0 0, .slice none 0 0] 63) := heap_setCell_same _ p2 2 _ _ (.int .i64 x.argn) dd1_0
  have dd1_2 : (((u1.setCell ⟨p2, 1, none⟩ (.int .i64 x.argk)).setCell ⟨p2, 2, none⟩ (.int .i64 x.argn)).setCell ⟨p2, 3, none⟩ (.slice r2 l2 s2)).heap[p2]? = some (Obj.cells #[.slice r1 l1 s1, .int .i64 x.argk, .int .i64 x.argn, .slice r2 l2 s2, .int .i64 0, .int .i64 0, .slice none 0 0, .slice none 0 0, .slice none 0 0] 63) := heap_setCell_same _ p2 3 _ _ (.slice r2 l2 s2) dd1_1
  have m2 : (((u1.setCell ⟨p2, 1, none⟩ (.int .i64 x.argk)).setCell ⟨p2, 2, none⟩ (.int .i64 x.argn)).setCell ⟨p2, 3, none⟩ (.slice r2 l2 s2)).heap[p2]? = some (Obj.cells #[.slice r1 l1 s1, .int .i64 x.argk, .int .i64 x.argn, .slice r2 l2 s2, .int .i64 0, .int .i64 0, .slice none 0 0, .slice none 0 0, .slice none 0 0] 63) := dd1_2
  have m1 := (kS1.block _ (lt_of_block dk1) (by simp; omega)).trans dk1
  have m0 := (kS1.block _ (lt_of_block dk0) (by simp; omega)).trans dk0
  have gv : w.grownBy (((u1.setCell ⟨p2, 1, none⟩ (.int .i64 x.argk)).setCell ⟨p2, 2, none⟩ (.int .i64 x.argn)).setCell ⟨p2, 3, none⟩ (.slice r2 l2 s2)) none := grown_into g2 kS1 (by omega)
  have hcl : CLe (hideZ u1 (p2 + 1)) (hideZ (((u1.setCell ⟨p2, 1, none⟩ (.int .i64 x.argk)).setCell ⟨p2, 2, none⟩ (.int .i64 x.argn)).setCell ⟨p2, 3, none⟩ (.slice r2 l2 s2)) (p2 + 1)) := hiz_into kS1 (by omega)
  have L2 : Hid (w.grownBy (((u1.setCell ⟨p2, 1, none⟩ (.int .i64 x.argk)).setCell ⟨p2, 2, none⟩ (.int .i64 x.argn)).setCell ⟨p2, 3, none⟩ (.slice r2 l2 s2)) none ∧ (((u1.setCell ⟨p2, 1, none⟩ (.int .i64 x.argk)).setCell ⟨p2, 2, none⟩ (.int .i64 x.argn)).setCell ⟨p2, 3, none⟩ (.slice r2 l2 s2)).heap[p0]? = some (Obj.cells #[.slice a1 l1 c1, .int .i64 x.argk, .int .i64 x.argn, .slice a2 l2 c2, .int .i64 x.resk, .int .i64 x.resn, .slice a3 l3 c3, .slice a4 l4 c4, .slice a5 l5 c5] 78) ∧ (((u1.setCell ⟨p2, 1, none⟩ (.int .i64 x.argk)).setCell ⟨p2, 2, none⟩ (.int .i64 x.argn)).setCell ⟨p2, 3, none⟩ (.slice r2 l2 s2)).heap[p1]? = some (Obj.cells #[.slice none 0 0, .int .i64 0, .int .i64 0, .slice none 0 0, .int .i64 0, .int .i64 0, .slice none 0 0, .slice none 0 0, .slice none 0 0] 63) ∧ (((u1.setCell ⟨p2, 1, none⟩ (.int .i64 x.argk)).setCell ⟨p2, 2, none⟩ (.int .i64 x.argn)).setCell ⟨p2, 3, none⟩ (.slice r2 l2 s2)).heap[p2]? = some (Obj.cells #[.slice r1 l1 s1, .int .i64 x.argk, .int .i64 x.argn, .slice r2 l2 s2, .int .i64 0, .int .i64 0, .slice none 0 0, .slice none 0 0, .slice none 0 0] 63) ∧ (w.heap.size = p0 ∧ p0 + 1 = p1 ∧ p1 + 1 = p2) ∧ SlF (hideZ (((u1.setCell ⟨p2, 1, none⟩ (.int .i64 x.argk)).setCell ⟨p2, 2, none⟩ (.int .i64 x.argn)).setCell ⟨p2, 3, none⟩ (.slice r2 l2 s2)) (p2 + 1)) r1 l1 (x.env) ∧ SlF (hideZ (((u1.setCell ⟨p2, 1, none⟩ (.int .i64 x.argk)).setCell ⟨p2, 2, none⟩ (.int .i64 x.argn)).setCell ⟨p2, 3, none⟩ (.slice r2 l2 s2)) (p2 + 1)) r2 l2 (x.argf)) := ⟨gv, m0, m1, m2, ⟨ee0, ee1, ee2⟩, nw0.le hcl, nw1.le hcl⟩
  have C2 : Hid _ := toTr (x.resf) x.resk x.resn a3 l3 c3 (((u1.setCell ⟨p2, 1, none⟩ (.int .i64 x.argk)).setCell ⟨p2, 2, none⟩ (.int .i64 x.argn)).setCell ⟨p2, 3, none⟩ (.slice r2 l2 s2)) ((HN.out (((u1.setCell ⟨p2, 1, none⟩ (.int .i64 x.argk)).setCell ⟨p2, 2, none⟩ (.int .i64 x.argn)).setCell ⟨p2, 3, none⟩ (.slice r2 l2 s2)) gv).2.2.1) (by have := HS.out; unfold szBlock at *; omega)
  obtain ⟨⟨y0, y1, y2, y3, y4, y5, y6, y7, y8⟩, -⟩ := blkBlock dk0
  obtain ⟨⟨zz0, zz1, zz2, zz3, zz4, zz5, zz6, zz7, zz8⟩, hfz⟩ := blkBlock dk2
  have ff0 := hfz 1
  have ff1 := hfz 2
  have ff2 := hfz 3
  clear kS1 dd1_0 dd1_1 dd1_2 m2 m1 m0 gv hcl dk0 dk1 dk2 g2 ee0 ee1 ee2 hfz nw0 nw1
  simp only []
  go_wp2_with fail
  refine Calls.mono C2.out ?_
  rintro e u2 ⟨r3, s3, bs3, he, hg, hN⟩
  subst he
  obtain ⟨gv, ck0, ck1, ck2, ⟨ee0, ee1, ee2⟩, ow0, ow1⟩ := L2.out
  have dk0 := (hg.block _ (lt_of_block ck0) (by simp)).trans ck0
  have dk1 := (hg.block _ (lt_of_block ck1) (by simp)).trans ck1
  have dk2 := (hg.block _ (lt_of_block ck2) (by simp)).trans ck2
  have g2 := grown_trans gv hg
  have hlo : p2 + 1 ≤ (((u1.setCell ⟨p2, 1, none⟩ (.int .i64 x.argk)).setCell ⟨p2, 2, none⟩ (.int .i64 x.argn)).setCell ⟨p2, 3, none⟩ (.slice r2 l2 s2)).heap.size := lt_of_block ck2
  have hhs := hg.size
  have nw2 := hN.hiz (lo := p2 + 1) hlo
  have nw0 := ow0.le (hiz_grown (lo := p2 + 1) hg)
  have nw1 := ow1.le (hiz_grown (lo := p2 + 1) hg)
  clear C2 L2 gv ck0 ck1 ck2 hg hN hlo hhs ow0 ow1 y0 y1 y2 y3 y4 y5 y6 y7 y8 zz0 zz1 zz2 zz3 zz4 zz5 zz6 zz7 zz8 ff0 ff1 ff2
  have kS2 : u2.grownBy (((u2.setCell ⟨p2, 4, none⟩ (.int .i64 x.resk)).setCell ⟨p2, 5, none⟩ (.int .i64 x.resn)).setCell ⟨p2, 6, none⟩ (.slice r3 l3 s3)) (some p2) := grown_trans (grown_trans (grown_trans (World.grownBy.refl _ _) (grown_setCell _ _ _ _)) (grown_setCell _ _ _ _)) (grown_setCell _ _ _ _)
  have dd2_0 : (u2.setCell ⟨p2, 4, none⟩ (.int .i64 x.resk)).heap[p2]? = some (Obj.cells #[.slice r1 l1 s1, .int .i64 x.argk, .int .i64 x.argn, .slice r2 l2 s2, .int .i64 x.resk, .int .i64 0, .slice none 0 0, .slice none 0 0, .slice none 0 0] 63) := heap_setCell_same _ p2 4 _ _ (.int .i64 x.resk) dk2
  have dd2_1 : ((u2.setCell ⟨p2, 4, none⟩ (.int .i64 x.resk)).setCell ⟨p2, 5, none⟩ (.int .i64 x.resn)).heap[p2]? = some (Obj.cells #[.slice r1 l1 s1, .int .i64 x.argk, .int .i64 x.argn, .slice r2 l2 s2, .int .i64 x.resk, .int .i64 x.resn, .slice none 0 0, .slice none 0 0, .slice none 0 0] 63) := heap_setCell_same _ p2 5 _ _ (.int .i64 x.resn) dd2_0
  have dd2_2 : (((u2.setCell ⟨p2, 4, none⟩ (.int .i64 x.resk)).setCell ⟨p2, 5, none⟩ (.int .i64 x.resn)).setCell ⟨p2, 6, none⟩ (.slice r3 l3 s3)).heap[p2]? = some (Obj.cells #[.slice r1 l1 s1, .int .i64 x.argk, .int .i64 x.argn, .slice r2 l2 s2, .int .i64 x.resk, .int .i64 x.resn, .slice r3 l3 s3, .slice none 0 0, .slice none 0 0] 63) := heap_setCell_same _ p2 6 _ _ (.slice r3 l3 s3) dd2_1
  have m2 : (((u2.setCell ⟨p2, 4, none⟩ (.int .i64 x.resk)).setCell ⟨p2, 5, none⟩ (.int .i64 x.resn)).setCell ⟨p2, 6, none⟩ (.slice r3 l3 s3)).heap[p2]? = some (Obj.cells #[.slice r1 l1 s1, .int .i64 x.argk, .int .i64 x.argn, .slice r2 l2 s2, .int .i64 x.resk, .int .i64 x.resn, .slice r3 l3 s3, .slice none 0 0, .slice none 0 0] 63) := dd2_2
  have m1 := (kS2.block _ (lt_of_block dk1) (by simp; omega)).trans dk1
  have m0 := (kS2.block _ (lt_of_block dk0) (by simp; omega)).trans dk0
  have gv : w.grownBy (((u2.setCell ⟨p2, 4, none⟩ (.int .i64 x.resk)).setCell ⟨p2, 5, none⟩ (.int .i64 x.resn)).setCell ⟨p2, 6, none⟩ (.slice r3 l3 s3)) none := grown_into g2 kS2 (by omega)
  have hcl : CLe (hideZ u2 (p2 + 1)) (hideZ (((u2.setCell ⟨p2, 4, none⟩ (.int .i64 x.resk)).setCell ⟨p2, 5, none⟩ (.int .i64 x.resn)).setCell ⟨p2, 6, none⟩ (.slice r3 l3 s3)) (p2 + 1)) := hiz_into kS2 (by omega)
  have L3 : Hid (w.grownBy (((u2.setCell ⟨p2, 4, none⟩ (.int .i64 x.resk)).setCell ⟨p2, 5, none⟩ (.int .i64 x.resn)).setCell ⟨p2, 6, none⟩ (.slice r3 l3 s3)) none ∧ (((u2.setCell ⟨p2, 4, none⟩ (.int .i64 x.resk)).setCell ⟨p2, 5, none⟩ (.int .i64 x.resn)).setCell ⟨p2, 6, none⟩ (.slice r3 l3 s3)).heap[p0]? = some (Obj.cells #[.slice a1 l1 c1, .int .i64 x.argk, .int .i64 x.argn, .slice a2 l2 c2, .int .i64 x.resk, .int .i64 x.resn, .slice a3 l3 c3, .slice a4 l4 c4, .slice a5 l5 c5] 78) ∧ (((u2.setCell ⟨p2, 4, none⟩ (.int .i64 x.resk)).setCell ⟨p2, 5, none⟩ (.int .i64 x.resn)).setCell ⟨p2, 6, none⟩ (.slice r3 l3 s3)).heap[p1]? = some (Obj.cells #[.slice none 0 0, .int .i64 0, .int .i64 0, .slice none 0 0, .int .i64 0, .int .i64 0, .slice none 0 0, .slice none 0 0, .slice none 0 0] 63) ∧ (((u2.setCell ⟨p2, 4, none⟩ (.int .i64 x.resk)).setCell ⟨p2, 5, none⟩ (.int .i64 x.resn)).setCell ⟨p2, 6, none⟩ (.slice r3 l3 s3)).heap[p2]? = some (Obj.cells #[.slice r1 l1 s1, .int .i64 x.argk, .int .i64 x.argn, .slice r2 l2 s2, .int .i64 x.resk, .int .i64 x.resn, .slice r3 l3 s3, .slice none 0 0, .slice none 0 0] 63) ∧ (w.heap.size = p0 ∧ p0 + 1 = p1 ∧ p1 + 1 = p2) ∧ SlF (hideZ (((u2.setCell ⟨p2, 4, none⟩ (.int .i64 x.resk)).setCell ⟨p2, 5, none⟩ (.int .i64 x.resn)).setCell ⟨p2, 6, none⟩ (.slice r3 l3 s3)) (p2 + 1)) r1 l1 (x.env) ∧ SlF (hideZ (((u2.setCell ⟨p2, 4, none⟩ (.int .i64 x.resk)).setCell ⟨p2, 5, none⟩ (.int .i64 x.resn)).setCell ⟨p2, 6, none⟩ (.slice r3 l3 s3)) (p2 + 1)) r2 l2 (x.argf) ∧ SlF (hideZ (((u2.setCell ⟨p2, 4, none⟩ (.int .i64 x.resk)).setCell ⟨p2, 5, none⟩ (.int .i64 x.resn)).setCell ⟨p2, 6, none⟩ (.slice r3 l3 s3)) (p2 + 1)) r3 l3 (x.resf)) := ⟨gv, m0, m1, m2, ⟨ee0, ee1, ee2⟩, nw0.le hcl, nw1.le hcl, nw2.le hcl⟩
  have C3 : Hid _ := toTsW (x.locs) a4 l4 c4 (((u2.setCell ⟨p2, 4, none⟩ (.int .i64 x.resk)).setCell ⟨p2, 5, none⟩ (.int .i64 x.resn)).setCell ⟨p2, 6, none⟩ (.slice r3 l3 s3)) ((HN.out (((u2.setCell ⟨p2, 4, none⟩ (.int .i64 x.resk)).setCell ⟨p2, 5, none⟩ (.int .i64 x.resn)).setCell ⟨p2, 6, none⟩ (.slice r3 l3 s3)) gv).2.2.2.1) (by have := HS.out; unfold szBlock at *; omega)
  obtain ⟨⟨y0, y1, y2, y3, y4, y5, y6, y7, y8⟩, -⟩ := blkBlock dk0
  obtain ⟨⟨zz0, zz1, zz2, zz3, zz4, zz5, zz6, zz7, zz8⟩, hfz⟩ := blkBlock dk2
  have ff0 := hfz 4
  have ff1 := hfz 5
  have ff2 := hfz 6
  clear kS2 dd2_0 dd2_1 dd2_2 m2 m1 m0 gv hcl dk0 dk1 dk2 g2 ee0 ee1 ee2 hfz nw0 nw1 nw2
  simp only []
  go_wp2_with fail
  refine Calls.mono C3.out ?_
  rintro e u3 ⟨r4, s4, he, hg, hN⟩
  subst he
  obtain ⟨gv, ck0, ck1, ck2, ⟨ee0, ee1, ee2⟩, ow0, ow1, ow2⟩ := L3.out
  have dk0 := (hg.block _ (lt_of_block ck0) (by simp)).trans ck0
  have dk1 := (hg.block _ (lt_of_block ck1) (by simp)).trans ck1
  have dk2 := (hg.block _ (lt_of_block ck2) (by simp)).trans ck2
  have g2 := grown_trans gv hg
  have hlo : p2 + 1 ≤ (((u2.setCell ⟨p2, 4, none⟩ (.int .i64 x.resk)).setCell ⟨p2, 5, none⟩ (.int .i64 x.resn)).setCell ⟨p2, 6, none⟩ (.slice r3 l3 s3)).heap.size := lt_of_block ck2
  have hhs := hg.size
  have nw3 := hN.le (hiz_low (lo' := p2 + 1) hlo)
  have nw0 := ow0.le (hiz_grown (lo := p2 + 1) hg)
  have nw1 := ow1.le (hiz_grown (lo := p2 + 1) hg)
  have nw2 := ow2.le (hiz_grown (lo := p2 + 1) hg)
  clear C3 L3 gv ck0 ck1 ck2 hg hN hlo hhs ow0 ow1 ow2 y0 y1 y2 y3 y4 y5 y6 y7 y8 zz0 zz1 zz2 zz3 zz4 zz5 zz6 zz7 zz8 ff0 ff1 ff2
  have kS3 : u3.grownBy (u3.setCell ⟨p2, 7, none⟩ (.slice r4 l4 s4)) (some p2) := grown_trans (World.grownBy.refl _ _) (grown_setCell _ _ _ _)
  have dd3_0 : (u3.setCell ⟨p2, 7, none⟩ (.slice r4 l4 s4)).heap[p2]? = some (Obj.cells #[.slice r1 l1 s1, .int .i64 x.argk, .int .i64 x.argn, .slice r2 l2 s2, .int .i64 x.resk, .int .i64 x.resn, .slice r3 l3 s3, .slice r4 l4 s4, .slice none 0 0] 63) := heap_setCell_same _ p2 7 _ _ (.slice r4 l4 s4) dk2
  have m2 : (u3.setCell ⟨p2, 7, none⟩ (.slice r4 l4 s4)).heap[p2]? = some (Obj.cells #[.slice r1 l1 s1, .int .i64 x.argk, .int .i64 x.argn, .slice r2 l2 s2, .int .i64 x.resk, .int .i64 x.resn, .slice r3 l3 s3, .slice r4 l4 s4, .slice none 0 0] 63) := dd3_0
  have m1 := (kS3.block _ (lt_of_block dk1) (by simp; omega)).trans dk1
  have m0 := (kS3.block _ (lt_of_block dk0) (by simp; omega)).trans dk0
  have gv : w.grownBy (u3.setCell ⟨p2, 7, none⟩ (.slice r4 l4 s4)) none := grown_into g2 kS3 (by omega)
  have hcl : CLe (hideZ u3 (p2 + 1)) (hideZ (u3.setCell ⟨p2, 7, none⟩ (.slice r4 l4 s4)) (p2 + 1)) := hiz_into kS3 (by omega)
  have L4 : Hid (w.grownBy (u3.setCell ⟨p2, 7, none⟩ (.slice r4 l4 s4)) none ∧ (u3.setCell ⟨p2, 7, none⟩ (.slice r4 l4 s4)).heap[p0]? = some (Obj.cells #[.slice a1 l1 c1, .int .i64 x.argk, .int .i64 x.argn, .slice a2 l2 c2, .int .i64 x.resk, .int .i64 x.resn, .slice a3 l3 c3, .slice a4 l4 c4, .slice a5 l5 c5] 78) ∧ (u3.setCell ⟨p2, 7, none⟩ (.slice r4 l4 s4)).heap[p1]? = some (Obj.cells #[.slice none 0 0, .int .i64 0, .int .i64 0, .slice none 0 0, .int .i64 0, .int .i64 0, .slice none 0 0, .slice none 0 0, .slice none 0 0] 63) ∧ (u3.setCell ⟨p2, 7, none⟩ (.slice r4 l4 s4)).heap[p2]? = some (Obj.cells #[.slice r1 l1 s1, .int .i64 x.argk, .int .i64 x.argn, .slice r2 l2 s2, .int .i64 x.resk, .int .i64 x.resn, .slice r3 l3 s3, .slice r4 l4 s4, .slice none 0 0] 63) ∧ (w.heap.size = p0 ∧ p0 + 1 = p1 ∧ p1 + 1 = p2) ∧ SlF (hideZ (u3.setCell ⟨p2, 7, none⟩ (.slice r4 l4 s4)) (p2 + 1)) r1 l1 (x.env) ∧ SlF (hideZ (u3.setCell ⟨p2, 7, none⟩ (.slice r4 l4 s4)) (p2 + 1)) r2 l2 (x.argf) ∧ SlF (hideZ (u3.setCell ⟨p2, 7, none⟩ (.slice r4 l4 s4)) (p2 + 1)) r3 l3 (x.resf) ∧ SlF (hideZ (u3.setCell ⟨p2, 7, none⟩ (.slice r4 l4 s4)) (p2 + 1)) r4 l4 (x.locs)) := ⟨gv, m0, m1, m2, ⟨ee0, ee1, ee2⟩, nw0.le hcl, nw1.le hcl, nw2.le hcl, nw3.le hcl⟩
  have C4 : Hid _ := toInssT (x.code) a5 l5 c5 (u3.setCell ⟨p2, 7, none⟩ (.slice r4 l4 s4)) ((HN.out (u3.setCell ⟨p2, 7, none⟩ (.slice r4 l4 s4)) gv).2.2.2.2) (by have := HS.out; unfold szBlock at *; omega)
  obtain ⟨⟨y0, y1, y2, y3, y4, y5, y6, y7, y8⟩, -⟩ := blkBlock dk0
  obtain ⟨⟨zz0, zz1, zz2, zz3, zz4, zz5, zz6, zz7, zz8⟩, hfz⟩ := blkBlock dk2
  have ff0 := hfz 7
  clear kS3 dd3_0 m2 m1 m0 gv hcl dk0 dk1 dk2 g2 ee0 ee1 ee2 hfz nw0 nw1 nw2 nw3
  simp only []
  go_wp2_with fail
  refine Calls.mono C4.out ?_
  rintro e u4 ⟨r5, s5, he, hg, hN⟩
  subst he
  obtain ⟨gv, ck0, ck1, ck2, ⟨ee0, ee1, ee2⟩, ow0, ow1, ow2, ow3⟩ := L4.out
  have dk0 := (hg.block _ (lt_of_block ck0) (by simp)).trans ck0
  have dk1 := (hg.block _ (lt_of_block ck1) (by simp)).trans ck1
  have dk2 := (hg.block _ (lt_of_block ck2) (by simp)).trans ck2
  have g2 := grown_trans gv hg
  have hlo : p2 + 1 ≤ (u3.setCell ⟨p2, 7, none⟩ (.slice r4 l4 s4)).heap.size := lt_of_block ck2
  have hhs := hg.size
  have nw4 := hN.le (hiz_low (lo' := p2 + 1) hlo)
  have nw0 := ow0.le (hiz_grown (lo := p2 + 1) hg)
  have nw1 := ow1.le (hiz_grown (lo := p2 + 1) hg)
  have nw2 := ow2.le (hiz_grown (lo := p2 + 1) hg)
  have nw3 := ow3.le (hiz_grown (lo := p2 + 1) hg)
  clear C4 L4 gv ck0 ck1 ck2 hg hN hlo hhs ow0 ow1 ow2 ow3 y0 y1 y2 y3 y4 y5 y6 y7 y8 zz0 zz1 zz2 zz3 zz4 zz5 zz6 zz7 zz8 ff0
  have kS4 : u4.grownBy (u4.setCell ⟨p2, 8, none⟩ (.slice r5 l5 s5)) (some p2) := grown_trans (World.grownBy.refl _ _) (grown_setCell _ _ _ _)
  have dd4_0 : (u4.setCell ⟨p2, 8, none⟩ (.slice r5 l5 s5)).heap[p2]? = some (Obj.cells #[.slice r1 l1 s1, .int .i64 x.argk, .int .i64 x.argn, .slice r2 l2 s2, .int .i64 x.resk, .int .i64 x.resn, .slice r3 l3 s3, .slice r4 l4 s4, .slice r5 l5 s5] 63) := heap_setCell_same _ p2 8 _ _ (.slice r5 l5 s5) dk2
  have m2 : (u4.setCell ⟨p2, 8, none⟩ (.slice r5 l5 s5)).heap[p2]? = some (Obj.cells #[.slice r1 l1 s1, .int .i64 x.argk, .int .i64 x.argn, .slice r2 l2 s2, .int .i64 x.resk, .int .i64 x.resn, .slice r3 l3 s3, .slice r4 l4 s4, .slice r5 l5 s5] 63) := dd4_0
  have m1 := (kS4.block _ (lt_of_block dk1) (by simp; omega)).trans dk1
  have m0 := (kS4.block _ (lt_of_block dk0) (by simp; omega)).trans dk0
  have gv : w.grownBy (u4.setCell ⟨p2, 8, none⟩ (.slice r5 l5 s5)) none := grown_into g2 kS4 (by omega)
  have hcl : CLe (hideZ u4 (p2 + 1)) (hideZ (u4.setCell ⟨p2, 8, none⟩ (.slice r5 l5 s5)) (p2 + 1)) := hiz_into kS4 (by omega)
  have L5 : Hid (w.grownBy (u4.setCell ⟨p2, 8, none⟩ (.slice r5 l5 s5)) none ∧ (u4.setCell ⟨p2, 8, none⟩ (.slice r5 l5 s5)).heap[p0]? = some (Obj.cells #[.slice a1 l1 c1, .int .i64 x.argk, .int .i64 x.argn, .slice a2 l2 c2, .int .i64 x.resk, .int .i64 x.resn, .slice a3 l3 c3, .slice a4 l4 c4, .slice a5 l5 c5] 78) ∧ (u4.setCell ⟨p2, 8, none⟩ (.slice r5 l5 s5)).heap[p1]? = some (Obj.cells #[.slice none 0 0, .int .i64 0, .int .i64 0, .slice none 0 0, .int .i64 0, .int .i64 0, .slice none 0 0, .slice none 0 0, .slice none 0 0] 63) ∧ (u4.setCell ⟨p2, 8, none⟩ (.slice r5 l5 s5)).heap[p2]? = some (Obj.cells #[.slice r1 l1 s1, .int .i64 x.argk, .int .i64 x.argn, .slice r2 l2 s2, .int .i64 x.resk, .int .i64 x.resn, .slice r3 l3 s3, .slice r4 l4 s4, .slice r5 l5 s5] 63) ∧ (w.heap.size = p0 ∧ p0 + 1 = p1 ∧ p1 + 1 = p2) ∧ SlF (hideZ (u4.setCell ⟨p2, 8, none⟩ (.slice r5 l5 s5)) (p2 + 1)) r1 l1 (x.env) ∧ SlF (hideZ (u4.setCell ⟨p2, 8, none⟩ (.slice r5 l5 s5)) (p2 + 1)) r2 l2 (x.argf) ∧ SlF (hideZ (u4.setCell ⟨p2, 8, none⟩ (.slice r5 l5 s5)) (p2 + 1)) r3 l3 (x.resf) ∧ SlF (hideZ (u4.setCell ⟨p2, 8, none⟩ (.slice r5 l5 s5)) (p2 + 1)) r4 l4 (x.locs) ∧ SlIns (hideZ (u4.setCell ⟨p2, 8, none⟩ (.slice r5 l5 s5)) (p2 + 1)) r5 l5 (x.code)) := ⟨gv, m0, m1, m2, ⟨ee0, ee1, ee2⟩, nw0.le hcl, nw1.le hcl, nw2.le hcl, nw3.le hcl, nw4.le hcl⟩
  obtain ⟨mf, kf⟩ := fillBlock (.slice r1 l1 s1) (.int .i64 x.argk) (.int .i64 x.argn) (.slice r2 l2 s2) (.int .i64 x.resk) (.int .i64 x.resn) (.slice r3 l3 s3) (.slice r4 l4 s4) (.slice r5 l5 s5) m1
  have GF := grown_into gv kf (by omega)
  have hcf := hiz_into (lo := p2 + 1) kf (by omega)
  have FQ : Hid _ := And.intro mf (And.intro GF (show RdBlock (hideZ _ p0) x (r1) l1 (r2) l2 (r3) l3 (r4) l4 (r5) l5 from ⟨((nw0.le hcl).le hcf).le (hiz_low (lo := p2 + 1) (lo' := p0) (by omega)), ((nw1.le hcl).le hcf).le (hiz_low (lo := p2 + 1) (lo' := p0) (by omega)), ((nw2.le hcl).le hcf).le (hiz_low (lo := p2 + 1) (lo' := p0) (by omega)), ((nw3.le hcl).le hcf).le (hiz_low (lo := p2 + 1) (lo' := p0) (by omega)), ((nw4.le hcl).le hcf).le (hiz_low (lo := p2 + 1) (lo' := p0) (by omega))⟩))
  obtain ⟨⟨y0, y1, y2, y3, y4, y5, y6, y7, y8⟩, -⟩ := blkBlock dk0
  obtain ⟨⟨zz0, zz1, zz2, zz3, zz4, zz5, zz6, zz7, zz8⟩, hfz⟩ := blkBlock dk2
  obtain ⟨⟨x0, x1, x2, x3, x4, x5, x6, x7, x8⟩, hfx⟩ := blkBlock dk1
  have ff0 := hfz 8
  have fx0 := hfx 0
  have fx1 := hfx 1
  have fx2 := hfx 2
  have fx3 := hfx 3
  have fx4 := hfx 4
  have fx5 := hfx 5
  have fx6 := hfx 6
  have fx7 := hfx 7
  have fx8 := hfx 8
  clear kS4 dd4_0 m2 m1 m0 gv hcl dk0 dk1 dk2 g2 hfz hfx nw0 nw1 nw2 nw3 nw4 mf kf GF hcf L5
  have p12 : p2 ≠ p1 := by omega
  simp only []
  go_wp2
  (try simp only [Exit.inBlock, Exit.then])
  refine bodyPost_ret (results_cell_row (P := Tryz.prog) Tryz.results50 _ _ p1 _ _ _ _ rfl FQ.out.1 Tryz.underlying63 rfl (by kernel_rfl)) rfl ?_
  refine ⟨r1, s1, r2, s2, r3, s3, r4, s4, r5, s5, rfl, ?_⟩
  rw [ee0]
  exact FQ.out.2
end Go.Proofs.YtpdkgmagjhibkaaGreatDoor.By
