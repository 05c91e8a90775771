/-
  The law's own copies of Expr nodes, by their contracts. No statement is proved here.
-/
import Derived.Test.YtjjaocoahepdaaaDoorGCEa
namespace Go.Proofs.YtjjaocoahepdaaaDoor.By
open Go.RowKit
set_option linter.unusedVariables false
set_option linter.unusedSimpArgs false

theorem RowI.hid {w : World} {t : TypeId} {g n lo : Nat} {zs : List Int} (h : RowI w t g n zs) (hl : zs.length = n) (hn : n ≤ 1048576) (hg : lo ≤ g) : RdI (hideW w lo) (some ⟨g, 0, none⟩) n zs :=
  ⟨(h.of_block (hideW_heap hg)).reads' hl, by omega⟩

set_option maxRecDepth 8000 in
set_option maxHeartbeats 8000000 in
theorem toEA_of (hc : List Int) (hv : List (List Int)) (p : PE) (kids alts : GE) (e0 : Option Addr) (q0 d0 : Nat) (e1 : Option Addr) (q1 d1 : Nat) (a1 : Option Addr) (l1 c1 : Nat) (a2 : Option Addr) (l2 c2 : Nat) (a3 : Option Addr) (l3 c3 : Nat) (a4 : Option Addr) (l4 c4 : Nat) (a5 : Option Addr) (l5 c5 : Nat) (w : World) (h : RdB w e0 q0 hc ∧ SlSC w e1 q1 d1 hv) (hs : hc.length + szW hv ≤ 1048576)
    (Hb : ∀ u, w.grownBy u none → Calls Tryd.prog 6 #[.agg #[.int .i64 p.k, .int .i64 p.n, .slice a1 l1 c1, .slice a2 l2 c2, .slice a3 l3 c3, .slice a4 l4 c4, .slice a5 l5 c5]] u fun e v => ∃ t1 w1 t2 w2 t3 w3 t4 w4 t5 w5, e = .returned (.agg #[.int .i64 p.k, .int .i64 p.n, .slice t1 l1 w1, .slice t2 l2 w2, .slice t3 l3 w3, .slice t4 l4 w4, .slice t5 l5 w5]) ∧ u.grownBy v none ∧ NdE (hideW v u.heap.size) p kids alts t1 l1 w1 t2 l2 w2 t3 l3 w3 t4 l4 w4 t5 l5 w5) :
    Calls Tryd.prog 27 #[.agg #[.slice e0 q0 d0, .slice e1 q1 d1, .int .i64 p.k, .int .i64 p.n, .slice a1 l1 c1, .slice a2 l2 c2, .slice a3 l3 c3, .slice a4 l4 c4, .slice a5 l5 c5]] w fun e u => ∃ x0 z0 x1 z1 t1 w1 t2 w2 t3 w3 t4 w4 t5 w5, e = .returned (.agg #[.slice x0 q0 z0, .slice x1 q1 z1, .int .i64 p.k, .int .i64 p.n, .slice t1 l1 w1, .slice t2 l2 w2, .slice t3 l3 w3, .slice t4 l4 w4, .slice t5 l5 w5]) ∧ w.grownBy u none ∧ (RdB (hideW u w.heap.size) x0 q0 hc ∧ SlSC (hideW u w.heap.size) x1 q1 z1 hv ∧ NdE (hideW u w.heap.size) p kids alts t1 l1 w1 t2 l2 w2 t3 l3 w3 t4 l4 w4 t5 l5 w5) := by
  have HB : Hid _ := Hb
  have HS : Hid (hc.length + szW hv ≤ 1048576) := hs
  have HY : Hid (RdB w e0 q0 hc ∧ SlSC w e1 q1 d1 hv) := h
  have HN : Hid (∀ u, w.grownBy u none → RdB u e0 q0 hc ∧ SlSC u e1 q1 d1 hv) := fun u hu => ⟨h.1.none hu, h.2.none hu⟩
  clear Hb h hs
  obtain ⟨b0, b1, b2, bsz⟩ := alloc3_blocks w (.cells #[.slice e0 q0 d0, .slice e1 q1 d1, .int .i64 p.k, .int .i64 p.n, .slice a1 l1 c1, .slice a2 l2 c2, .slice a3 l3 c3, .slice a4 l4 c4, .slice a5 l5 c5] 50) (.cells #[.slice none 0 0, .slice none 0 0, .int .i64 0, .int .i64 0, .slice none 0 0, .slice none 0 0, .slice none 0 0, .slice none 0 0, .slice none 0 0] 58) (.cells #[.slice none 0 0, .slice none 0 0, .int .i64 0, .int .i64 0, .slice none 0 0, .slice none 0 0, .slice none 0 0, .slice none 0 0, .slice none 0 0] 58)
  have g0 := grown_alloc (grown_alloc (grown_alloc (World.grownBy.refl w none) (.cells #[.slice e0 q0 d0, .slice e1 q1 d1, .int .i64 p.k, .int .i64 p.n, .slice a1 l1 c1, .slice a2 l2 c2, .slice a3 l3 c3, .slice a4 l4 c4, .slice a5 l5 c5] 50)) (.cells #[.slice none 0 0, .slice none 0 0, .int .i64 0, .int .i64 0, .slice none 0 0, .slice none 0 0, .slice none 0 0, .slice none 0 0, .slice none 0 0] 58)) (.cells #[.slice none 0 0, .slice none 0 0, .int .i64 0, .int .i64 0, .slice none 0 0, .slice none 0 0, .slice none 0 0, .slice none 0 0, .slice none 0 0] 58)
  have L0 : Hid (w.grownBy _ none ∧ _ = some (Obj.cells #[.slice e0 q0 d0, .slice e1 q1 d1, .int .i64 p.k, .int .i64 p.n, .slice a1 l1 c1, .slice a2 l2 c2, .slice a3 l3 c3, .slice a4 l4 c4, .slice a5 l5 c5] 50) ∧ _ = some (Obj.cells #[.slice none 0 0, .slice none 0 0, .int .i64 0, .int .i64 0, .slice none 0 0, .slice none 0 0, .slice none 0 0, .slice none 0 0, .slice none 0 0] 58) ∧ _ = some (Obj.cells #[.slice none 0 0, .slice none 0 0, .int .i64 0, .int .i64 0, .slice none 0 0, .slice none 0 0, .slice none 0 0, .slice none 0 0, .slice none 0 0] 58) ∧ _ = w.heap.size + 1 + 1 + 1) := ⟨g0, b0, b1, b2, bsz⟩
  have C0 : Hid _ := toB e0 q0 d0 hc _ ((HN.out _ g0).1).1 (by have := HS.out; have := ((HN.out _ g0).1).1.1; omega)
  obtain ⟨⟨y0, y1, y2, y3, y4, y5, y6, y7, y8⟩, -⟩ := blkEA b0
  clear g0 b0 b1 b2 bsz
  go_enter Tryd.func27, Tryd.ntmps27
  go_wp2_with fail
  refine Calls.mono C0.out ?_
  rintro e u0 ⟨rr0, he, hg, hgl, hrow⟩
  subst he
  obtain ⟨gv, ck0, ck1, ck2, hsz⟩ := L0.out
  have dk0 := (hg.block _ (lt_of_block ck0) (by simp)).trans ck0
  have dk1 := (hg.block _ (lt_of_block ck1) (by simp)).trans ck1
  have dk2 := (hg.block _ (lt_of_block ck2) (by simp)).trans ck2
  have g2 := grown_trans gv hg
  have hlo := Nat.le_of_eq hsz.symm
  have hhs := hg.size
  generalize ee0 : w.heap.size = p0 at *
  generalize ee1 : p0 + 1 = p1 at *
  generalize ee2 : p1 + 1 = p2 at *
  have nw0 := hrow.hid (HY.out.1).2.1 (HY.out.1).1.1 (by have := HS.out; have := (HY.out.1).1.1; omega) (lo := p2 + 1) (by omega)
  clear C0 L0 gv ck0 ck1 ck2 hsz hg hgl hrow hlo hhs y0 y1 y2 y3 y4 y5 y6 y7 y8
  have n02 : p0 ≠ p2 := by omega
  have n12 : p1 ≠ p2 := by omega
  have n01 : p0 ≠ p1 := by omega
  have kS0 : u0.grownBy (u0.setCell ⟨p2, 0, none⟩ (.slice (some ⟨rr0, 0, none⟩) q0 q0)) (some p2) := grown_trans (World.grownBy.refl _ _) (grown_setCell _ _ _ _)
  have dd0_0 : (u0.setCell ⟨p2, 0, none⟩ (.slice (some ⟨rr0, 0, none⟩) q0 q0)).heap[p2]? = some (Obj.cells #[.slice (some ⟨rr0, 0, none⟩) q0 q0, .slice none 0 0, .int .i64 0, .int .i64 0, .slice none 0 0, .slice none 0 0, .slice none 0 0, .slice none 0 0, .slice none 0 0] 58) := heap_setCell_same _ p2 0 _ _ (.slice (some ⟨rr0, 0, none⟩) q0 q0) dk2
  have m2 : (u0.setCell ⟨p2, 0, none⟩ (.slice (some ⟨rr0, 0, none⟩) q0 q0)).heap[p2]? = some (Obj.cells #[.slice (some ⟨rr0, 0, none⟩) q0 q0, .slice none 0 0, .int .i64 0, .int .i64 0, .slice none 0 0, .slice none 0 0, .slice none 0 0, .slice none 0 0, .slice none 0 0] 58) := dd0_0
  have m1 := (kS0.block _ (lt_of_block dk1) (by simp; omega)).trans dk1
  have m0 := (kS0.block _ (lt_of_block dk0) (by simp; omega)).trans dk0
  have gv : w.grownBy (u0.setCell ⟨p2, 0, none⟩ (.slice (some ⟨rr0, 0, none⟩) q0 q0)) none := grown_into g2 kS0 (by omega)
  have hcl : CLe (hideW u0 (p2 + 1)) (hideW (u0.setCell ⟨p2, 0, none⟩ (.slice (some ⟨rr0, 0, none⟩) q0 q0)) (p2 + 1)) := hid_into kS0 (by omega)
  have L1 : Hid (w.grownBy (u0.setCell ⟨p2, 0, none⟩ (.slice (some ⟨rr0, 0, none⟩) q0 q0)) none ∧ (u0.setCell ⟨p2, 0, none⟩ (.slice (some ⟨rr0, 0, none⟩) q0 q0)).heap[p0]? = some (Obj.cells #[.slice e0 q0 d0, .slice e1 q1 d1, .int .i64 p.k, .int .i64 p.n, .slice a1 l1 c1, .slice a2 l2 c2, .slice a3 l3 c3, .slice a4 l4 c4, .slice a5 l5 c5] 50) ∧ (u0.setCell ⟨p2, 0, none⟩ (.slice (some ⟨rr0, 0, none⟩) q0 q0)).heap[p1]? = some (Obj.cells #[.slice none 0 0, .slice none 0 0, .int .i64 0, .int .i64 0, .slice none 0 0, .slice none 0 0, .slice none 0 0, .slice none 0 0, .slice none 0 0] 58) ∧ (u0.setCell ⟨p2, 0, none⟩ (.slice (some ⟨rr0, 0, none⟩) q0 q0)).heap[p2]? = some (Obj.cells #[.slice (some ⟨rr0, 0, none⟩) q0 q0, .slice none 0 0, .int .i64 0, .int .i64 0, .slice none 0 0, .slice none 0 0, .slice none 0 0, .slice none 0 0, .slice none 0 0] 58) ∧ (w.heap.size = p0 ∧ p0 + 1 = p1 ∧ p1 + 1 = p2) ∧ RdB (hideW (u0.setCell ⟨p2, 0, none⟩ (.slice (some ⟨rr0, 0, none⟩) q0 q0)) (p2 + 1)) (some ⟨rr0, 0, none⟩) q0 hc) := ⟨gv, m0, m1, m2, ⟨ee0, ee1, ee2⟩, nw0.le hcl⟩
  have C1 : Hid _ := toWW e1 q1 d1 hv (u0.setCell ⟨p2, 0, none⟩ (.slice (some ⟨rr0, 0, none⟩) q0 q0)) ((HN.out (u0.setCell ⟨p2, 0, none⟩ (.slice (some ⟨rr0, 0, none⟩) q0 q0)) gv).2).1 (by have := HS.out; omega)
  obtain ⟨⟨y0, y1, y2, y3, y4, y5, y6, y7, y8⟩, -⟩ := blkEA dk0
  obtain ⟨⟨zz0, zz1, zz2, zz3, zz4, zz5, zz6, zz7, zz8⟩, hfz⟩ := blkEA dk2
  have ff0 := hfz 0
  clear kS0 dd0_0 m2 m1 m0 gv hcl dk0 dk1 dk2 g2 ee0 ee1 ee2 hfz nw0
  simp only []
  go_wp2_with fail
  refine Calls.mono C1.out ?_
  rintro e u1 ⟨rr1, ss1, he, hg, hN⟩
  subst he
  obtain ⟨gv, ck0, ck1, ck2, ⟨ee0, ee1, ee2⟩, ow0⟩ := L1.out
  have dk0 := (hg.block _ (lt_of_block ck0) (by simp)).trans ck0
  have dk1 := (hg.block _ (lt_of_block ck1) (by simp)).trans ck1
  have dk2 := (hg.block _ (lt_of_block ck2) (by simp)).trans ck2
  have g2 := grown_trans gv hg
  have hlo : p2 + 1 ≤ (u0.setCell ⟨p2, 0, none⟩ (.slice (some ⟨rr0, 0, none⟩) q0 q0)).heap.size := lt_of_block ck2
  have hhs := hg.size
  have nw1 := hN.le (hid_low (lo' := p2 + 1) hlo)
  have nw0 := ow0.le (hid_grown (lo := p2 + 1) hg)
  clear C1 L1 gv ck0 ck1 ck2 hg hN hlo hhs ow0 y0 y1 y2 y3 y4 y5 y6 y7 y8 zz0 zz1 zz2 zz3 zz4 zz5 zz6 zz7 zz8 ff0
  have kS1 : u1.grownBy (u1.setCell ⟨p2, 1, none⟩ (.slice rr1 q1 ss1)) (some p2) := grown_trans (World.grownBy.refl _ _) (grown_setCell _ _ _ _)
  have dd1_0 : (u1.setCell ⟨p2, 1, none⟩ (.slice rr1 q1 ss1)).heap[p2]? = some (Obj.cells #[.slice (some ⟨rr0, 0, none⟩) q0 q0, .slice rr1 q1 ss1, .int .i64 0, .int .i64 0, .slice none 0 0, .slice none 0 0, .slice none 0 0, .slice none 0 0, .slice none 0 0] 58) := heap_setCell_same _ p2 1 _ _ (.slice rr1 q1 ss1) dk2
  have m2 : (u1.setCell ⟨p2, 1, none⟩ (.slice rr1 q1 ss1)).heap[p2]? = some (Obj.cells #[.slice (some ⟨rr0, 0, none⟩) q0 q0, .slice rr1 q1 ss1, .int .i64 0, .int .i64 0, .slice none 0 0, .slice none 0 0, .slice none 0 0, .slice none 0 0, .slice none 0 0] 58) := dd1_0
  have m1 := (kS1.block _ (lt_of_block dk1) (by simp; omega)).trans dk1
  have m0 := (kS1.block _ (lt_of_block dk0) (by simp; omega)).trans dk0
  have gv : w.grownBy (u1.setCell ⟨p2, 1, none⟩ (.slice rr1 q1 ss1)) none := grown_into g2 kS1 (by omega)
  have hcl : CLe (hideW u1 (p2 + 1)) (hideW (u1.setCell ⟨p2, 1, none⟩ (.slice rr1 q1 ss1)) (p2 + 1)) := hid_into kS1 (by omega)
  have L2 : Hid (w.grownBy (u1.setCell ⟨p2, 1, none⟩ (.slice rr1 q1 ss1)) none ∧ (u1.setCell ⟨p2, 1, none⟩ (.slice rr1 q1 ss1)).heap[p0]? = some (Obj.cells #[.slice e0 q0 d0, .slice e1 q1 d1, .int .i64 p.k, .int .i64 p.n, .slice a1 l1 c1, .slice a2 l2 c2, .slice a3 l3 c3, .slice a4 l4 c4, .slice a5 l5 c5] 50) ∧ (u1.setCell ⟨p2, 1, none⟩ (.slice rr1 q1 ss1)).heap[p1]? = some (Obj.cells #[.slice none 0 0, .slice none 0 0, .int .i64 0, .int .i64 0, .slice none 0 0, .slice none 0 0, .slice none 0 0, .slice none 0 0, .slice none 0 0] 58) ∧ (u1.setCell ⟨p2, 1, none⟩ (.slice rr1 q1 ss1)).heap[p2]? = some (Obj.cells #[.slice (some ⟨rr0, 0, none⟩) q0 q0, .slice rr1 q1 ss1, .int .i64 0, .int .i64 0, .slice none 0 0, .slice none 0 0, .slice none 0 0, .slice none 0 0, .slice none 0 0] 58) ∧ (w.heap.size = p0 ∧ p0 + 1 = p1 ∧ p1 + 1 = p2) ∧ RdB (hideW (u1.setCell ⟨p2, 1, none⟩ (.slice rr1 q1 ss1)) (p2 + 1)) (some ⟨rr0, 0, none⟩) q0 hc ∧ SlSC (hideW (u1.setCell ⟨p2, 1, none⟩ (.slice rr1 q1 ss1)) (p2 + 1)) rr1 q1 ss1 hv) := ⟨gv, m0, m1, m2, ⟨ee0, ee1, ee2⟩, nw0.le hcl, nw1.le hcl⟩
  have C2 : Hid _ := HB.out (u1.setCell ⟨p2, 1, none⟩ (.slice rr1 q1 ss1)) gv
  obtain ⟨⟨y0, y1, y2, y3, y4, y5, y6, y7, y8⟩, -⟩ := blkEA dk0
  obtain ⟨⟨zz0, zz1, zz2, zz3, zz4, zz5, zz6, zz7, zz8⟩, hfz⟩ := blkEA dk2
  have ff0 := hfz 1
  clear kS1 dd1_0 m2 m1 m0 gv hcl dk0 dk1 dk2 g2 ee0 ee1 ee2 hfz nw0 nw1
  simp only []
  go_wp2_with fail
  refine Calls.mono C2.out ?_
  rintro e u2 ⟨t1, w1, t2, w2, t3, w3, t4, w4, t5, w5, he, hg, hN⟩
  subst he
  obtain ⟨gv, ck0, ck1, ck2, ⟨ee0, ee1, ee2⟩, ow0, ow1⟩ := L2.out
  have dk0 := (hg.block _ (lt_of_block ck0) (by simp)).trans ck0
  have dk1 := (hg.block _ (lt_of_block ck1) (by simp)).trans ck1
  have dk2 := (hg.block _ (lt_of_block ck2) (by simp)).trans ck2
  have g2 := grown_trans gv hg
  have hlo : p2 + 1 ≤ (u1.setCell ⟨p2, 1, none⟩ (.slice rr1 q1 ss1)).heap.size := lt_of_block ck2
  have hhs := hg.size
  have nw2 := hN.le (hid_low (lo' := p2 + 1) hlo)
  have nw0 := ow0.le (hid_grown (lo := p2 + 1) hg)
  have nw1 := ow1.le (hid_grown (lo := p2 + 1) hg)
  clear C2 L2 gv ck0 ck1 ck2 hg hN hlo hhs ow0 ow1 y0 y1 y2 y3 y4 y5 y6 y7 y8 zz0 zz1 zz2 zz3 zz4 zz5 zz6 zz7 zz8 ff0
  have kS2 : u2.grownBy (((((((u2.setCell ⟨p2, 2, none⟩ (.int .i64 p.k)).setCell ⟨p2, 3, none⟩ (.int .i64 p.n)).setCell ⟨p2, 4, none⟩ (.slice t1 l1 w1)).setCell ⟨p2, 5, none⟩ (.slice t2 l2 w2)).setCell ⟨p2, 6, none⟩ (.slice t3 l3 w3)).setCell ⟨p2, 7, none⟩ (.slice t4 l4 w4)).setCell ⟨p2, 8, none⟩ (.slice t5 l5 w5)) (some p2) := grown_trans (grown_trans (grown_trans (grown_trans (grown_trans (grown_trans (grown_trans (World.grownBy.refl _ _) (grown_setCell _ _ _ _)) (grown_setCell _ _ _ _)) (grown_setCell _ _ _ _)) (grown_setCell _ _ _ _)) (grown_setCell _ _ _ _)) (grown_setCell _ _ _ _)) (grown_setCell _ _ _ _)
  have dd2_0 : (u2.setCell ⟨p2, 2, none⟩ (.int .i64 p.k)).heap[p2]? = some (Obj.cells #[.slice (some ⟨rr0, 0, none⟩) q0 q0, .slice rr1 q1 ss1, .int .i64 p.k, .int .i64 0, .slice none 0 0, .slice none 0 0, .slice none 0 0, .slice none 0 0, .slice none 0 0] 58) := heap_setCell_same _ p2 2 _ _ (.int .i64 p.k) dk2
  have dd2_1 : ((u2.setCell ⟨p2, 2, none⟩ (.int .i64 p.k)).setCell ⟨p2, 3, none⟩ (.int .i64 p.n)).heap[p2]? = some (Obj.cells #[.slice (some ⟨rr0, 0, none⟩) q0 q0, .slice rr1 q1 ss1, .int .i64 p.k, .int .i64 p.n, .slice none 0 0, .slice none 0 0, .slice none 0 0, .slice none 0 0, .slice none 0 0] 58) := heap_setCell_same _ p2 3 _ _ (.int .i64 p.n) dd2_0
  have dd2_2 : (((u2.setCell ⟨p2, 2, none⟩ (.int .i64 p.k)).setCell ⟨p2, 3, none⟩ (.int .i64 p.n)).setCell ⟨p2, 4, none⟩ (.slice t1 l1 w1)).heap[p2]? = some (Obj.cells #[.slice (some ⟨rr0, 0, none⟩) q0 q0, .slice rr1 q1 ss1, .int .i64 p.k, .int .i64 p.n, .slice t1 l1 w1, .slice none 0 0, .slice none 0 0, .slice none 0 0, .slice none 0 0] 58) := heap_setCell_same _ p2 4 _ _ (.slice t1 l1 w1) dd2_1
  have dd2_3 : ((((u2.setCell ⟨p2, 2, none⟩ (.int .i64 p.k)).setCell ⟨p2, 3, none⟩ (.int .i64 p.n)).setCell ⟨p2, 4, none⟩ (.slice t1 l1 w1)).setCell ⟨p2, 5, none⟩ (.slice t2 l2 w2)).heap[p2]? = some (Obj.cells #[.slice (some ⟨rr0, 0, none⟩) q0 q0, .slice rr1 q1 ss1, .int .i64 p.k, .int .i64 p.n, .slice t1 l1 w1, .slice t2 l2 w2, .slice none 0 0, .slice none 0 0, .slice none 0 0] 58) := heap_setCell_same _ p2 5 _ _ (.slice t2 l2 w2) dd2_2
  have dd2_4 : (((((u2.setCell ⟨p2, 2, none⟩ (.int .i64 p.k)).setCell ⟨p2, 3, none⟩ (.int .i64 p.n)).setCell ⟨p2, 4, none⟩ (.slice t1 l1 w1)).setCell ⟨p2, 5, none⟩ (.slice t2 l2 w2)).setCell ⟨p2, 6, none⟩ (.slice t3 l3 w3)).heap[p2]? = some (Obj.cells #[.slice (some ⟨rr0, 0, none⟩) q0 q0, .slice rr1 q1 ss1, .int .i64 p.k, .int .i64 p.n, .slice t1 l1 w1, .slice t2 l2 w2, .slice t3 l3 w3, .slice none 0 0, .slice none 0 0] 58) := heap_setCell_same _ p2 6 _ _ (.slice t3 l3 w3) dd2_3
  have dd2_5 : ((((((u2.setCell ⟨p2, 2, none⟩ (.int .i64 p.k)).setCell ⟨p2, 3, none⟩ (.int .i64 p.n)).setCell ⟨p2, 4, none⟩ (.slice t1 l1 w1)).setCell ⟨p2, 5, none⟩ (.slice t2 l2 w2)).setCell ⟨p2, 6, none⟩ (.slice t3 l3 w3)).setCell ⟨p2, 7, none⟩ (.slice t4 l4 w4)).heap[p2]? = some (Obj.cells #[.slice (some ⟨rr0, 0, none⟩) q0 q0, .slice rr1 q1 ss1, .int .i64 p.k, .int .i64 p.n, .slice t1 l1 w1, .slice t2 l2 w2, .slice t3 l3 w3, .slice t4 l4 w4, .slice none 0 0] 58) := heap_setCell_same _ p2 7 _ _ (.slice t4 l4 w4) dd2_4
  have dd2_6 : (((((((u2.setCell ⟨p2, 2, none⟩ (.int .i64 p.k)).setCell ⟨p2, 3, none⟩ (.int .i64 p.n)).setCell ⟨p2, 4, none⟩ (.slice t1 l1 w1)).setCell ⟨p2, 5, none⟩ (.slice t2 l2 w2)).setCell ⟨p2, 6, none⟩ (.slice t3 l3 w3)).setCell ⟨p2, 7, none⟩ (.slice t4 l4 w4)).setCell ⟨p2, 8, none⟩ (.slice t5 l5 w5)).heap[p2]? = some (Obj.cells #[.slice (some ⟨rr0, 0, none⟩) q0 q0, .slice rr1 q1 ss1, .int .i64 p.k, .int .i64 p.n, .slice t1 l1 w1, .slice t2 l2 w2, .slice t3 l3 w3, .slice t4 l4 w4, .slice t5 l5 w5] 58) := heap_setCell_same _ p2 8 _ _ (.slice t5 l5 w5) dd2_5
  have m2 : (((((((u2.setCell ⟨p2, 2, none⟩ (.int .i64 p.k)).setCell ⟨p2, 3, none⟩ (.int .i64 p.n)).setCell ⟨p2, 4, none⟩ (.slice t1 l1 w1)).setCell ⟨p2, 5, none⟩ (.slice t2 l2 w2)).setCell ⟨p2, 6, none⟩ (.slice t3 l3 w3)).setCell ⟨p2, 7, none⟩ (.slice t4 l4 w4)).setCell ⟨p2, 8, none⟩ (.slice t5 l5 w5)).heap[p2]? = some (Obj.cells #[.slice (some ⟨rr0, 0, none⟩) q0 q0, .slice rr1 q1 ss1, .int .i64 p.k, .int .i64 p.n, .slice t1 l1 w1, .slice t2 l2 w2, .slice t3 l3 w3, .slice t4 l4 w4, .slice t5 l5 w5] 58) := dd2_6
  have m1 := (kS2.block _ (lt_of_block dk1) (by simp; omega)).trans dk1
  have m0 := (kS2.block _ (lt_of_block dk0) (by simp; omega)).trans dk0
  have gv : w.grownBy (((((((u2.setCell ⟨p2, 2, none⟩ (.int .i64 p.k)).setCell ⟨p2, 3, none⟩ (.int .i64 p.n)).setCell ⟨p2, 4, none⟩ (.slice t1 l1 w1)).setCell ⟨p2, 5, none⟩ (.slice t2 l2 w2)).setCell ⟨p2, 6, none⟩ (.slice t3 l3 w3)).setCell ⟨p2, 7, none⟩ (.slice t4 l4 w4)).setCell ⟨p2, 8, none⟩ (.slice t5 l5 w5)) none := grown_into g2 kS2 (by omega)
  have hcl : CLe (hideW u2 (p2 + 1)) (hideW (((((((u2.setCell ⟨p2, 2, none⟩ (.int .i64 p.k)).setCell ⟨p2, 3, none⟩ (.int .i64 p.n)).setCell ⟨p2, 4, none⟩ (.slice t1 l1 w1)).setCell ⟨p2, 5, none⟩ (.slice t2 l2 w2)).setCell ⟨p2, 6, none⟩ (.slice t3 l3 w3)).setCell ⟨p2, 7, none⟩ (.slice t4 l4 w4)).setCell ⟨p2, 8, none⟩ (.slice t5 l5 w5)) (p2 + 1)) := hid_into kS2 (by omega)
  have L3 : Hid (w.grownBy (((((((u2.setCell ⟨p2, 2, none⟩ (.int .i64 p.k)).setCell ⟨p2, 3, none⟩ (.int .i64 p.n)).setCell ⟨p2, 4, none⟩ (.slice t1 l1 w1)).setCell ⟨p2, 5, none⟩ (.slice t2 l2 w2)).setCell ⟨p2, 6, none⟩ (.slice t3 l3 w3)).setCell ⟨p2, 7, none⟩ (.slice t4 l4 w4)).setCell ⟨p2, 8, none⟩ (.slice t5 l5 w5)) none ∧ (((((((u2.setCell ⟨p2, 2, none⟩ (.int .i64 p.k)).setCell ⟨p2, 3, none⟩ (.int .i64 p.n)).setCell ⟨p2, 4, none⟩ (.slice t1 l1 w1)).setCell ⟨p2, 5, none⟩ (.slice t2 l2 w2)).setCell ⟨p2, 6, none⟩ (.slice t3 l3 w3)).setCell ⟨p2, 7, none⟩ (.slice t4 l4 w4)).setCell ⟨p2, 8, none⟩ (.slice t5 l5 w5)).heap[p0]? = some (Obj.cells #[.slice e0 q0 d0, .slice e1 q1 d1, .int .i64 p.k, .int .i64 p.n, .slice a1 l1 c1, .slice a2 l2 c2, .slice a3 l3 c3, .slice a4 l4 c4, .slice a5 l5 c5] 50) ∧ (((((((u2.setCell ⟨p2, 2, none⟩ (.int .i64 p.k)).setCell ⟨p2, 3, none⟩ (.int .i64 p.n)).setCell ⟨p2, 4, none⟩ (.slice t1 l1 w1)).setCell ⟨p2, 5, none⟩ (.slice t2 l2 w2)).setCell ⟨p2, 6, none⟩ (.slice t3 l3 w3)).setCell ⟨p2, 7, none⟩ (.slice t4 l4 w4)).setCell ⟨p2, 8, none⟩ (.slice t5 l5 w5)).heap[p1]? = some (Obj.cells #[.slice none 0 0, .slice none 0 0, .int .i64 0, .int .i64 0, .slice none 0 0, .slice none 0 0, .slice none 0 0, .slice none 0 0, .slice none 0 0] 58) ∧ (((((((u2.setCell ⟨p2, 2, none⟩ (.int .i64 p.k)).setCell ⟨p2, 3, none⟩ (.int .i64 p.n)).setCell ⟨p2, 4, none⟩ (.slice t1 l1 w1)).setCell ⟨p2, 5, none⟩ (.slice t2 l2 w2)).setCell ⟨p2, 6, none⟩ (.slice t3 l3 w3)).setCell ⟨p2, 7, none⟩ (.slice t4 l4 w4)).setCell ⟨p2, 8, none⟩ (.slice t5 l5 w5)).heap[p2]? = some (Obj.cells #[.slice (some ⟨rr0, 0, none⟩) q0 q0, .slice rr1 q1 ss1, .int .i64 p.k, .int .i64 p.n, .slice t1 l1 w1, .slice t2 l2 w2, .slice t3 l3 w3, .slice t4 l4 w4, .slice t5 l5 w5] 58) ∧ (w.heap.size = p0 ∧ p0 + 1 = p1 ∧ p1 + 1 = p2) ∧ RdB (hideW (((((((u2.setCell ⟨p2, 2, none⟩ (.int .i64 p.k)).setCell ⟨p2, 3, none⟩ (.int .i64 p.n)).setCell ⟨p2, 4, none⟩ (.slice t1 l1 w1)).setCell ⟨p2, 5, none⟩ (.slice t2 l2 w2)).setCell ⟨p2, 6, none⟩ (.slice t3 l3 w3)).setCell ⟨p2, 7, none⟩ (.slice t4 l4 w4)).setCell ⟨p2, 8, none⟩ (.slice t5 l5 w5)) (p2 + 1)) (some ⟨rr0, 0, none⟩) q0 hc ∧ SlSC (hideW (((((((u2.setCell ⟨p2, 2, none⟩ (.int .i64 p.k)).setCell ⟨p2, 3, none⟩ (.int .i64 p.n)).setCell ⟨p2, 4, none⟩ (.slice t1 l1 w1)).setCell ⟨p2, 5, none⟩ (.slice t2 l2 w2)).setCell ⟨p2, 6, none⟩ (.slice t3 l3 w3)).setCell ⟨p2, 7, none⟩ (.slice t4 l4 w4)).setCell ⟨p2, 8, none⟩ (.slice t5 l5 w5)) (p2 + 1)) rr1 q1 ss1 hv ∧ NdE (hideW (((((((u2.setCell ⟨p2, 2, none⟩ (.int .i64 p.k)).setCell ⟨p2, 3, none⟩ (.int .i64 p.n)).setCell ⟨p2, 4, none⟩ (.slice t1 l1 w1)).setCell ⟨p2, 5, none⟩ (.slice t2 l2 w2)).setCell ⟨p2, 6, none⟩ (.slice t3 l3 w3)).setCell ⟨p2, 7, none⟩ (.slice t4 l4 w4)).setCell ⟨p2, 8, none⟩ (.slice t5 l5 w5)) (p2 + 1)) p kids alts t1 l1 w1 t2 l2 w2 t3 l3 w3 t4 l4 w4 t5 l5 w5) := ⟨gv, m0, m1, m2, ⟨ee0, ee1, ee2⟩, nw0.le hcl, nw1.le hcl, nw2.le hcl⟩
  obtain ⟨mf, kf⟩ := fillEA (.slice (some ⟨rr0, 0, none⟩) q0 q0) (.slice rr1 q1 ss1) (.int .i64 p.k) (.int .i64 p.n) (.slice t1 l1 w1) (.slice t2 l2 w2) (.slice t3 l3 w3) (.slice t4 l4 w4) (.slice t5 l5 w5) m1
  have GF := grown_into gv kf (by omega)
  have hcf := hid_into (lo := p2 + 1) kf (by omega)
  have FQ : Hid _ := And.intro mf (And.intro GF (show RdB (hideW _ p0) (some ⟨rr0, 0, none⟩) q0 hc ∧ SlSC (hideW _ p0) rr1 q1 ss1 hv ∧ NdE (hideW _ p0) p kids alts t1 l1 w1 t2 l2 w2 t3 l3 w3 t4 l4 w4 t5 l5 w5 from ⟨((nw0.le hcl).le hcf).le (hid_low (lo := p2 + 1) (lo' := p0) (by omega)), ((nw1.le hcl).le hcf).le (hid_low (lo := p2 + 1) (lo' := p0) (by omega)), ((nw2.le hcl).le hcf).le (hid_low (lo := p2 + 1) (lo' := p0) (by omega))⟩))
  obtain ⟨⟨y0, y1, y2, y3, y4, y5, y6, y7, y8⟩, -⟩ := blkEA dk0
  obtain ⟨⟨zz0, zz1, zz2, zz3, zz4, zz5, zz6, zz7, zz8⟩, hfz⟩ := blkEA dk2
  have ff0 := hfz 2
  have ff1 := hfz 3
  have ff2 := hfz 4
  have ff3 := hfz 5
  have ff4 := hfz 6
  have ff5 := hfz 7
  have ff6 := hfz 8
  have MM : Hid ((((((((u2.setCell ⟨p2, 2, none⟩ (.int .i64 p.k)).setCell ⟨p2, 3, none⟩ (.int .i64 p.n)).setCell ⟨p2, 4, none⟩ (.slice t1 l1 w1)).setCell ⟨p2, 5, none⟩ (.slice t2 l2 w2)).setCell ⟨p2, 6, none⟩ (.slice t3 l3 w3)).setCell ⟨p2, 7, none⟩ (.slice t4 l4 w4)).setCell ⟨p2, 8, none⟩ (.slice t5 l5 w5)).heap[p2]? = some (Obj.cells #[.slice (some ⟨rr0, 0, none⟩) q0 q0, .slice rr1 q1 ss1, .int .i64 p.k, .int .i64 p.n, .slice t1 l1 w1, .slice t2 l2 w2, .slice t3 l3 w3, .slice t4 l4 w4, .slice t5 l5 w5] 58) ∧ (((((((u2.setCell ⟨p2, 2, none⟩ (.int .i64 p.k)).setCell ⟨p2, 3, none⟩ (.int .i64 p.n)).setCell ⟨p2, 4, none⟩ (.slice t1 l1 w1)).setCell ⟨p2, 5, none⟩ (.slice t2 l2 w2)).setCell ⟨p2, 6, none⟩ (.slice t3 l3 w3)).setCell ⟨p2, 7, none⟩ (.slice t4 l4 w4)).setCell ⟨p2, 8, none⟩ (.slice t5 l5 w5)).heap[p1]? = some (Obj.cells #[.slice none 0 0, .slice none 0 0, .int .i64 0, .int .i64 0, .slice none 0 0, .slice none 0 0, .slice none 0 0, .slice none 0 0, .slice none 0 0] 58)) := ⟨m2, m1⟩
  clear kS2 dd2_0 dd2_1 dd2_2 dd2_3 dd2_4 dd2_5 dd2_6 m2 m1 m0 gv hcl dk0 dk1 dk2 g2 hfz  nw0 nw1 nw2 mf kf GF hcf L3
  have p12 : p2 ≠ p1 := by omega
  simp only []
  go_upto_region 5 with fail
  clear y0 y1 y2 y3 y4 y5 y6 y7 y8 zz0 zz1 zz2 zz3 zz4 zz5 zz6 zz7 zz8 ff0 ff1 ff2 ff3 ff4 ff5 ff6
  generalize (((((((u2.setCell ⟨p2, 2, none⟩ (.int .i64 p.k)).setCell ⟨p2, 3, none⟩ (.int .i64 p.n)).setCell ⟨p2, 4, none⟩ (.slice t1 l1 w1)).setCell ⟨p2, 5, none⟩ (.slice t2 l2 w2)).setCell ⟨p2, 6, none⟩ (.slice t3 l3 w3)).setCell ⟨p2, 7, none⟩ (.slice t4 l4 w4)).setCell ⟨p2, 8, none⟩ (.slice t5 l5 w5)) = v at *
  obtain ⟨⟨zz0, zz1, zz2, zz3, zz4, zz5, zz6, zz7, zz8⟩, -⟩ := blkEA MM.out.1
  obtain ⟨⟨x0, x1, x2, x3, x4, x5, x6, x7, x8⟩, hfx⟩ := blkEA MM.out.2
  have fx0 := hfx 0
  have fx1 := hfx 1
  have fx2 := hfx 2
  have fx3 := hfx 3
  have fx4 := hfx 4
  have fx5 := hfx 5
  have fx6 := hfx 6
  have fx7 := hfx 7
  have fx8 := hfx 8
  clear hfx MM
  go_wp2
  (try simp only [Exit.inBlock, Exit.then])
  refine bodyPost_ret (results_cell_row (P := Tryd.prog) Tryd.results27 _ _ p1 _ _ _ _ rfl FQ.out.1 Tryd.underlying58 rfl (by kernel_rfl)) rfl ?_
  refine ⟨some ⟨rr0, 0, none⟩, q0, rr1, ss1, t1, w1, t2, w2, t3, w3, t4, w4, t5, w5, rfl, ?_⟩
  rw [ee0]
  exact FQ.out.2
end Go.Proofs.YtjjaocoahepdaaaDoor.By
