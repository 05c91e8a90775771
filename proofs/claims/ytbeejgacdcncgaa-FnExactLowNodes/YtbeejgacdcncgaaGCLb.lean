/-
  The law's own copies of Low nodes, by their contracts. No statement is proved here.
-/
import Derived.Test.YtbeejgacdcncgaaGCLa
namespace Go.Proofs.Ytbeejgacdcncgaa.By
open Go.RowKit
set_option linter.unusedVariables false
set_option linter.unusedSimpArgs false

set_option maxRecDepth 8000 in
set_option maxHeartbeats 8000000 in
theorem toLT_of (p : PL) (kids alts : GL) (a1 : Option Addr) (l1 c1 : Nat) (a2 : Option Addr) (l2 c2 : Nat) (a3 : Option Addr) (l3 c3 : Nat) (a4 : Option Addr) (l4 c4 : Nat) (a5 : Option Addr) (l5 c5 : Nat) (w : World) (h : NdL w p kids alts a1 l1 a2 l2 a3 l3 a4 l4 a5 l5) (hs : szPL p ≤ 1048576)
    (Hk : ∀ u, w.grownBy u none → Calls Try.prog 16 #[.slice a4 l4 c4] u fun e v => ∃ a' c', e = .returned (.slice a' l4 c') ∧ u.grownBy v none ∧ SlGL (hideW v u.heap.size) false a' l4 kids)
    (Ha : ∀ u, w.grownBy u none → Calls Try.prog 17 #[.slice a5 l5 c5] u fun e v => ∃ a' c', e = .returned (.slice a' l5 c') ∧ u.grownBy v none ∧ SlGL (hideW v u.heap.size) true a' l5 alts) :
    Calls Try.prog 6 #[.agg #[.int .i64 p.k, .int .i64 p.n, .int .i64 p.m, .int .i64 p.c, .slice a1 l1 c1, .int .i64 p.tk, .int .i64 p.tn, .slice a2 l2 c2, .int .i64 p.uk, .int .i64 p.un, .slice a3 l3 c3, .slice a4 l4 c4, .slice a5 l5 c5]] w fun e u => ∃ t1 w1 t2 w2 t3 w3 t4 w4 t5 w5, e = .returned (.agg #[.int .i64 p.k, .int .i64 p.n, .int .i64 p.m, .int .i64 p.c, .slice t1 l1 w1, .int .i64 p.tk, .int .i64 p.tn, .slice t2 l2 w2, .int .i64 p.uk, .int .i64 p.un, .slice t3 l3 w3, .slice t4 l4 w4, .slice t5 l5 w5]) ∧ w.grownBy u none ∧ NdL (hideW u w.heap.size) p kids alts t1 l1 t2 l2 t3 l3 t4 l4 t5 l5 := by
  have HK : Hid _ := Hk
  have HA : Hid _ := Ha
  have HS : Hid (szPL p ≤ 1048576) := hs
  have HY : Hid (NdL w p kids alts a1 l1 a2 l2 a3 l3 a4 l4 a5 l5) := h
  have HN : Hid (∀ u, w.grownBy u none → NdL u p kids alts a1 l1 a2 l2 a3 l3 a4 l4 a5 l5) := fun u hu => h.none hu
  clear Hk Ha h hs
  obtain ⟨b0, b1, b2, bsz⟩ := alloc3_blocks w (.cells #[.int .i64 p.k, .int .i64 p.n, .int .i64 p.m, .int .i64 p.c, .slice a1 l1 c1, .int .i64 p.tk, .int .i64 p.tn, .slice a2 l2 c2, .int .i64 p.uk, .int .i64 p.un, .slice a3 l3 c3, .slice a4 l4 c4, .slice a5 l5 c5] 29) (.cells #[.int .i64 0, .int .i64 0, .int .i64 0, .int .i64 0, .slice none 0 0, .int .i64 0, .int .i64 0, .slice none 0 0, .int .i64 0, .int .i64 0, .slice none 0 0, .slice none 0 0, .slice none 0 0] 38) (.cells #[.int .i64 p.k, .int .i64 p.n, .int .i64 p.m, .int .i64 p.c, .slice none 0 0, .int .i64 0, .int .i64 0, .slice none 0 0, .int .i64 0, .int .i64 0, .slice none 0 0, .slice none 0 0, .slice none 0 0] 38)
  have g0 := grown_alloc (grown_alloc (grown_alloc (World.grownBy.refl w none) (.cells #[.int .i64 p.k, .int .i64 p.n, .int .i64 p.m, .int .i64 p.c, .slice a1 l1 c1, .int .i64 p.tk, .int .i64 p.tn, .slice a2 l2 c2, .int .i64 p.uk, .int .i64 p.un, .slice a3 l3 c3, .slice a4 l4 c4, .slice a5 l5 c5] 29)) (.cells #[.int .i64 0, .int .i64 0, .int .i64 0, .int .i64 0, .slice none 0 0, .int .i64 0, .int .i64 0, .slice none 0 0, .int .i64 0, .int .i64 0, .slice none 0 0, .slice none 0 0, .slice none 0 0] 38)) (.cells #[.int .i64 p.k, .int .i64 p.n, .int .i64 p.m, .int .i64 p.c, .slice none 0 0, .int .i64 0, .int .i64 0, .slice none 0 0, .int .i64 0, .int .i64 0, .slice none 0 0, .slice none 0 0, .slice none 0 0] 38)
  have L0 : Hid (w.grownBy _ none ∧ _ = some (Obj.cells #[.int .i64 p.k, .int .i64 p.n, .int .i64 p.m, .int .i64 p.c, .slice a1 l1 c1, .int .i64 p.tk, .int .i64 p.tn, .slice a2 l2 c2, .int .i64 p.uk, .int .i64 p.un, .slice a3 l3 c3, .slice a4 l4 c4, .slice a5 l5 c5] 29) ∧ _ = some (Obj.cells #[.int .i64 0, .int .i64 0, .int .i64 0, .int .i64 0, .slice none 0 0, .int .i64 0, .int .i64 0, .slice none 0 0, .int .i64 0, .int .i64 0, .slice none 0 0, .slice none 0 0, .slice none 0 0] 38) ∧ _ = some (Obj.cells #[.int .i64 p.k, .int .i64 p.n, .int .i64 p.m, .int .i64 p.c, .slice none 0 0, .int .i64 0, .int .i64 0, .slice none 0 0, .int .i64 0, .int .i64 0, .slice none 0 0, .slice none 0 0, .slice none 0 0] 38) ∧ _ = w.heap.size + 1 + 1 + 1) := ⟨g0, b0, b1, b2, bsz⟩
  have C0 : Hid _ := toB a1 l1 c1 (p.lit) _ ((HN.out _ g0).1).1 (by have := HS.out; have := (HN.out _ g0).1.1.1; unfold szPL at *; omega)
  obtain ⟨⟨y0, y1, y2, y3, y4, y5, y6, y7, y8, y9, y10, y11, y12⟩, -⟩ := blkL b0
  clear g0 b0 b1 b2 bsz
  go_enter Try.func6, Try.ntmps6
  go_wp2_with fail
  refine Calls.mono C0.out ?_
  rintro e u0 ⟨r1, he, hg, hgl, hrow⟩
  subst he
  obtain ⟨gv, ck0, ck1, ck2, hsz⟩ := L0.out
  have dk0 := (hg.block _ (lt_of_block ck0) (by simp)).trans ck0
  have dk1 := (hg.block _ (lt_of_block ck1) (by simp)).trans ck1
  have dk2 := (hg.block _ (lt_of_block ck2) (by simp)).trans ck2
  have g2 := grown_trans gv hg
  have hlo := Nat.le_of_eq hsz.symm
  have hhs := hg.size
  generalize ee0 : w.heap.size = p0 at *
  generalize ee1 : p0 + 1 = p1 at *
  generalize ee2 : p1 + 1 = p2 at *
  have nw0 := hrow.hid (HY.out.1).2.1 (HY.out.1).1.1 (by have := HS.out; have := (HY.out.1).1.1; unfold szPL at *; omega) (lo := p2 + 1) (by omega)
  clear C0 L0 gv ck0 ck1 ck2 hsz hg hgl hrow hlo hhs y0 y1 y2 y3 y4 y5 y6 y7 y8 y9 y10 y11 y12
  have n02 : p0 ≠ p2 := by omega
  have n12 : p1 ≠ p2 := by omega
  have n01 : p0 ≠ p1 := by omega
  have kS0 : u0.grownBy (u0.setCell ⟨p2, 4, none⟩ (.slice (some ⟨r1, 0, none⟩) l1 l1)) (some p2) := grown_trans (World.grownBy.refl _ _) (grown_setCell _ _ _ _)
  have dd0_0 : (u0.setCell ⟨p2, 4, none⟩ (.slice (some ⟨r1, 0, none⟩) l1 l1)).heap[p2]? = some (Obj.cells #[.int .i64 p.k, .int .i64 p.n, .int .i64 p.m, .int .i64 p.c, .slice (some ⟨r1, 0, none⟩) l1 l1, .int .i64 0, .int .i64 0, .slice none 0 0, .int .i64 0, .int .i64 0, .slice none 0 0, .slice none 0 0, .slice none 0 0] 38) := heap_setCell_same _ p2 4 _ _ (.slice (some ⟨r1, 0, none⟩) l1 l1) dk2
  have m2 : (u0.setCell ⟨p2, 4, none⟩ (.slice (some ⟨r1, 0, none⟩) l1 l1)).heap[p2]? = some (Obj.cells #[.int .i64 p.k, .int .i64 p.n, .int .i64 p.m, .int .i64 p.c, .slice (some ⟨r1, 0, none⟩) l1 l1, .int .i64 0, .int .i64 0, .slice none 0 0, .int .i64 0, .int .i64 0, .slice none 0 0, .slice none 0 0, .slice none 0 0] 38) := dd0_0
  have m1 := (kS0.block _ (lt_of_block dk1) (by simp; omega)).trans dk1
  have m0 := (kS0.block _ (lt_of_block dk0) (by simp; omega)).trans dk0
  have gv : w.grownBy (u0.setCell ⟨p2, 4, none⟩ (.slice (some ⟨r1, 0, none⟩) l1 l1)) none := grown_into g2 kS0 (by omega)
  have hcl : CLe (hideW u0 (p2 + 1)) (hideW (u0.setCell ⟨p2, 4, none⟩ (.slice (some ⟨r1, 0, none⟩) l1 l1)) (p2 + 1)) := hid_into kS0 (by omega)
  have L1 : Hid (w.grownBy (u0.setCell ⟨p2, 4, none⟩ (.slice (some ⟨r1, 0, none⟩) l1 l1)) none ∧ (u0.setCell ⟨p2, 4, none⟩ (.slice (some ⟨r1, 0, none⟩) l1 l1)).heap[p0]? = some (Obj.cells #[.int .i64 p.k, .int .i64 p.n, .int .i64 p.m, .int .i64 p.c, .slice a1 l1 c1, .int .i64 p.tk, .int .i64 p.tn, .slice a2 l2 c2, .int .i64 p.uk, .int .i64 p.un, .slice a3 l3 c3, .slice a4 l4 c4, .slice a5 l5 c5] 29) ∧ (u0.setCell ⟨p2, 4, none⟩ (.slice (some ⟨r1, 0, none⟩) l1 l1)).heap[p1]? = some (Obj.cells #[.int .i64 0, .int .i64 0, .int .i64 0, .int .i64 0, .slice none 0 0, .int .i64 0, .int .i64 0, .slice none 0 0, .int .i64 0, .int .i64 0, .slice none 0 0, .slice none 0 0, .slice none 0 0] 38) ∧ (u0.setCell ⟨p2, 4, none⟩ (.slice (some ⟨r1, 0, none⟩) l1 l1)).heap[p2]? = some (Obj.cells #[.int .i64 p.k, .int .i64 p.n, .int .i64 p.m, .int .i64 p.c, .slice (some ⟨r1, 0, none⟩) l1 l1, .int .i64 0, .int .i64 0, .slice none 0 0, .int .i64 0, .int .i64 0, .slice none 0 0, .slice none 0 0, .slice none 0 0] 38) ∧ (w.heap.size = p0 ∧ p0 + 1 = p1 ∧ p1 + 1 = p2) ∧ RdB (hideW (u0.setCell ⟨p2, 4, none⟩ (.slice (some ⟨r1, 0, none⟩) l1 l1)) (p2 + 1)) (some ⟨r1, 0, none⟩) l1 (p.lit)) := ⟨gv, m0, m1, m2, ⟨ee0, ee1, ee2⟩, nw0.le hcl⟩
  have C1 : Hid _ := toTr (p.tf) p.tk p.tn a2 l2 c2 (u0.setCell ⟨p2, 4, none⟩ (.slice (some ⟨r1, 0, none⟩) l1 l1)) ((HN.out (u0.setCell ⟨p2, 4, none⟩ (.slice (some ⟨r1, 0, none⟩) l1 l1)) gv).2.1) (by have := HS.out; unfold szPL at *; omega)
  obtain ⟨⟨y0, y1, y2, y3, y4, y5, y6, y7, y8, y9, y10, y11, y12⟩, -⟩ := blkL dk0
  obtain ⟨⟨zz0, zz1, zz2, zz3, zz4, zz5, zz6, zz7, zz8, zz9, zz10, zz11, zz12⟩, hfz⟩ := blkL dk2
  have ff0 := hfz 4
  clear kS0 dd0_0 m2 m1 m0 gv hcl dk0 dk1 dk2 g2 ee0 ee1 ee2 hfz nw0
  simp only []
  go_wp2_with fail
  refine Calls.mono C1.out ?_
  rintro e u1 ⟨r2, s2, bs2, he, hg, hN⟩
  subst he
  obtain ⟨gv, ck0, ck1, ck2, ⟨ee0, ee1, ee2⟩, ow0⟩ := L1.out
  have dk0 := (hg.block _ (lt_of_block ck0) (by simp)).trans ck0
  have dk1 := (hg.block _ (lt_of_block ck1) (by simp)).trans ck1
  have dk2 := (hg.block _ (lt_of_block ck2) (by simp)).trans ck2
  have g2 := grown_trans gv hg
  have hlo : p2 + 1 ≤ (u0.setCell ⟨p2, 4, none⟩ (.slice (some ⟨r1, 0, none⟩) l1 l1)).heap.size := lt_of_block ck2
  have hhs := hg.size
  have nw1 := hN.hid (lo := p2 + 1) hlo
  have nw0 := ow0.le (hid_grown (lo := p2 + 1) hg)
  clear C1 L1 gv ck0 ck1 ck2 hg hN hlo hhs ow0 y0 y1 y2 y3 y4 y5 y6 y7 y8 y9 y10 y11 y12 zz0 zz1 zz2 zz3 zz4 zz5 zz6 zz7 zz8 zz9 zz10 zz11 zz12 ff0
  have kS1 : u1.grownBy (((u1.setCell ⟨p2, 5, none⟩ (.int .i64 p.tk)).setCell ⟨p2, 6, none⟩ (.int .i64 p.tn)).setCell ⟨p2, 7, none⟩ (.slice r2 l2 s2)) (some p2) := grown_trans (grown_trans (grown_trans (World.grownBy.refl _ _) (grown_setCell _ _ _ _)) (grown_setCell _ _ _ _)) (grown_setCell _ _ _ _)
  have dd1_0 : (u1.setCell ⟨p2, 5, none⟩ (.int .i64 p.tk)).heap[p2]? = some (Obj.cells #[.int .i64 p.k, .int .i64 p.n, .int .i64 p.m, .int .i64 p.c, .slice (some ⟨r1, 0, none⟩) l1 l1, .int .i64 p.tk, .int .i64 0, .slice none 0 0, .int .i64 0, .int .i64 0, .slice none 0 0, .slice none 0 0, .slice none 0 0] 38) := heap_setCell_same _ p2 5 _ _ (.int .i64 p.tk) dk2
  have dd1_1 : ((u1.setCell ⟨p2, 5, none⟩ (.int .i64 p.tk)).setCell ⟨p2, 6, none⟩ (.int .i64 p.tn)).heap[p2]? = some (Obj.cells #[.int .i64 p.k, .int .i64 p.n, .int .i64 p.m, .int .i64 p.c, .slice (some ⟨r1, 0, none⟩) l1 l1, .int .i64 p.tk, .int .i64 p.tn, .slice none 0 0, .int .i64 0, .int .i64 0, .slice none 0 0, .slice none 0 0, .slice none 0 0] 38) := heap_setCell_same _ p2 6 _ _ (.int .i64 p.tn) dd1_0
  have dd1_2 : (((u1.setCell ⟨p2, 5, none⟩ (.int .i64 p.tk)).setCell ⟨p2, 6, none⟩ (.int .i64 p.tn)).setCell ⟨p2, 7, none⟩ (.slice r2 l2 s2)).heap[p2]? = some (Obj.cells #[.int .i64 p.k, .int .i64 p.n, .int .i64 p.m, .int .i64 p.c, .slice (some ⟨r1, 0, none⟩) l1 l1, .int .i64 p.tk, .int .i64 p.tn, .slice r2 l2 s2, .int .i64 0, .int .i64 0, .slice none 0 0, .slice none 0 0, .slice none 0 0] 38) := heap_setCell_same _ p2 7 _ _ (.slice r2 l2 s2) dd1_1
  have m2 : (((u1.setCell ⟨p2, 5, none⟩ (.int .i64 p.tk)).setCell ⟨p2, 6, none⟩ (.int .i64 p.tn)).setCell ⟨p2, 7, none⟩ (.slice r2 l2 s2)).heap[p2]? = some (Obj.cells #[.int .i64 p.k, .int .i64 p.n, .int .i64 p.m, .int .i64 p.c, .slice (some ⟨r1, 0, none⟩) l1 l1, .int .i64 p.tk, .int .i64 p.tn, .slice r2 l2 s2, .int .i64 0, .int .i64 0, .slice none 0 0, .slice none 0 0, .slice none 0 0] 38) := dd1_2
  have m1 := (kS1.block _ (lt_of_block dk1) (by simp; omega)).trans dk1
  have m0 := (kS1.block _ (lt_of_block dk0) (by simp; omega)).trans dk0
  have gv : w.grownBy (((u1.setCell ⟨p2, 5, none⟩ (.int .i64 p.tk)).setCell ⟨p2, 6, none⟩ (.int .i64 p.tn)).setCell ⟨p2, 7, none⟩ (.slice r2 l2 s2)) none := grown_into g2 kS1 (by omega)
  have hcl : CLe (hideW u1 (p2 + 1)) (hideW (((u1.setCell ⟨p2, 5, none⟩ (.int .i64 p.tk)).setCell ⟨p2, 6, none⟩ (.int .i64 p.tn)).setCell ⟨p2, 7, none⟩ (.slice r2 l2 s2)) (p2 + 1)) := hid_into kS1 (by omega)
  have L2 : Hid (w.grownBy (((u1.setCell ⟨p2, 5, none⟩ (.int .i64 p.tk)).setCell ⟨p2, 6, none⟩ (.int .i64 p.tn)).setCell ⟨p2, 7, none⟩ (.slice r2 l2 s2)) none ∧ (((u1.setCell ⟨p2, 5, none⟩ (.int .i64 p.tk)).setCell ⟨p2, 6, none⟩ (.int .i64 p.tn)).setCell ⟨p2, 7, none⟩ (.slice r2 l2 s2)).heap[p0]? = some (Obj.cells #[.int .i64 p.k, .int .i64 p.n, .int .i64 p.m, .int .i64 p.c, .slice a1 l1 c1, .int .i64 p.tk, .int .i64 p.tn, .slice a2 l2 c2, .int .i64 p.uk, .int .i64 p.un, .slice a3 l3 c3, .slice a4 l4 c4, .slice a5 l5 c5] 29) ∧ (((u1.setCell ⟨p2, 5, none⟩ (.int .i64 p.tk)).setCell ⟨p2, 6, none⟩ (.int .i64 p.tn)).setCell ⟨p2, 7, none⟩ (.slice r2 l2 s2)).heap[p1]? = some (Obj.cells #[.int .i64 0, .int .i64 0, .int .i64 0, .int .i64 0, .slice none 0 0, .int .i64 0, .int .i64 0, .slice none 0 0, .int .i64 0, .int .i64 0, .slice none 0 0, .slice none 0 0, .slice none 0 0] 38) ∧ (((u1.setCell ⟨p2, 5, none⟩ (.int .i64 p.tk)).setCell ⟨p2, 6, none⟩ (.int .i64 p.tn)).setCell ⟨p2, 7, none⟩ (.slice r2 l2 s2)).heap[p2]? = some (Obj.cells #[.int .i64 p.k, .int .i64 p.n, .int .i64 p.m, .int .i64 p.c, .slice (some ⟨r1, 0, none⟩) l1 l1, .int .i64 p.tk, .int .i64 p.tn, .slice r2 l2 s2, .int .i64 0, .int .i64 0, .slice none 0 0, .slice none 0 0, .slice none 0 0] 38) ∧ (w.heap.size = p0 ∧ p0 + 1 = p1 ∧ p1 + 1 = p2) ∧ RdB (hideW (((u1.setCell ⟨p2, 5, none⟩ (.int .i64 p.tk)).setCell ⟨p2, 6, none⟩ (.int .i64 p.tn)).setCell ⟨p2, 7, none⟩ (.slice r2 l2 s2)) (p2 + 1)) (some ⟨r1, 0, none⟩) l1 (p.lit) ∧ SlF (hideW (((u1.setCell ⟨p2, 5, none⟩ (.int .i64 p.tk)).setCell ⟨p2, 6, none⟩ (.int .i64 p.tn)).setCell ⟨p2, 7, none⟩ (.slice r2 l2 s2)) (p2 + 1)) r2 l2 (p.tf)) := ⟨gv, m0, m1, m2, ⟨ee0, ee1, ee2⟩, nw0.le hcl, nw1.le hcl⟩
  have C2 : Hid _ := toTr (p.uf) p.uk p.un a3 l3 c3 (((u1.setCell ⟨p2, 5, none⟩ (.int .i64 p.tk)).setCell ⟨p2, 6, none⟩ (.int .i64 p.tn)).setCell ⟨p2, 7, none⟩ (.slice r2 l2 s2)) ((HN.out (((u1.setCell ⟨p2, 5, none⟩ (.int .i64 p.tk)).setCell ⟨p2, 6, none⟩ (.int .i64 p.tn)).setCell ⟨p2, 7, none⟩ (.slice r2 l2 s2)) gv).2.2.1) (by have := HS.out; unfold szPL at *; omega)
  obtain ⟨⟨y0, y1, y2, y3, y4, y5, y6, y7, y8, y9, y10, y11, y12⟩, -⟩ := blkL dk0
  obtain ⟨⟨zz0, zz1, zz2, zz3, zz4, zz5, zz6, zz7, zz8, zz9, zz10, zz11, zz12⟩, hfz⟩ := blkL dk2
  have ff0 := hfz 5
  have ff1 := hfz 6
  have ff2 := hfz 7
  clear kS1 dd1_0 dd1_1 dd1_2 m2 m1 m0 gv hcl dk0 dk1 dk2 g2 ee0 ee1 ee2 hfz nw0 nw1
  simp only []
  go_wp2_with fail
  refine Calls.mono C2.out ?_
  rintro e u2 ⟨r3, s3, bs3, he, hg, hN⟩
  subst he
  obtain ⟨gv, ck0, ck1, ck2, ⟨ee0, ee1, ee2⟩, ow0, ow1⟩ := L2.out
  have dk0 := (hg.block _ (lt_of_block ck0) (by simp)).trans ck0
  have dk1 := (hg.block _ (lt_of_block ck1) (by simp)).trans ck1
  have dk2 := (hg.block _ (lt_of_block ck2) (by simp)).trans ck2
  have g2 := grown_trans gv hg
  have hlo : p2 + 1 ≤ (((u1.setCell ⟨p2, 5, none⟩ (.int .i64 p.tk)).setCell ⟨p2, 6, none⟩ (.int .i64 p.tn)).setCell ⟨p2, 7, none⟩ (.slice r2 l2 s2)).heap.size := lt_of_block ck2
  have hhs := hg.size
  have nw2 := hN.hid (lo := p2 + 1) hlo
  have nw0 := ow0.le (hid_grown (lo := p2 + 1) hg)
  have nw1 := ow1.le (hid_grown (lo := p2 + 1) hg)
  clear C2 L2 gv ck0 ck1 ck2 hg hN hlo hhs ow0 ow1 y0 y1 y2 y3 y4 y5 y6 y7 y8 y9 y10 y11 y12 zz0 zz1 zz2 zz3 zz4 zz5 zz6 zz7 zz8 zz9 zz10 zz11 zz12 ff0 ff1 ff2
  have kS2 : u2.grownBy (((u2.setCell ⟨p2, 8, none⟩ (.int .i64 p.uk)).setCell ⟨p2, 9, none⟩ (.int .i64 p.un)).setCell ⟨p2, 10, none⟩ (.slice r3 l3 s3)) (some p2) := grown_trans (grown_trans (grown_trans (World.grownBy.refl _ _) (grown_setCell _ _ _ _)) (grown_setCell _ _ _ _)) (grown_setCell _ _ _ _)
  have dd2_0 : (u2.setCell ⟨p2, 8, none⟩ (.int .i64 p.uk)).heap[p2]? = some (Obj.cells #[.int .i64 p.k, .int .i64 p.n, .int .i64 p.m, .int .i64 p.c, .slice (some ⟨r1, 0, none⟩) l1 l1, .int .i64 p.tk, .int .i64 p.tn, .slice r2 l2 s2, .int .i64 p.uk, .int .i64 0, .slice none 0 0, .slice none 0 0, .slice none 0 0] 38) := heap_setCell_same _ p2 8 _ _ (.int .i64 p.uk) dk2
  have dd2_1 : ((u2.setCell ⟨p2, 8, none⟩ (.int .i64 p.uk)).setCell ⟨p2, 9, none⟩ (.int .i64 p.un)).heap[p2]? = some (Obj.cells #[.int .i64 p.k, .int .i64 p.n, .int .i64 p.m, .int .i64 p.c, .slice (some ⟨r1, 0, none⟩) l1 l1, .int .i64 p.tk, .int .i64 p.tn, .slice r2 l2 s2, .int .i64 p.uk, .int .i64 p.un, .slice none 0 0, .slice none 0 0, .slice none 0 0] 38) := heap_setCell_same _ p2 9 _ _ (.int .i64 p.un) dd2_0
  have dd2_2 : (((u2.setCell ⟨p2, 8, none⟩ (.int .i64 p.uk)).setCell ⟨p2, 9, none⟩ (.int .i64 p.un)).setCell ⟨p2, 10, none⟩ (.slice r3 l3 s3)).heap[p2]? = some (Obj.cells #[.int .i64 p.k, .int .i64 p.n, .int .i64 p.m, .int .i64 p.c, .slice (some ⟨r1, 0, none⟩) l1 l1, .int .i64 p.tk, .int .i64 p.tn, .slice r2 l2 s2, .int .i64 p.uk, .int .i64 p.un, .slice r3 l3 s3, .slice none 0 0, .slice none 0 0] 38) := heap_setCell_same _ p2 10 _ _ (.slice r3 l3 s3) dd2_1
  have m2 : (((u2.setCell ⟨p2, 8, none⟩ (.int .i64 p.uk)).setCell ⟨p2, 9, none⟩ (.int .i64 p.un)).setCell ⟨p2, 10, none⟩ (.slice r3 l3 s3)).heap[p2]? = some (Obj.cells #[.int .i64 p.k, .int .i64 p.n, .int .i64 p.m, .int .i64 p.c, .slice (some ⟨r1, 0, none⟩) l1 l1, .int .i64 p.tk, .int .i64 p.tn, .slice r2 l2 s2, .int .i64 p.uk, .int .i64 p.un, .slice r3 l3 s3, .slice none 0 0, .slice none 0 0] 38) := dd2_2
  have m1 := (kS2.block _ (lt_of_block dk1) (by simp; omega)).trans dk1
  have m0 := (kS2.block _ (lt_of_block dk0) (by simp; omega)).trans dk0
  have gv : w.grownBy (((u2.setCell ⟨p2, 8, none⟩ (.int .i64 p.uk)).setCell ⟨p2, 9, none⟩ (.int .i64 p.un)).setCell ⟨p2, 10, none⟩ (.slice r3 l3 s3)) none := grown_into g2 kS2 (by omega)
  have hcl : CLe (hideW u2 (p2 + 1)) (hideW (((u2.setCell ⟨p2, 8, none⟩ (.int .i64 p.uk)).setCell ⟨p2, 9, none⟩ (.int .i64 p.un)).setCell ⟨p2, 10, none⟩ (.slice r3 l3 s3)) (p2 + 1)) := hid_into kS2 (by omega)
  have L3 : Hid (w.grownBy (((u2.setCell ⟨p2, 8, none⟩ (.int .i64 p.uk)).setCell ⟨p2, 9, none⟩ (.int .i64 p.un)).setCell ⟨p2, 10, none⟩ (.slice r3 l3 s3)) none ∧ (((u2.setCell ⟨p2, 8, none⟩ (.int .i64 p.uk)).setCell ⟨p2, 9, none⟩ (.int .i64 p.un)).setCell ⟨p2, 10, none⟩ (.slice r3 l3 s3)).heap[p0]? = some (Obj.cells #[.int .i64 p.k, .int .i64 p.n, .int .i64 p.m, .int .i64 p.c, .slice a1 l1 c1, .int .i64 p.tk, .int .i64 p.tn, .slice a2 l2 c2, .int .i64 p.uk, .int .i64 p.un, .slice a3 l3 c3, .slice a4 l4 c4, .slice a5 l5 c5] 29) ∧ (((u2.setCell ⟨p2, 8, none⟩ (.int .i64 p.uk)).setCell ⟨p2, 9, none⟩ (.int .i64 p.un)).setCell ⟨p2, 10, none⟩ (.slice r3 l3 s3)).heap[p1]? = some (Obj.cells #[.int .i64 0, .int .i64 0, .int .i64 0, .int .i64 0, .slice none 0 0, .int .i64 0, .int .i64 0, .slice none 0 0, .int .i64 0, .int .i64 0, .slice none 0 0, .slice none 0 0, .slice none 0 0] 38) ∧ (((u2.setCell ⟨p2, 8, none⟩ (.int .i64 p.uk)).setCell ⟨p2, 9, none⟩ (.int .i64 p.un)).setCell ⟨p2, 10, none⟩ (.slice r3 l3 s3)).heap[p2]? = some (Obj.cells #[.int .i64 p.k, .int .i64 p.n, .int .i64 p.m, .int .i64 p.c, .slice (some ⟨r1, 0, none⟩) l1 l1, .int .i64 p.tk, .int .i64 p.tn, .slice r2 l2 s2, .int .i64 p.uk, .int .i64 p.un, .slice r3 l3 s3, .slice none 0 0, .slice none 0 0] 38) ∧ (w.heap.size = p0 ∧ p0 + 1 = p1 ∧ p1 + 1 = p2) ∧ RdB (hideW (((u2.setCell ⟨p2, 8, none⟩ (.int .i64 p.uk)).setCell ⟨p2, 9, none⟩ (.int .i64 p.un)).setCell ⟨p2, 10, none⟩ (.slice r3 l3 s3)) (p2 + 1)) (some ⟨r1, 0, none⟩) l1 (p.lit) ∧ SlF (hideW (((u2.setCell ⟨p2, 8, none⟩ (.int .i64 p.uk)).setCell ⟨p2, 9, none⟩ (.int .i64 p.un)).setCell ⟨p2, 10, none⟩ (.slice r3 l3 s3)) (p2 + 1)) r2 l2 (p.tf) ∧ SlF (hideW (((u2.setCell ⟨p2, 8, none⟩ (.int .i64 p.uk)).setCell ⟨p2, 9, none⟩ (.int .i64 p.un)).setCell ⟨p2, 10, none⟩ (.slice r3 l3 s3)) (p2 + 1)) r3 l3 (p.uf)) := ⟨gv, m0, m1, m2, ⟨ee0, ee1, ee2⟩, nw0.le hcl, nw1.le hcl, nw2.le hcl⟩
  have C3 : Hid _ := HK.out (((u2.setCell ⟨p2, 8, none⟩ (.int .i64 p.uk)).setCell ⟨p2, 9, none⟩ (.int .i64 p.un)).setCell ⟨p2, 10, none⟩ (.slice r3 l3 s3)) gv
  obtain ⟨⟨y0, y1, y2, y3, y4, y5, y6, y7, y8, y9, y10, y11, y12⟩, -⟩ := blkL dk0
  obtain ⟨⟨zz0, zz1, zz2, zz3, zz4, zz5, zz6, zz7, zz8, zz9, zz10, zz11, zz12⟩, hfz⟩ := blkL dk2
  have ff0 := hfz 8
  have ff1 := hfz 9
  have ff2 := hfz 10
  clear kS2 dd2_0 dd2_1 dd2_2 m2 m1 m0 gv hcl dk0 dk1 dk2 g2 ee0 ee1 ee2 hfz nw0 nw1 nw2
  simp only []
  go_wp2_with fail
  refine Calls.mono C3.out ?_
  rintro e u3 ⟨r4, s4, he, hg, hN⟩
  subst he
  obtain ⟨gv, ck0, ck1, ck2, ⟨ee0, ee1, ee2⟩, ow0, ow1, ow2⟩ := L3.out
  have dk0 := (hg.block _ (lt_of_block ck0) (by simp)).trans ck0
  have dk1 := (hg.block _ (lt_of_block ck1) (by simp)).trans ck1
  have dk2 := (hg.block _ (lt_of_block ck2) (by simp)).trans ck2
  have g2 := grown_trans gv hg
  have hlo : p2 + 1 ≤ (((u2.setCell ⟨p2, 8, none⟩ (.int .i64 p.uk)).setCell ⟨p2, 9, none⟩ (.int .i64 p.un)).setCell ⟨p2, 10, none⟩ (.slice r3 l3 s3)).heap.size := lt_of_block ck2
  have hhs := hg.size
  have nw3 := hN.le (hid_low (lo' := p2 + 1) hlo)
  have nw0 := ow0.le (hid_grown (lo := p2 + 1) hg)
  have nw1 := ow1.le (hid_grown (lo := p2 + 1) hg)
  have nw2 := ow2.le (hid_grown (lo := p2 + 1) hg)
  clear C3 L3 gv ck0 ck1 ck2 hg hN hlo hhs ow0 ow1 ow2 y0 y1 y2 y3 y4 y5 y6 y7 y8 y9 y10 y11 y12 zz0 zz1 zz2 zz3 zz4 zz5 zz6 zz7 zz8 zz9 zz10 zz11 zz12 ff0 ff1 ff2
  have kS3 : u3.grownBy (u3.setCell ⟨p2, 11, none⟩ (.slice r4 l4 s4)) (some p2) := grown_trans (World.grownBy.refl _ _) (grown_setCell _ _ _ _)
  have dd3_0 : (u3.setCell ⟨p2, 11, none⟩ (.slice r4 l4 s4)).heap[p2]? = some (Obj.cells #[.int .i64 p.k, .int .i64 p.n, .int .i64 p.m, .int .i64 p.c, .slice (some ⟨r1, 0, none⟩) l1 l1, .int .i64 p.tk, .int .i64 p.tn, .slice r2 l2 s2, .int .i64 p.uk, .int .i64 p.un, .slice r3 l3 s3, .slice r4 l4 s4, .slice none 0 0] 38) := heap_setCell_same _ p2 11 _ _ (.slice r4 l4 s4) dk2
  have m2 : (u3.setCell ⟨p2, 11, none⟩ (.slice r4 l4 s4)).heap[p2]? = some (Obj.cells #[.int .i64 p.k, .int .i64 p.n, .int .i64 p.m, .int .i64 p.c, .slice (some ⟨r1, 0, none⟩) l1 l1, .int .i64 p.tk, .int .i64 p.tn, .slice r2 l2 s2, .int .i64 p.uk, .int .i64 p.un, .slice r3 l3 s3, .slice r4 l4 s4, .slice none 0 0] 38) := dd3_0
  have m1 := (kS3.block _ (lt_of_block dk1) (by simp; omega)).trans dk1
  have m0 := (kS3.block _ (lt_of_block dk0) (by simp; omega)).trans dk0
  have gv : w.grownBy (u3.setCell ⟨p2, 11, none⟩ (.slice r4 l4 s4)) none := grown_into g2 kS3 (by omega)
  have hcl : CLe (hideW u3 (p2 + 1)) (hideW (u3.setCell ⟨p2, 11, none⟩ (.slice r4 l4 s4)) (p2 + 1)) := hid_into kS3 (by omega)
  have L4 : Hid (w.grownBy (u3.setCell ⟨p2, 11, none⟩ (.slice r4 l4 s4)) none ∧ (u3.setCell ⟨p2, 11, none⟩ (.slice r4 l4 s4)).heap[p0]? = some (Obj.cells #[.int .i64 p.k, .int .i64 p.n, .int .i64 p.m, .int .i64 p.c, .slice a1 l1 c1, .int .i64 p.tk, .int .i64 p.tn, .slice a2 l2 c2, .int .i64 p.uk, .int .i64 p.un, .slice a3 l3 c3, .slice a4 l4 c4, .slice a5 l5 c5] 29) ∧ (u3.setCell ⟨p2, 11, none⟩ (.slice r4 l4 s4)).heap[p1]? = some (Obj.cells #[.int .i64 0, .int .i64 0, .int .i64 0, .int .i64 0, .slice none 0 0, .int .i64 0, .int .i64 0, .slice none 0 0, .int .i64 0, .int .i64 0, .slice none 0 0, .slice none 0 0, .slice none 0 0] 38) ∧ (u3.setCell ⟨p2, 11, none⟩ (.slice r4 l4 s4)).heap[p2]? = some (Obj.cells #[.int .i64 p.k, .int .i64 p.n, .int .i64 p.m, .int .i64 p.c, .slice (some ⟨r1, 0, none⟩) l1 l1, .int .i64 p.tk, .int .i64 p.tn, .slice r2 l2 s2, .int .i64 p.uk, .int .i64 p.un, .slice r3 l3 s3, .slice r4 l4 s4, .slice none 0 0] 38) ∧ (w.heap.size = p0 ∧ p0 + 1 = p1 ∧ p1 + 1 = p2) ∧ RdB (hideW (u3.setCell ⟨p2, 11, none⟩ (.slice r4 l4 s4)) (p2 + 1)) (some ⟨r1, 0, none⟩) l1 (p.lit) ∧ SlF (hideW (u3.setCell ⟨p2, 11, none⟩ (.slice r4 l4 s4)) (p2 + 1)) r2 l2 (p.tf) ∧ SlF (hideW (u3.setCell ⟨p2, 11, none⟩ (.slice r4 l4 s4)) (p2 + 1)) r3 l3 (p.uf) ∧ SlGL (hideW (u3.setCell ⟨p2, 11, none⟩ (.slice r4 l4 s4)) (p2 + 1)) false r4 l4 kids) := ⟨gv, m0, m1, m2, ⟨ee0, ee1, ee2⟩, nw0.le hcl, nw1.le hcl, nw2.le hcl, nw3.le hcl⟩
  have C4 : Hid _ := HA.out (u3.setCell ⟨p2, 11, none⟩ (.slice r4 l4 s4)) gv
  obtain ⟨⟨y0, y1, y2, y3, y4, y5, y6, y7, y8, y9, y10, y11, y12⟩, -⟩ := blkL dk0
  obtain ⟨⟨zz0, zz1, zz2, zz3, zz4, zz5, zz6, zz7, zz8, zz9, zz10, zz11, zz12⟩, hfz⟩ := blkL dk2
  have ff0 := hfz 11
  clear kS3 dd3_0 m2 m1 m0 gv hcl dk0 dk1 dk2 g2 ee0 ee1 ee2 hfz nw0 nw1 nw2 nw3
  simp only []
  go_wp2_with fail
  refine Calls.mono C4.out ?_
  rintro e u4 ⟨r5, s5, he, hg, hN⟩
  subst he
  obtain ⟨gv, ck0, ck1, ck2, ⟨ee0, ee1, ee2⟩, ow0, ow1, ow2, ow3⟩ := L4.out
  have dk0 := (hg.block _ (lt_of_block ck0) (by simp)).trans ck0
  have dk1 := (hg.block _ (lt_of_block ck1) (by simp)).trans ck1
  have dk2 := (hg.block _ (lt_of_block ck2) (by simp)).trans ck2
  have g2 := grown_trans gv hg
  have hlo : p2 + 1 ≤ (u3.setCell ⟨p2, 11, none⟩ (.slice r4 l4 s4)).heap.size := lt_of_block ck2
  have hhs := hg.size
  have nw4 := hN.le (hid_low (lo' := p2 + 1) hlo)
  have nw0 := ow0.le (hid_grown (lo := p2 + 1) hg)
  have nw1 := ow1.le (hid_grown (lo := p2 + 1) hg)
  have nw2 := ow2.le (hid_grown (lo := p2 + 1) hg)
  have nw3 := ow3.le (hid_grown (lo := p2 + 1) hg)
  clear C4 L4 gv ck0 ck1 ck2 hg hN hlo hhs ow0 ow1 ow2 ow3 y0 y1 y2 y3 y4 y5 y6 y7 y8 y9 y10 y11 y12 zz0 zz1 zz2 zz3 zz4 zz5 zz6 zz7 zz8 zz9 zz10 zz11 zz12 ff0
  have kS4 : u4.grownBy (u4.setCell ⟨p2, 12, none⟩ (.slice r5 l5 s5)) (some p2) := grown_trans (World.grownBy.refl _ _) (grown_setCell _ _ _ _)
  have dd4_0 : (u4.setCell ⟨p2, 12, none⟩ (.slice r5 l5 s5)).heap[p2]? = some (Obj.cells #[.int .i64 p.k, .int .i64 p.n, .int .i64 p.m, .int .i64 p.c, .slice (some ⟨r1, 0, none⟩) l1 l1, .int .i64 p.tk, .int .i64 p.tn, .slice r2 l2 s2, .int .i64 p.uk, .int .i64 p.un, .slice r3 l3 s3, .slice r4 l4 s4, .slice r5 l5 s5] 38) := heap_setCell_same _ p2 12 _ _ (.slice r5 l5 s5) dk2
  have m2 : (u4.setCell ⟨p2, 12, none⟩ (.slice r5 l5 s5)).heap[p2]? = some (Obj.cells #[.int .i64 p.k, .int .i64 p.n, .int .i64 p.m, .int .i64 p.c, .slice (some ⟨r1, 0, none⟩) l1 l1, .int .i64 p.tk, .int .i64 p.tn, .slice r2 l2 s2, .int .i64 p.uk, .int .i64 p.un, .slice r3 l3 s3, .slice r4 l4 s4, .slice r5 l5 s5] 38) := dd4_0
  have m1 := (kS4.block _ (lt_of_block dk1) (by simp; omega)).trans dk1
  have m0 := (kS4.block _ (lt_of_block dk0) (by simp; omega)).trans dk0
  have gv : w.grownBy (u4.setCell ⟨p2, 12, none⟩ (.slice r5 l5 s5)) none := grown_into g2 kS4 (by omega)
  have hcl : CLe (hideW u4 (p2 + 1)) (hideW (u4.setCell ⟨p2, 12, none⟩ (.slice r5 l5 s5)) (p2 + 1)) := hid_into kS4 (by omega)
  have L5 : Hid (w.grownBy (u4.setCell ⟨p2, 12, none⟩ (.slice r5 l5 s5)) none ∧ (u4.setCell ⟨p2, 12, none⟩ (.slice r5 l5 s5)).heap[p0]? = some (Obj.cells #[.int .i64 p.k, .int .i64 p.n, .int .i64 p.m, .int .i64 p.c, .slice a1 l1 c1, .int .i64 p.tk, .int .i64 p.tn, .slice a2 l2 c2, .int .i64 p.uk, .int .i64 p.un, .slice a3 l3 c3, .slice a4 l4 c4, .slice a5 l5 c5] 29) ∧ (u4.setCell ⟨p2, 12, none⟩ (.slice r5 l5 s5)).heap[p1]? = some (Obj.cells #[.int .i64 0, .int .i64 0, .int .i64 0, .int .i64 0, .slice none 0 0, .int .i64 0, .int .i64 0, .slice none 0 0, .int .i64 0, .int .i64 0, .slice none 0 0, .slice none 0 0, .slice none 0 0] 38) ∧ (u4.setCell ⟨p2, 12, none⟩ (.slice r5 l5 s5)).heap[p2]? = some (Obj.cells #[.int .i64 p.k, .int .i64 p.n, .int .i64 p.m, .int .i64 p.c, .slice (some ⟨r1, 0, none⟩) l1 l1, .int .i64 p.tk, .int .i64 p.tn, .slice r2 l2 s2, .int .i64 p.uk, .int .i64 p.un, .slice r3 l3 s3, .slice r4 l4 s4, .slice r5 l5 s5] 38) ∧ (w.heap.size = p0 ∧ p0 + 1 = p1 ∧ p1 + 1 = p2) ∧ RdB (hideW (u4.setCell ⟨p2, 12, none⟩ (.slice r5 l5 s5)) (p2 + 1)) (some ⟨r1, 0, none⟩) l1 (p.lit) ∧ SlF (hideW (u4.setCell ⟨p2, 12, none⟩ (.slice r5 l5 s5)) (p2 + 1)) r2 l2 (p.tf) ∧ SlF (hideW (u4.setCell ⟨p2, 12, none⟩ (.slice r5 l5 s5)) (p2 + 1)) r3 l3 (p.uf) ∧ SlGL (hideW (u4.setCell ⟨p2, 12, none⟩ (.slice r5 l5 s5)) (p2 + 1)) false r4 l4 kids ∧ SlGL (hideW (u4.setCell ⟨p2, 12, none⟩ (.slice r5 l5 s5)) (p2 + 1)) true r5 l5 alts) := ⟨gv, m0, m1, m2, ⟨ee0, ee1, ee2⟩, nw0.le hcl, nw1.le hcl, nw2.le hcl, nw3.le hcl, nw4.le hcl⟩
  obtain ⟨mf, kf⟩ := fillL (.int .i64 p.k) (.int .i64 p.n) (.int .i64 p.m) (.int .i64 p.c) (.slice (some ⟨r1, 0, none⟩) l1 l1) (.int .i64 p.tk) (.int .i64 p.tn) (.slice r2 l2 s2) (.int .i64 p.uk) (.int .i64 p.un) (.slice r3 l3 s3) (.slice r4 l4 s4) (.slice r5 l5 s5) m1
  have GF := grown_into gv kf (by omega)
  have hcf := hid_into (lo := p2 + 1) kf (by omega)
  have FQ : Hid _ := And.intro mf (And.intro GF (show NdL (hideW _ p0) p kids alts (some ⟨r1, 0, none⟩) l1 (r2) l2 (r3) l3 (r4) l4 (r5) l5 from ⟨((nw0.le hcl).le hcf).le (hid_low (lo := p2 + 1) (lo' := p0) (by omega)), ((nw1.le hcl).le hcf).le (hid_low (lo := p2 + 1) (lo' := p0) (by omega)), ((nw2.le hcl).le hcf).le (hid_low (lo := p2 + 1) (lo' := p0) (by omega)), ((nw3.le hcl).le hcf).le (hid_low (lo := p2 + 1) (lo' := p0) (by omega)), ((nw4.le hcl).le hcf).le (hid_low (lo := p2 + 1) (lo' := p0) (by omega))⟩))
  obtain ⟨⟨y0, y1, y2, y3, y4, y5, y6, y7, y8, y9, y10, y11, y12⟩, -⟩ := blkL dk0
  obtain ⟨⟨zz0, zz1, zz2, zz3, zz4, zz5, zz6, zz7, zz8, zz9, zz10, zz11, zz12⟩, hfz⟩ := blkL dk2
  obtain ⟨⟨x0, x1, x2, x3, x4, x5, x6, x7, x8, x9, x10, x11, x12⟩, hfx⟩ := blkL dk1
  have ff0 := hfz 12
  have fx0 := hfx 0
  have fx1 := hfx 1
  have fx2 := hfx 2
  have fx3 := hfx 3
  have fx4 := hfx 4
  have fx5 := hfx 5
  have fx6 := hfx 6
  have fx7 := hfx 7
  have fx8 := hfx 8
  have fx9 := hfx 9
  have fx10 := hfx 10
  have fx11 := hfx 11
  have fx12 := hfx 12
  clear kS4 dd4_0 m2 m1 m0 gv hcl dk0 dk1 dk2 g2 hfz hfx nw0 nw1 nw2 nw3 nw4 mf kf GF hcf L5
  have p12 : p2 ≠ p1 := by omega
  simp only []
  go_wp2
  (try simp only [Exit.inBlock, Exit.then])
  refine bodyPost_ret (results_cell_row (P := Try.prog) Try.results6 _ _ p1 _ _ _ _ rfl FQ.out.1 Try.underlying38 rfl (by kernel_rfl)) rfl ?_
  refine ⟨some ⟨r1, 0, none⟩, l1, r2, s2, r3, s3, r4, s4, r5, s5, rfl, ?_⟩
  rw [ee0]
  exact FQ.out.2
end Go.Proofs.Ytbeejgacdcncgaa.By
