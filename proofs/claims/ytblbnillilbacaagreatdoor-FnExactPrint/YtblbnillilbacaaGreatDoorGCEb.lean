/-
 The law's own copies of Expr nodes, by their contracts. No statement is proved here.
-/
import Derived.Test.YtblbnillilbacaaGreatDoorGCEaAlso
namespace Go.Proofs.YtblbnillilbacaaGreatDoor.By
open Go.RowKit
set_option linter.unusedVariables false
set_option linter.unusedSimpArgs false
set_option maxRecDepth 8000 in
set_option maxHeartbeats 8000000 in
theorem toET_of (p:PE) (kids alts:GE) (a1:Option Addr) (l1 c1:Nat) (a2:Option Addr) (l2 c2:Nat) (a3:Option Addr) (l3 c3:Nat) (a4:Option Addr) (l4 c4:Nat) (a5:Option Addr) (l5 c5:Nat) (w:World) (h:NdE w p kids alts a1 l1 c1 a2 l2 c2 a3 l3 c3 a4 l4 c4 a5 l5 c5) (hs:szPE p≤1048576)
  (Hk:∀ u,w.grownBy u none→Calls Tryz.prog 59 #[.slice a4 l4 c4] u fun e v=>∃ a' c',e = .returned (.slice a' l4 c')∧u.grownBy v none∧SlGE (hideZ v u.heap.size) false a' l4 c' kids)
  (Ha:∀ u,w.grownBy u none→Calls Tryz.prog 60 #[.slice a5 l5 c5] u fun e v=>∃ a' c',e = .returned (.slice a' l5 c')∧u.grownBy v none∧SlGE (hideZ v u.heap.size) true a' l5 c' alts) :
  Calls Tryz.prog 28 #[.agg #[.int .i64 p.k,.int .i64 p.n,.slice a1 l1 c1,.slice a2 l2 c2,.slice a3 l3 c3,.slice a4 l4 c4,.slice a5 l5 c5]] w fun e u=>∃ t1 w1 t2 w2 t3 w3 t4 w4 t5 w5,e = .returned (.agg #[.int .i64 p.k,.int .i64 p.n,.slice t1 l1 w1,.slice t2 l2 w2,.slice t3 l3 w3,.slice t4 l4 w4,.slice t5 l5 w5])∧w.grownBy u none∧NdE (hideZ u w.heap.size) p kids alts t1 l1 w1 t2 l2 w2 t3 l3 w3 t4 l4 w4 t5 l5 w5:=by
 have HK:Hid _:=Hk
 have HA:Hid _:=Ha
 have HS:Hid (szPE p≤1048576):=hs
 have HY:Hid (NdE w p kids alts a1 l1 c1 a2 l2 c2 a3 l3 c3 a4 l4 c4 a5 l5 c5):=h
 have HN:Hid (∀ u,w.grownBy u none→NdE u p kids alts a1 l1 c1 a2 l2 c2 a3 l3 c3 a4 l4 c4 a5 l5 c5):=fun u hu=>h.none hu
 clear Hk Ha h hs
 obtain ⟨b0,b1,b2,bsz⟩:=alloc3_blocks w (.cells #[.int .i64 p.k,.int .i64 p.n,.slice a1 l1 c1,.slice a2 l2 c2,.slice a3 l3 c3,.slice a4 l4 c4,.slice a5 l5 c5] 27) (.cells #[.int .i64 0,.int .i64 0,.slice none 0 0,.slice none 0 0,.slice none 0 0,.slice none 0 0,.slice none 0 0] 36) (.cells #[.int .i64 p.k,.int .i64 p.n,.slice none 0 0,.slice none 0 0,.slice none 0 0,.slice none 0 0,.slice none 0 0] 36)
 have g0:=grown_alloc (grown_alloc (grown_alloc (World.grownBy.refl w none) (.cells #[.int .i64 p.k,.int .i64 p.n,.slice a1 l1 c1,.slice a2 l2 c2,.slice a3 l3 c3,.slice a4 l4 c4,.slice a5 l5 c5] 27)) (.cells #[.int .i64 0,.int .i64 0,.slice none 0 0,.slice none 0 0,.slice none 0 0,.slice none 0 0,.slice none 0 0] 36)) (.cells #[.int .i64 p.k,.int .i64 p.n,.slice none 0 0,.slice none 0 0,.slice none 0 0,.slice none 0 0,.slice none 0 0] 36)
 have L0:Hid (w.grownBy _ none∧_=some (Obj.cells #[.int .i64 p.k,.int .i64 p.n,.slice a1 l1 c1,.slice a2 l2 c2,.slice a3 l3 c3,.slice a4 l4 c4,.slice a5 l5 c5] 27)∧_=some (Obj.cells #[.int .i64 0,.int .i64 0,.slice none 0 0,.slice none 0 0,.slice none 0 0,.slice none 0 0,.slice none 0 0] 36)∧_=some (Obj.cells #[.int .i64 p.k,.int .i64 p.n,.slice none 0 0,.slice none 0 0,.slice none 0 0,.slice none 0 0,.slice none 0 0] 36)∧_=w.heap.size+1+1+1):=⟨g0,b0,b1,b2,bsz⟩
 have C0:Hid _:=toB a1 l1 c1 (p.name) _ ((HN.out _ g0).1).1 (by have:=HS.out;have:=(HN.out _ g0).1.1.1;unfold szPE at *;omega)
 obtain ⟨⟨y0,y1,y2,y3,y4,y5,y6⟩,-⟩:=blkE b0
 clear g0 b0 b1 b2 bsz
 go_enter Tryz.func28,Tryz.ntmps28
 go_wp2_with fail
 refine Calls.mono C0.out ?_
 rintro e u0 ⟨r1,he,hg,hgl,hrow⟩
 subst he
 obtain ⟨gv,ck0,ck1,ck2,hsz⟩:=L0.out
 have dk0:=(hg.block _ (lt_of_block ck0) (by simp)).trans ck0
 have dk1:=(hg.block _ (lt_of_block ck1) (by simp)).trans ck1
 have dk2:=(hg.block _ (lt_of_block ck2) (by simp)).trans ck2
 have g2:=grown_trans gv hg
 have hlo:=Nat.le_of_eq hsz.symm
 have hhs:=hg.size
 generalize ee0:w.heap.size=p0 at *
 generalize ee1:p0+1=p1 at *
 generalize ee2:p1+1=p2 at *
 have nw0:=hrow.hiz (HY.out.1).2.1 (HY.out.1).1.1 (by have:=HS.out;have:=(HY.out.1).1.1;unfold szPE at *;omega) (lo:=p2+1) (by omega)
 clear C0 L0 gv ck0 ck1 ck2 hsz hg hgl hrow hlo hhs y0 y1 y2 y3 y4 y5 y6
 have n02:p0≠p2:=by omega
 have n12:p1≠p2:=by omega
 have n01:p0≠p1:=by omega
 have kS0:u0.grownBy (u0.setCell ⟨p2,2,none⟩ (.slice (some ⟨r1,0,none⟩) l1 l1)) (some p2):=grown_trans (World.grownBy.refl _ _) (grown_setCell _ _ _ _)
 have dd0_0:(u0.setCell ⟨p2,2,none⟩ (.slice (some ⟨r1,0,none⟩) l1 l1)).heap[p2]? = some (Obj.cells #[.int .i64 p.k,.int .i64 p.n,.slice (some ⟨r1,0,none⟩) l1 l1,.slice none 0 0,.slice none 0 0,.slice none 0 0,.slice none 0 0] 36):=heap_setCell_same _ p2 2 _ _ (.slice (some ⟨r1,0,none⟩) l1 l1) dk2
 have m2:(u0.setCell ⟨p2,2,none⟩ (.slice (some ⟨r1,0,none⟩) l1 l1)).heap[p2]? = some (Obj.cells #[.int .i64 p.k,.int .i64 p.n,.slice (some ⟨r1,0,none⟩) l1 l1,.slice none 0 0,.slice none 0 0,.slice none 0 0,.slice none 0 0] 36):=dd0_0
 have m1:=(kS0.block _ (lt_of_block dk1) (by simp;omega)).trans dk1
 have m0:=(kS0.block _ (lt_of_block dk0) (by simp;omega)).trans dk0
 have gv:w.grownBy (u0.setCell ⟨p2,2,none⟩ (.slice (some ⟨r1,0,none⟩) l1 l1)) none:=grown_into g2 kS0 (by omega)
 have hcl:CLe (hideZ u0 (p2+1)) (hideZ (u0.setCell ⟨p2,2,none⟩ (.slice (some ⟨r1,0,none⟩) l1 l1)) (p2+1)):=hiz_into kS0 (by omega)
 have L1:Hid (w.grownBy (u0.setCell ⟨p2,2,none⟩ (.slice (some ⟨r1,0,none⟩) l1 l1)) none∧(u0.setCell ⟨p2,2,none⟩ (.slice (some ⟨r1,0,none⟩) l1 l1)).heap[p0]? = some (Obj.cells #[.int .i64 p.k,.int .i64 p.n,.slice a1 l1 c1,.slice a2 l2 c2,.slice a3 l3 c3,.slice a4 l4 c4,.slice a5 l5 c5] 27)∧(u0.setCell ⟨p2,2,none⟩ (.slice (some ⟨r1,0,none⟩) l1 l1)).heap[p1]? = some (Obj.cells #[.int .i64 0,.int .i64 0,.slice none 0 0,.slice none 0 0,.slice none 0 0,.slice none 0 0,.slice none 0 0] 36)∧(u0.setCell ⟨p2,2,none⟩ (.slice (some ⟨r1,0,none⟩) l1 l1)).heap[p2]? = some (Obj.cells #[.int .i64 p.k,.int .i64 p.n,.slice (some ⟨r1,0,none⟩) l1 l1,.slice none 0 0,.slice none 0 0,.slice none 0 0,.slice none 0 0] 36)∧(w.heap.size=p0∧p0+1=p1∧p1+1=p2)∧RdB (hideZ (u0.setCell ⟨p2,2,none⟩ (.slice (some ⟨r1,0,none⟩) l1 l1)) (p2+1)) (some ⟨r1,0,none⟩) l1 (p.name)):=⟨gv,m0,m1,m2,⟨ee0,ee1,ee2⟩,nw0.le hcl⟩
 have C1:Hid _:=toB a2 l2 c2 (p.arg) (u0.setCell ⟨p2,2,none⟩ (.slice (some ⟨r1,0,none⟩) l1 l1)) ((HN.out (u0.setCell ⟨p2,2,none⟩ (.slice (some ⟨r1,0,none⟩) l1 l1)) gv).2.1).1 (by have:=HS.out;have:=(HN.out (u0.setCell ⟨p2,2,none⟩ (.slice (some ⟨r1,0,none⟩) l1 l1)) gv).2.1.1.1;unfold szPE at *;omega)
 obtain ⟨⟨y0,y1,y2,y3,y4,y5,y6⟩,-⟩:=blkE dk0
 obtain ⟨⟨zz0,zz1,zz2,zz3,zz4,zz5,zz6⟩,hfz⟩:=blkE dk2
 have ff0:=hfz 2
 clear kS0 dd0_0 m2 m1 m0 gv hcl dk0 dk1 dk2 g2 ee0 ee1 ee2 hfz nw0
 simp only[]
 go_wp2_with fail
 refine Calls.mono C1.out ?_
 rintro e u1 ⟨r2,he,hg,hgl,hrow⟩
 subst he
 obtain ⟨gv,ck0,ck1,ck2,⟨ee0,ee1,ee2⟩,ow0⟩:=L1.out
 have dk0:=(hg.block _ (lt_of_block ck0) (by simp)).trans ck0
 have dk1:=(hg.block _ (lt_of_block ck1) (by simp)).trans ck1
 have dk2:=(hg.block _ (lt_of_block ck2) (by simp)).trans ck2
 have g2:=grown_trans gv hg
 have hlo:p2+1≤(u0.setCell ⟨p2,2,none⟩ (.slice (some ⟨r1,0,none⟩) l1 l1)).heap.size:=lt_of_block ck2
 have hhs:=hg.size
 have nw1:=hrow.hiz (HY.out.2.1).2.1 (HY.out.2.1).1.1 (by have:=HS.out;have:=(HY.out.2.1).1.1;unfold szPE at *;omega) (lo:=p2+1) (by omega)
 have nw0:=ow0.le (hiz_grown (lo:=p2+1) hg)
 clear C1 L1 gv ck0 ck1 ck2 hg hgl hrow hlo hhs ow0 y0 y1 y2 y3 y4 y5 y6 zz0 zz1 zz2 zz3 zz4 zz5 zz6 ff0
 have kS1:u1.grownBy (u1.setCell ⟨p2,3,none⟩ (.slice (some ⟨r2,0,none⟩) l2 l2)) (some p2):=grown_trans (World.grownBy.refl _ _) (grown_setCell _ _ _ _)
 have dd1_0:(u1.setCell ⟨p2,3,none⟩ (.slice (some ⟨r2,0,none⟩) l2 l2)).heap[p2]? = some (Obj.cells #[.int .i64 p.k,.int .i64 p.n,.slice (some ⟨r1,0,none⟩) l1 l1,.slice (some ⟨r2,0,none⟩) l2 l2,.slice none 0 0,.slice none 0 0,.slice none 0 0] 36):=heap_setCell_same _ p2 3 _ _ (.slice (some ⟨r2,0,none⟩) l2 l2) dk2
 have m2:(u1.setCell ⟨p2,3,none⟩ (.slice (some ⟨r2,0,none⟩) l2 l2)).heap[p2]? = some (Obj.cells #[.int .i64 p.k,.int .i64 p.n,.slice (some ⟨r1,0,none⟩) l1 l1,.slice (some ⟨r2,0,none⟩) l2 l2,.slice none 0 0,.slice none 0 0,.slice none 0 0] 36):=dd1_0
 have m1:=(kS1.block _ (lt_of_block dk1) (by simp;omega)).trans dk1
 have m0:=(kS1.block _ (lt_of_block dk0) (by simp;omega)).trans dk0
 have gv:w.grownBy (u1.setCell ⟨p2,3,none⟩ (.slice (some ⟨r2,0,none⟩) l2 l2)) none:=grown_into g2 kS1 (by omega)
 have hcl:CLe (hideZ u1 (p2+1)) (hideZ (u1.setCell ⟨p2,3,none⟩ (.slice (some ⟨r2,0,none⟩) l2 l2)) (p2+1)):=hiz_into kS1 (by omega)
 have L2:Hid (w.grownBy (u1.setCell ⟨p2,3,none⟩ (.slice (some ⟨r2,0,none⟩) l2 l2)) none∧(u1.setCell ⟨p2,3,none⟩ (.slice (some ⟨r2,0,none⟩) l2 l2)).heap[p0]? = some (Obj.cells #[.int .i64 p.k,.int .i64 p.n,.slice a1 l1 c1,.slice a2 l2 c2,.slice a3 l3 c3,.slice a4 l4 c4,.slice a5 l5 c5] 27)∧(u1.setCell ⟨p2,3,none⟩ (.slice (some ⟨r2,0,none⟩) l2 l2)).heap[p1]? = some (Obj.cells #[.int .i64 0,.int .i64 0,.slice none 0 0,.slice none 0 0,.slice none 0 0,.slice none 0 0,.slice none 0 0] 36)∧(u1.setCell ⟨p2,3,none⟩ (.slice (some ⟨r2,0,none⟩) l2 l2)).heap[p2]? = some (Obj.cells #[.int .i64 p.k,.int .i64 p.n,.slice (some ⟨r1,0,none⟩) l1 l1,.slice (some ⟨r2,0,none⟩) l2 l2,.slice none 0 0,.slice none 0 0,.slice none 0 0] 36)∧(w.heap.size=p0∧p0+1=p1∧p1+1=p2)∧RdB (hideZ (u1.setCell ⟨p2,3,none⟩ (.slice (some ⟨r2,0,none⟩) l2 l2)) (p2+1)) (some ⟨r1,0,none⟩) l1 (p.name)∧RdB (hideZ (u1.setCell ⟨p2,3,none⟩ (.slice (some ⟨r2,0,none⟩) l2 l2)) (p2+1)) (some ⟨r2,0,none⟩) l2 (p.arg)):=⟨gv,m0,m1,m2,⟨ee0,ee1,ee2⟩,nw0.le hcl,nw1.le hcl⟩
 have C2:Hid _:=toB a3 l3 c3 (p.lit) (u1.setCell ⟨p2,3,none⟩ (.slice (some ⟨r2,0,none⟩) l2 l2)) ((HN.out (u1.setCell ⟨p2,3,none⟩ (.slice (some ⟨r2,0,none⟩) l2 l2)) gv).2.2.1).1 (by have:=HS.out;have:=(HN.out (u1.setCell ⟨p2,3,none⟩ (.slice (some ⟨r2,0,none⟩) l2 l2)) gv).2.2.1.1.1;unfold szPE at *;omega)
 obtain ⟨⟨y0,y1,y2,y3,y4,y5,y6⟩,-⟩:=blkE dk0
 obtain ⟨⟨zz0,zz1,zz2,zz3,zz4,zz5,zz6⟩,hfz⟩:=blkE dk2
 have ff0:=hfz 3
 clear kS1 dd1_0 m2 m1 m0 gv hcl dk0 dk1 dk2 g2 ee0 ee1 ee2 hfz nw0 nw1
 simp only[]
 go_wp2_with fail
 refine Calls.mono C2.out ?_
 rintro e u2 ⟨r3,he,hg,hgl,hrow⟩
 subst he
 obtain ⟨gv,ck0,ck1,ck2,⟨ee0,ee1,ee2⟩,ow0,ow1⟩:=L2.out
 have dk0:=(hg.block _ (lt_of_block ck0) (by simp)).trans ck0
 have dk1:=(hg.block _ (lt_of_block ck1) (by simp)).trans ck1
 have dk2:=(hg.block _ (lt_of_block ck2) (by simp)).trans ck2
 have g2:=grown_trans gv hg
 have hlo:p2+1≤(u1.setCell ⟨p2,3,none⟩ (.slice (some ⟨r2,0,none⟩) l2 l2)).heap.size:=lt_of_block ck2
 have hhs:=hg.size
 have nw2:=hrow.hiz (HY.out.2.2.1).2.1 (HY.out.2.2.1).1.1 (by have:=HS.out;have:=(HY.out.2.2.1).1.1;unfold szPE at *;omega) (lo:=p2+1) (by omega)
 have nw0:=ow0.le (hiz_grown (lo:=p2+1) hg)
 have nw1:=ow1.le (hiz_grown (lo:=p2+1) hg)
 clear C2 L2 gv ck0 ck1 ck2 hg hgl hrow hlo hhs ow0 ow1 y0 y1 y2 y3 y4 y5 y6 zz0 zz1 zz2 zz3 zz4 zz5 zz6 ff0
 have kS2:u2.grownBy (u2.setCell ⟨p2,4,none⟩ (.slice (some ⟨r3,0,none⟩) l3 l3)) (some p2):=grown_trans (World.grownBy.refl _ _) (grown_setCell _ _ _ _)
 have dd2_0:(u2.setCell ⟨p2,4,none⟩ (.slice (some ⟨r3,0,none⟩) l3 l3)).heap[p2]? = some (Obj.cells #[.int .i64 p.k,.int .i64 p.n,.slice (some ⟨r1,0,none⟩) l1 l1,.slice (some ⟨r2,0,none⟩) l2 l2,.slice (some ⟨r3,0,none⟩) l3 l3,.slice none 0 0,.slice none 0 0] 36):=heap_setCell_same _ p2 4 _ _ (.slice (some ⟨r3,0,none⟩) l3 l3) dk2
 have m2:(u2.setCell ⟨p2,4,none⟩ (.slice (some ⟨r3,0,none⟩) l3 l3)).heap[p2]? = some (Obj.cells #[.int .i64 p.k,.int .i64 p.n,.slice (some ⟨r1,0,none⟩) l1 l1,.slice (some ⟨r2,0,none⟩) l2 l2,.slice (some ⟨r3,0,none⟩) l3 l3,.slice none 0 0,.slice none 0 0] 36):=dd2_0
 have m1:=(kS2.block _ (lt_of_block dk1) (by simp;omega)).trans dk1
 have m0:=(kS2.block _ (lt_of_block dk0) (by simp;omega)).trans dk0
 have gv:w.grownBy (u2.setCell ⟨p2,4,none⟩ (.slice (some ⟨r3,0,none⟩) l3 l3)) none:=grown_into g2 kS2 (by omega)
 have hcl:CLe (hideZ u2 (p2+1)) (hideZ (u2.setCell ⟨p2,4,none⟩ (.slice (some ⟨r3,0,none⟩) l3 l3)) (p2+1)):=hiz_into kS2 (by omega)
 have L3:Hid (w.grownBy (u2.setCell ⟨p2,4,none⟩ (.slice (some ⟨r3,0,none⟩) l3 l3)) none∧(u2.setCell ⟨p2,4,none⟩ (.slice (some ⟨r3,0,none⟩) l3 l3)).heap[p0]? = some (Obj.cells #[.int .i64 p.k,.int .i64 p.n,.slice a1 l1 c1,.slice a2 l2 c2,.slice a3 l3 c3,.slice a4 l4 c4,.slice a5 l5 c5] 27)∧(u2.setCell ⟨p2,4,none⟩ (.slice (some ⟨r3,0,none⟩) l3 l3)).heap[p1]? = some (Obj.cells #[.int .i64 0,.int .i64 0,.slice none 0 0,.slice none 0 0,.slice none 0 0,.slice none 0 0,.slice none 0 0] 36)∧(u2.setCell ⟨p2,4,none⟩ (.slice (some ⟨r3,0,none⟩) l3 l3)).heap[p2]? = some (Obj.cells #[.int .i64 p.k,.int .i64 p.n,.slice (some ⟨r1,0,none⟩) l1 l1,.slice (some ⟨r2,0,none⟩) l2 l2,.slice (some ⟨r3,0,none⟩) l3 l3,.slice none 0 0,.slice none 0 0] 36)∧(w.heap.size=p0∧p0+1=p1∧p1+1=p2)∧RdB (hideZ (u2.setCell ⟨p2,4,none⟩ (.slice (some ⟨r3,0,none⟩) l3 l3)) (p2+1)) (some ⟨r1,0,none⟩) l1 (p.name)∧RdB (hideZ (u2.setCell ⟨p2,4,none⟩ (.slice (some ⟨r3,0,none⟩) l3 l3)) (p2+1)) (some ⟨r2,0,none⟩) l2 (p.arg)∧RdB (hideZ (u2.setCell ⟨p2,4,none⟩ (.slice (some ⟨r3,0,none⟩) l3 l3)) (p2+1)) (some ⟨r3,0,none⟩) l3 (p.lit)):=⟨gv,m0,m1,m2,⟨ee0,ee1,ee2⟩,nw0.le hcl,nw1.le hcl,nw2.le hcl⟩
 have C3:Hid _:=HK.out (u2.setCell ⟨p2,4,none⟩ (.slice (some ⟨r3,0,none⟩) l3 l3)) gv
 obtain ⟨⟨y0,y1,y2,y3,y4,y5,y6⟩,-⟩:=blkE dk0
 obtain ⟨⟨zz0,zz1,zz2,zz3,zz4,zz5,zz6⟩,hfz⟩:=blkE dk2
 have ff0:=hfz 4
 clear kS2 dd2_0 m2 m1 m0 gv hcl dk0 dk1 dk2 g2 ee0 ee1 ee2 hfz nw0 nw1 nw2
 simp only[]
 go_wp2_with fail
 refine Calls.mono C3.out ?_
 rintro e u3 ⟨r4,s4,he,hg,hN⟩
 subst he
 obtain ⟨gv,ck0,ck1,ck2,⟨ee0,ee1,ee2⟩,ow0,ow1,ow2⟩:=L3.out
 have dk0:=(hg.block _ (lt_of_block ck0) (by simp)).trans ck0
 have dk1:=(hg.block _ (lt_of_block ck1) (by simp)).trans ck1
 have dk2:=(hg.block _ (lt_of_block ck2) (by simp)).trans ck2
 have g2:=grown_trans gv hg
 have hlo:p2+1≤(u2.setCell ⟨p2,4,none⟩ (.slice (some ⟨r3,0,none⟩) l3 l3)).heap.size:=lt_of_block ck2
 have hhs:=hg.size
 have nw3:=hN.le (hiz_low (lo':=p2+1) hlo)
 have nw0:=ow0.le (hiz_grown (lo:=p2+1) hg)
 have nw1:=ow1.le (hiz_grown (lo:=p2+1) hg)
 have nw2:=ow2.le (hiz_grown (lo:=p2+1) hg)
 clear C3 L3 gv ck0 ck1 ck2 hg hN hlo hhs ow0 ow1 ow2 y0 y1 y2 y3 y4 y5 y6 zz0 zz1 zz2 zz3 zz4 zz5 zz6 ff0
 have kS3:u3.grownBy (u3.setCell ⟨p2,5,none⟩ (.slice r4 l4 s4)) (some p2):=grown_trans (World.grownBy.refl _ _) (grown_setCell _ _ _ _)
 have dd3_0:(u3.setCell ⟨p2,5,none⟩ (.slice r4 l4 s4)).heap[p2]? = some (Obj.cells #[.int .i64 p.k,.int .i64 p.n,.slice (some ⟨r1,0,none⟩) l1 l1,.slice (some ⟨r2,0,none⟩) l2 l2,.slice (some ⟨r3,0,none⟩) l3 l3,.slice r4 l4 s4,.slice none 0 0] 36):=heap_setCell_same _ p2 5 _ _ (.slice r4 l4 s4) dk2
 have m2:(u3.setCell ⟨p2,5,none⟩ (.slice r4 l4 s4)).heap[p2]? = some (Obj.cells #[.int .i64 p.k,.int .i64 p.n,.slice (some ⟨r1,0,none⟩) l1 l1,.slice (some ⟨r2,0,none⟩) l2 l2,.slice (some ⟨r3,0,none⟩) l3 l3,.slice r4 l4 s4,.slice none 0 0] 36):=dd3_0
 have m1:=(kS3.block _ (lt_of_block dk1) (by simp;omega)).trans dk1
 have m0:=(kS3.block _ (lt_of_block dk0) (by simp;omega)).trans dk0
 have gv:w.grownBy (u3.setCell ⟨p2,5,none⟩ (.slice r4 l4 s4)) none:=grown_into g2 kS3 (by omega)
 have hcl:CLe (hideZ u3 (p2+1)) (hideZ (u3.setCell ⟨p2,5,none⟩ (.slice r4 l4 s4)) (p2+1)):=hiz_into kS3 (by omega)
 have L4:Hid (w.grownBy (u3.setCell ⟨p2,5,none⟩ (.slice r4 l4 s4)) none∧(u3.setCell ⟨p2,5,none⟩ (.slice r4 l4 s4)).heap[p0]? = some (Obj.cells #[.int .i64 p.k,.int .i64 p.n,.slice a1 l1 c1,.slice a2 l2 c2,.slice a3 l3 c3,.slice a4 l4 c4,.slice a5 l5 c5] 27)∧(u3.setCell ⟨p2,5,none⟩ (.slice r4 l4 s4)).heap[p1]? = some (Obj.cells #[.int .i64 0,.int .i64 0,.slice none 0 0,.slice none 0 0,.slice none 0 0,.slice none 0 0,.slice none 0 0] 36)∧(u3.setCell ⟨p2,5,none⟩ (.slice r4 l4 s4)).heap[p2]? = some (Obj.cells #[.int .i64 p.k,.int .i64 p.n,.slice (some ⟨r1,0,none⟩) l1 l1,.slice (some ⟨r2,0,none⟩) l2 l2,.slice (some ⟨r3,0,none⟩) l3 l3,.slice r4 l4 s4,.slice none 0 0] 36)∧(w.heap.size=p0∧p0+1=p1∧p1+1=p2)∧RdB (hideZ (u3.setCell ⟨p2,5,none⟩ (.slice r4 l4 s4)) (p2+1)) (some ⟨r1,0,none⟩) l1 (p.name)∧RdB (hideZ (u3.setCell ⟨p2,5,none⟩ (.slice r4 l4 s4)) (p2+1)) (some ⟨r2,0,none⟩) l2 (p.arg)∧RdB (hideZ (u3.setCell ⟨p2,5,none⟩ (.slice r4 l4 s4)) (p2+1)) (some ⟨r3,0,none⟩) l3 (p.lit)∧SlGE (hideZ (u3.setCell ⟨p2,5,none⟩ (.slice r4 l4 s4)) (p2+1)) false r4 l4 s4 kids):=⟨gv,m0,m1,m2,⟨ee0,ee1,ee2⟩,nw0.le hcl,nw1.le hcl,nw2.le hcl,nw3.le hcl⟩
 have C4:Hid _:=HA.out (u3.setCell ⟨p2,5,none⟩ (.slice r4 l4 s4)) gv
 obtain ⟨⟨y0,y1,y2,y3,y4,y5,y6⟩,-⟩:=blkE dk0
 obtain ⟨⟨zz0,zz1,zz2,zz3,zz4,zz5,zz6⟩,hfz⟩:=blkE dk2
 have ff0:=hfz 5
 clear kS3 dd3_0 m2 m1 m0 gv hcl dk0 dk1 dk2 g2 ee0 ee1 ee2 hfz nw0 nw1 nw2 nw3
 simp only[]
 go_wp2_with fail
 refine Calls.mono C4.out ?_
 rintro e u4 ⟨r5,s5,he,hg,hN⟩
 subst he
 obtain ⟨gv,ck0,ck1,ck2,⟨ee0,ee1,ee2⟩,ow0,ow1,ow2,ow3⟩:=L4.out
 have dk0:=(hg.block _ (lt_of_block ck0) (by simp)).trans ck0
 have dk1:=(hg.block _ (lt_of_block ck1) (by simp)).trans ck1
 have dk2:=(hg.block _ (lt_of_block ck2) (by simp)).trans ck2
 have g2:=grown_trans gv hg
 have hlo:p2+1≤(u3.setCell ⟨p2,5,none⟩ (.slice r4 l4 s4)).heap.size:=lt_of_block ck2
 have hhs:=hg.size
 have nw4:=hN.le (hiz_low (lo':=p2+1) hlo)
 have nw0:=ow0.le (hiz_grown (lo:=p2+1) hg)
 have nw1:=ow1.le (hiz_grown (lo:=p2+1) hg)
 have nw2:=ow2.le (hiz_grown (lo:=p2+1) hg)
 have nw3:=ow3.le (hiz_grown (lo:=p2+1) hg)
 clear C4 L4 gv ck0 ck1 ck2 hg hN hlo hhs ow0 ow1 ow2 ow3 y0 y1 y2 y3 y4 y5 y6 zz0 zz1 zz2 zz3 zz4 zz5 zz6 ff0
 have kS4:u4.grownBy (u4.setCell ⟨p2,6,none⟩ (.slice r5 l5 s5)) (some p2):=grown_trans (World.grownBy.refl _ _) (grown_setCell _ _ _ _)
 have dd4_0:(u4.setCell ⟨p2,6,none⟩ (.slice r5 l5 s5)).heap[p2]? = some (Obj.cells #[.int .i64 p.k,.int .i64 p.n,.slice (some ⟨r1,0,none⟩) l1 l1,.slice (some ⟨r2,0,none⟩) l2 l2,.slice (some ⟨r3,0,none⟩) l3 l3,.slice r4 l4 s4,.slice r5 l5 s5] 36):=heap_setCell_same _ p2 6 _ _ (.slice r5 l5 s5) dk2
 have m2:(u4.setCell ⟨p2,6,none⟩ (.slice r5 l5 s5)).heap[p2]? = some (Obj.cells #[.int .i64 p.k,.int .i64 p.n,.slice (some ⟨r1,0,none⟩) l1 l1,.slice (some ⟨r2,0,none⟩) l2 l2,.slice (some ⟨r3,0,none⟩) l3 l3,.slice r4 l4 s4,.slice r5 l5 s5] 36):=dd4_0
 have m1:=(kS4.block _ (lt_of_block dk1) (by simp;omega)).trans dk1
 have m0:=(kS4.block _ (lt_of_block dk0) (by simp;omega)).trans dk0
 have gv:w.grownBy (u4.setCell ⟨p2,6,none⟩ (.slice r5 l5 s5)) none:=grown_into g2 kS4 (by omega)
 have hcl:CLe (hideZ u4 (p2+1)) (hideZ (u4.setCell ⟨p2,6,none⟩ (.slice r5 l5 s5)) (p2+1)):=hiz_into kS4 (by omega)
 have L5:Hid (w.grownBy (u4.setCell ⟨p2,6,none⟩ (.slice r5 l5 s5)) none∧(u4.setCell ⟨p2,6,none⟩ (.slice r5 l5 s5)).heap[p0]? = some (Obj.cells #[.int .i64 p.k,.int .i64 p.n,.slice a1 l1 c1,.slice a2 l2 c2,.slice a3 l3 c3,.slice a4 l4 c4,.slice a5 l5 c5] 27)∧(u4.setCell ⟨p2,6,none⟩ (.slice r5 l5 s5)).heap[p1]? = some (Obj.cells #[.int .i64 0,.int .i64 0,.slice none 0 0,.slice none 0 0,.slice none 0 0,.slice none 0 0,.slice none 0 0] 36)∧(u4.setCell ⟨p2,6,none⟩ (.slice r5 l5 s5)).heap[p2]? = some (Obj.cells #[.int .i64 p.k,.int .i64 p.n,.slice (some ⟨r1,0,none⟩) l1 l1,.slice (some ⟨r2,0,none⟩) l2 l2,.slice (some ⟨r3,0,none⟩) l3 l3,.slice r4 l4 s4,.slice r5 l5 s5] 36)∧(w.heap.size=p0∧p0+1=p1∧p1+1=p2)∧RdB (hideZ (u4.setCell ⟨p2,6,none⟩ (.slice r5 l5 s5)) (p2+1)) (some ⟨r1,0,none⟩) l1 (p.name)∧RdB (hideZ (u4.setCell ⟨p2,6,none⟩ (.slice r5 l5 s5)) (p2+1)) (some ⟨r2,0,none⟩) l2 (p.arg)∧RdB (hideZ (u4.setCell ⟨p2,6,none⟩ (.slice r5 l5 s5)) (p2+1)) (some ⟨r3,0,none⟩) l3 (p.lit)∧SlGE (hideZ (u4.setCell ⟨p2,6,none⟩ (.slice r5 l5 s5)) (p2+1)) false r4 l4 s4 kids∧SlGE (hideZ (u4.setCell ⟨p2,6,none⟩ (.slice r5 l5 s5)) (p2+1)) true r5 l5 s5 alts):=⟨gv,m0,m1,m2,⟨ee0,ee1,ee2⟩,nw0.le hcl,nw1.le hcl,nw2.le hcl,nw3.le hcl,nw4.le hcl⟩
 obtain ⟨mf,kf⟩:=fillE (.int .i64 p.k) (.int .i64 p.n) (.slice (some ⟨r1,0,none⟩) l1 l1) (.slice (some ⟨r2,0,none⟩) l2 l2) (.slice (some ⟨r3,0,none⟩) l3 l3) (.slice r4 l4 s4) (.slice r5 l5 s5) m1
 have GF:=grown_into gv kf (by omega)
 have hcf:=hiz_into (lo:=p2+1) kf (by omega)
 have FQ:Hid _:=And.intro mf (And.intro GF (show NdE (hideZ _ p0) p kids alts (some ⟨r1,0,none⟩) l1 l1 (some ⟨r2,0,none⟩) l2 l2 (some ⟨r3,0,none⟩) l3 l3 (r4) l4 s4 (r5) l5 s5 from ⟨((nw0.le hcl).le hcf).le (hiz_low (lo:=p2+1) (lo':=p0) (by omega)),((nw1.le hcl).le hcf).le (hiz_low (lo:=p2+1) (lo':=p0) (by omega)),((nw2.le hcl).le hcf).le (hiz_low (lo:=p2+1) (lo':=p0) (by omega)),((nw3.le hcl).le hcf).le (hiz_low (lo:=p2+1) (lo':=p0) (by omega)),((nw4.le hcl).le hcf).le (hiz_low (lo:=p2+1) (lo':=p0) (by omega))⟩))
 obtain ⟨⟨y0,y1,y2,y3,y4,y5,y6⟩,-⟩:=blkE dk0
 obtain ⟨⟨zz0,zz1,zz2,zz3,zz4,zz5,zz6⟩,hfz⟩:=blkE dk2
 obtain ⟨⟨x0,x1,x2,x3,x4,x5,x6⟩,hfx⟩:=blkE dk1
 have ff0:=hfz 6
 have fx0:=hfx 0
 have fx1:=hfx 1
 have fx2:=hfx 2
 have fx3:=hfx 3
 have fx4:=hfx 4
 have fx5:=hfx 5
 have fx6:=hfx 6
 clear kS4 dd4_0 m2 m1 m0 gv hcl dk0 dk1 dk2 g2 hfz hfx nw0 nw1 nw2 nw3 nw4 mf kf GF hcf L5
 have p12:p2≠p1:=by omega
 simp only[]
 go_wp2
 (try simp only[Exit.inBlock,Exit.then])
 refine bodyPost_ret (results_cell_row (P:=Tryz.prog) Tryz.results28 _ _ p1 _ _ _ _ rfl FQ.out.1 Tryz.underlying36 rfl (by kernel_rfl)) rfl ?_
 refine ⟨some ⟨r1,0,none⟩,l1,some ⟨r2,0,none⟩,l2,some ⟨r3,0,none⟩,l3,r4,s4,r5,s5,rfl,?_⟩
 rw[ee0]
 exact FQ.out.2
end Go.Proofs.YtblbnillilbacaaGreatDoor.By
