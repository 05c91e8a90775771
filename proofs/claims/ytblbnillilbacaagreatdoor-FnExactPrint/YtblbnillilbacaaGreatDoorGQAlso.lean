/-
 Several texts in one (GCEc, GCEd, GQ). No statement is proved here.
-/
import Derived.Test.YtblbnillilbacaaGreatDoorGCEaAlso
import Derived.Test.YtblbnillilbacaaGreatDoorGCEb
import Derived.Test.YtblbnillilbacaaGreatDoorEObAlso
import Derived.Test.YtblbnillilbacaaGreatDoorEEqAlso
namespace Go.Proofs.YtblbnillilbacaaGreatDoor.By
open Go.RowKit
set_option linter.unusedVariables false
set_option linter.unusedSimpArgs false
set_option maxRecDepth 8000 in
set_option maxHeartbeats 8000000 in
theorem toEA_of (hc:List Int) (hv:List (List Int)) (p:PE) (kids alts:GE) (e0:Option Addr) (q0 d0:Nat) (e1:Option Addr) (q1 d1:Nat) (a1:Option Addr) (l1 c1:Nat) (a2:Option Addr) (l2 c2:Nat) (a3:Option Addr) (l3 c3:Nat) (a4:Option Addr) (l4 c4:Nat) (a5:Option Addr) (l5 c5:Nat) (w:World) (h:RdB w e0 q0 hc∧SlSC w e1 q1 d1 hv) (hs:hc.length+szW hv≤1048576)
  (Hb:∀ u,w.grownBy u none→Calls Tryz.prog 28 #[.agg #[.int .i64 p.k,.int .i64 p.n,.slice a1 l1 c1,.slice a2 l2 c2,.slice a3 l3 c3,.slice a4 l4 c4,.slice a5 l5 c5]] u fun e v=>∃ t1 w1 t2 w2 t3 w3 t4 w4 t5 w5,e = .returned (.agg #[.int .i64 p.k,.int .i64 p.n,.slice t1 l1 w1,.slice t2 l2 w2,.slice t3 l3 w3,.slice t4 l4 w4,.slice t5 l5 w5])∧u.grownBy v none∧NdE (hideZ v u.heap.size) p kids alts t1 l1 w1 t2 l2 w2 t3 l3 w3 t4 l4 w4 t5 l5 w5) :
  Calls Tryz.prog 92 #[.agg #[.slice e0 q0 d0,.slice e1 q1 d1,.int .i64 p.k,.int .i64 p.n,.slice a1 l1 c1,.slice a2 l2 c2,.slice a3 l3 c3,.slice a4 l4 c4,.slice a5 l5 c5]] w fun e u=>∃ x0 z0 x1 z1 t1 w1 t2 w2 t3 w3 t4 w4 t5 w5,e = .returned (.agg #[.slice x0 q0 z0,.slice x1 q1 z1,.int .i64 p.k,.int .i64 p.n,.slice t1 l1 w1,.slice t2 l2 w2,.slice t3 l3 w3,.slice t4 l4 w4,.slice t5 l5 w5])∧w.grownBy u none∧(RdB (hideZ u w.heap.size) x0 q0 hc∧SlSC (hideZ u w.heap.size) x1 q1 z1 hv∧NdE (hideZ u w.heap.size) p kids alts t1 l1 w1 t2 l2 w2 t3 l3 w3 t4 l4 w4 t5 l5 w5):=by
 have HB:Hid _:=Hb
 have HS:Hid (hc.length+szW hv≤1048576):=hs
 have HY:Hid (RdB w e0 q0 hc∧SlSC w e1 q1 d1 hv):=h
 have HN:Hid (∀ u,w.grownBy u none→RdB u e0 q0 hc∧SlSC u e1 q1 d1 hv):=fun u hu=>⟨h.1.none hu,h.2.none hu⟩
 clear Hb h hs
 obtain ⟨b0,b1,b2,bsz⟩:=alloc3_blocks w (.cells #[.slice e0 q0 d0,.slice e1 q1 d1,.int .i64 p.k,.int .i64 p.n,.slice a1 l1 c1,.slice a2 l2 c2,.slice a3 l3 c3,.slice a4 l4 c4,.slice a5 l5 c5] 116) (.cells #[.slice none 0 0,.slice none 0 0,.int .i64 0,.int .i64 0,.slice none 0 0,.slice none 0 0,.slice none 0 0,.slice none 0 0,.slice none 0 0] 87) (.cells #[.slice none 0 0,.slice none 0 0,.int .i64 0,.int .i64 0,.slice none 0 0,.slice none 0 0,.slice none 0 0,.slice none 0 0,.slice none 0 0] 87)
 have g0:=grown_alloc (grown_alloc (grown_alloc (World.grownBy.refl w none) (.cells #[.slice e0 q0 d0,.slice e1 q1 d1,.int .i64 p.k,.int .i64 p.n,.slice a1 l1 c1,.slice a2 l2 c2,.slice a3 l3 c3,.slice a4 l4 c4,.slice a5 l5 c5] 116)) (.cells #[.slice none 0 0,.slice none 0 0,.int .i64 0,.int .i64 0,.slice none 0 0,.slice none 0 0,.slice none 0 0,.slice none 0 0,.slice none 0 0] 87)) (.cells #[.slice none 0 0,.slice none 0 0,.int .i64 0,.int .i64 0,.slice none 0 0,.slice none 0 0,.slice none 0 0,.slice none 0 0,.slice none 0 0] 87)
 have L0:Hid (w.grownBy _ none∧_=some (Obj.cells #[.slice e0 q0 d0,.slice e1 q1 d1,.int .i64 p.k,.int .i64 p.n,.slice a1 l1 c1,.slice a2 l2 c2,.slice a3 l3 c3,.slice a4 l4 c4,.slice a5 l5 c5] 116)∧_=some (Obj.cells #[.slice none 0 0,.slice none 0 0,.int .i64 0,.int .i64 0,.slice none 0 0,.slice none 0 0,.slice none 0 0,.slice none 0 0,.slice none 0 0] 87)∧_=some (Obj.cells #[.slice none 0 0,.slice none 0 0,.int .i64 0,.int .i64 0,.slice none 0 0,.slice none 0 0,.slice none 0 0,.slice none 0 0,.slice none 0 0] 87)∧_=w.heap.size+1+1+1):=⟨g0,b0,b1,b2,bsz⟩
 have C0:Hid _:=toB e0 q0 d0 hc _ ((HN.out _ g0).1).1 (by have:=HS.out;have:=((HN.out _ g0).1).1.1;omega)
 obtain ⟨⟨y0,y1,y2,y3,y4,y5,y6,y7,y8⟩,-⟩:=blkEA b0
 clear g0 b0 b1 b2 bsz
 go_enter Tryz.func92,Tryz.ntmps92
 go_wp2_with fail
 refine Calls.mono C0.out ?_
 rintro e u0 ⟨rr0,he,hg,hgl,hrow⟩
 subst he
 obtain ⟨gv,ck0,ck1,ck2,hsz⟩:=L0.out
 have dk0:=(hg.block _ (lt_of_block ck0) (by simp)).trans ck0
 have dk1:=(hg.block _ (lt_of_block ck1) (by simp)).trans ck1
 have dk2:=(hg.block _ (lt_of_block ck2) (by simp)).trans ck2
 have g2:=grown_trans gv hg
 have hlo:=Nat.le_of_eq hsz.symm
 have hhs:=hg.size
 generalize ee0:w.heap.size=p0 at *
 generalize ee1:p0+1=p1 at *
 generalize ee2:p1+1=p2 at *
 have nw0:=hrow.hiz (HY.out.1).2.1 (HY.out.1).1.1 (by have:=HS.out;have:=(HY.out.1).1.1;omega) (lo:=p2+1) (by omega)
 clear C0 L0 gv ck0 ck1 ck2 hsz hg hgl hrow hlo hhs y0 y1 y2 y3 y4 y5 y6 y7 y8
 have n02:p0≠p2:=by omega
 have n12:p1≠p2:=by omega
 have n01:p0≠p1:=by omega
 have kS0:u0.grownBy (u0.setCell ⟨p2,0,none⟩ (.slice (some ⟨rr0,0,none⟩) q0 q0)) (some p2):=grown_trans (World.grownBy.refl _ _) (grown_setCell _ _ _ _)
 have dd0_0:(u0.setCell ⟨p2,0,none⟩ (.slice (some ⟨rr0,0,none⟩) q0 q0)).heap[p2]? = some (Obj.cells #[.slice (some ⟨rr0,0,none⟩) q0 q0,.slice none 0 0,.int .i64 0,.int .i64 0,.slice none 0 0,.slice none 0 0,.slice none 0 0,.slice none 0 0,.slice none 0 0] 87):=heap_setCell_same _ p2 0 _ _ (.slice (some ⟨rr0,0,none⟩) q0 q0) dk2
 have m2:(u0.setCell ⟨p2,0,none⟩ (.slice (some ⟨rr0,0,none⟩) q0 q0)).heap[p2]? = some (Obj.cells #[.slice (some ⟨rr0,0,none⟩) q0 q0,.slice none 0 0,.int .i64 0,.int .i64 0,.slice none 0 0,.slice none 0 0,.slice none 0 0,.slice none 0 0,.slice none 0 0] 87):=dd0_0
 have m1:=(kS0.block _ (lt_of_block dk1) (by simp;omega)).trans dk1
 have m0:=(kS0.block _ (lt_of_block dk0) (by simp;omega)).trans dk0
 have gv:w.grownBy (u0.setCell ⟨p2,0,none⟩ (.slice (some ⟨rr0,0,none⟩) q0 q0)) none:=grown_into g2 kS0 (by omega)
 have hcl:CLe (hideZ u0 (p2+1)) (hideZ (u0.setCell ⟨p2,0,none⟩ (.slice (some ⟨rr0,0,none⟩) q0 q0)) (p2+1)):=hiz_into kS0 (by omega)
 have L1:Hid (w.grownBy (u0.setCell ⟨p2,0,none⟩ (.slice (some ⟨rr0,0,none⟩) q0 q0)) none∧(u0.setCell ⟨p2,0,none⟩ (.slice (some ⟨rr0,0,none⟩) q0 q0)).heap[p0]? = some (Obj.cells #[.slice e0 q0 d0,.slice e1 q1 d1,.int .i64 p.k,.int .i64 p.n,.slice a1 l1 c1,.slice a2 l2 c2,.slice a3 l3 c3,.slice a4 l4 c4,.slice a5 l5 c5] 116)∧(u0.setCell ⟨p2,0,none⟩ (.slice (some ⟨rr0,0,none⟩) q0 q0)).heap[p1]? = some (Obj.cells #[.slice none 0 0,.slice none 0 0,.int .i64 0,.int .i64 0,.slice none 0 0,.slice none 0 0,.slice none 0 0,.slice none 0 0,.slice none 0 0] 87)∧(u0.setCell ⟨p2,0,none⟩ (.slice (some ⟨rr0,0,none⟩) q0 q0)).heap[p2]? = some (Obj.cells #[.slice (some ⟨rr0,0,none⟩) q0 q0,.slice none 0 0,.int .i64 0,.int .i64 0,.slice none 0 0,.slice none 0 0,.slice none 0 0,.slice none 0 0,.slice none 0 0] 87)∧(w.heap.size=p0∧p0+1=p1∧p1+1=p2)∧RdB (hideZ (u0.setCell ⟨p2,0,none⟩ (.slice (some ⟨rr0,0,none⟩) q0 q0)) (p2+1)) (some ⟨rr0,0,none⟩) q0 hc):=⟨gv,m0,m1,m2,⟨ee0,ee1,ee2⟩,nw0.le hcl⟩
 have C1:Hid _:=toWW e1 q1 d1 hv (u0.setCell ⟨p2,0,none⟩ (.slice (some ⟨rr0,0,none⟩) q0 q0)) ((HN.out (u0.setCell ⟨p2,0,none⟩ (.slice (some ⟨rr0,0,none⟩) q0 q0)) gv).2).1 (by have:=HS.out;omega)
 obtain ⟨⟨y0,y1,y2,y3,y4,y5,y6,y7,y8⟩,-⟩:=blkEA dk0
 obtain ⟨⟨zz0,zz1,zz2,zz3,zz4,zz5,zz6,zz7,zz8⟩,hfz⟩:=blkEA dk2
 have ff0:=hfz 0
 clear kS0 dd0_0 m2 m1 m0 gv hcl dk0 dk1 dk2 g2 ee0 ee1 ee2 hfz nw0
 simp only[]
 go_wp2_with fail
 refine Calls.mono C1.out ?_
 rintro e u1 ⟨rr1,ss1,he,hg,hN⟩
 subst he
 obtain ⟨gv,ck0,ck1,ck2,⟨ee0,ee1,ee2⟩,ow0⟩:=L1.out
 have dk0:=(hg.block _ (lt_of_block ck0) (by simp)).trans ck0
 have dk1:=(hg.block _ (lt_of_block ck1) (by simp)).trans ck1
 have dk2:=(hg.block _ (lt_of_block ck2) (by simp)).trans ck2
 have g2:=grown_trans gv hg
 have hlo:p2+1≤(u0.setCell ⟨p2,0,none⟩ (.slice (some ⟨rr0,0,none⟩) q0 q0)).heap.size:=lt_of_block ck2
 have hhs:=hg.size
 have nw1:=hN.le (hiz_low (lo':=p2+1) hlo)
 have nw0:=ow0.le (hiz_grown (lo:=p2+1) hg)
 clear C1 L1 gv ck0 ck1 ck2 hg hN hlo hhs ow0 y0 y1 y2 y3 y4 y5 y6 y7 y8 zz0 zz1 zz2 zz3 zz4 zz5 zz6 zz7 zz8 ff0
 have kS1:u1.grownBy (u1.setCell ⟨p2,1,none⟩ (.slice rr1 q1 ss1)) (some p2):=grown_trans (World.grownBy.refl _ _) (grown_setCell _ _ _ _)
 have dd1_0:(u1.setCell ⟨p2,1,none⟩ (.slice rr1 q1 ss1)).heap[p2]? = some (Obj.cells #[.slice (some ⟨rr0,0,none⟩) q0 q0,.slice rr1 q1 ss1,.int .i64 0,.int .i64 0,.slice none 0 0,.slice none 0 0,.slice none 0 0,.slice none 0 0,.slice none 0 0] 87):=heap_setCell_same _ p2 1 _ _ (.slice rr1 q1 ss1) dk2
 have m2:(u1.setCell ⟨p2,1,none⟩ (.slice rr1 q1 ss1)).heap[p2]? = some (Obj.cells #[.slice (some ⟨rr0,0,none⟩) q0 q0,.slice rr1 q1 ss1,.int .i64 0,.int .i64 0,.slice none 0 0,.slice none 0 0,.slice none 0 0,.slice none 0 0,.slice none 0 0] 87):=dd1_0
 have m1:=(kS1.block _ (lt_of_block dk1) (by simp;omega)).trans dk1
 have m0:=(kS1.block _ (lt_of_block dk0) (by simp;omega)).trans dk0
 have gv:w.grownBy (u1.setCell ⟨p2,1,none⟩ (.slice rr1 q1 ss1)) none:=grown_into g2 kS1 (by omega)
 have hcl:CLe (hideZ u1 (p2+1)) (hideZ (u1.setCell ⟨p2,1,none⟩ (.slice rr1 q1 ss1)) (p2+1)):=hiz_into kS1 (by omega)
 have L2:Hid (w.grownBy (u1.setCell ⟨p2,1,none⟩ (.slice rr1 q1 ss1)) none∧(u1.setCell ⟨p2,1,none⟩ (.slice rr1 q1 ss1)).heap[p0]? = some (Obj.cells #[.slice e0 q0 d0,.slice e1 q1 d1,.int .i64 p.k,.int .i64 p.n,.slice a1 l1 c1,.slice a2 l2 c2,.slice a3 l3 c3,.slice a4 l4 c4,.slice a5 l5 c5] 116)∧(u1.setCell ⟨p2,1,none⟩ (.slice rr1 q1 ss1)).heap[p1]? = some (Obj.cells #[.slice none 0 0,.slice none 0 0,.int .i64 0,.int .i64 0,.slice none 0 0,.slice none 0 0,.slice none 0 0,.slice none 0 0,.slice none 0 0] 87)∧(u1.setCell ⟨p2,1,none⟩ (.slice rr1 q1 ss1)).heap[p2]? = some (Obj.cells #[.slice (some ⟨rr0,0,none⟩) q0 q0,.slice rr1 q1 ss1,.int .i64 0,.int .i64 0,.slice none 0 0,.slice none 0 0,.slice none 0 0,.slice none 0 0,.slice none 0 0] 87)∧(w.heap.size=p0∧p0+1=p1∧p1+1=p2)∧RdB (hideZ (u1.setCell ⟨p2,1,none⟩ (.slice rr1 q1 ss1)) (p2+1)) (some ⟨rr0,0,none⟩) q0 hc∧SlSC (hideZ (u1.setCell ⟨p2,1,none⟩ (.slice rr1 q1 ss1)) (p2+1)) rr1 q1 ss1 hv):=⟨gv,m0,m1,m2,⟨ee0,ee1,ee2⟩,nw0.le hcl,nw1.le hcl⟩
 have C2:Hid _:=HB.out (u1.setCell ⟨p2,1,none⟩ (.slice rr1 q1 ss1)) gv
 obtain ⟨⟨y0,y1,y2,y3,y4,y5,y6,y7,y8⟩,-⟩:=blkEA dk0
 obtain ⟨⟨zz0,zz1,zz2,zz3,zz4,zz5,zz6,zz7,zz8⟩,hfz⟩:=blkEA dk2
 have ff0:=hfz 1
 clear kS1 dd1_0 m2 m1 m0 gv hcl dk0 dk1 dk2 g2 ee0 ee1 ee2 hfz nw0 nw1
 simp only[]
 go_wp2_with fail
 refine Calls.mono C2.out ?_
 rintro e u2 ⟨t1,w1,t2,w2,t3,w3,t4,w4,t5,w5,he,hg,hN⟩
 subst he
 obtain ⟨gv,ck0,ck1,ck2,⟨ee0,ee1,ee2⟩,ow0,ow1⟩:=L2.out
 have dk0:=(hg.block _ (lt_of_block ck0) (by simp)).trans ck0
 have dk1:=(hg.block _ (lt_of_block ck1) (by simp)).trans ck1
 have dk2:=(hg.block _ (lt_of_block ck2) (by simp)).trans ck2
 have g2:=grown_trans gv hg
 have hlo:p2+1≤(u1.setCell ⟨p2,1,none⟩ (.slice rr1 q1 ss1)).heap.size:=lt_of_block ck2
 have hhs:=hg.size
 have nw2:=hN.le (hiz_low (lo':=p2+1) hlo)
 have nw0:=ow0.le (hiz_grown (lo:=p2+1) hg)
 have nw1:=ow1.le (hiz_grown (lo:=p2+1) hg)
 clear C2 L2 gv ck0 ck1 ck2 hg hN hlo hhs ow0 ow1 y0 y1 y2 y3 y4 y5 y6 y7 y8 zz0 zz1 zz2 zz3 zz4 zz5 zz6 zz7 zz8 ff0
 have kS2:u2.grownBy (((((((u2.setCell ⟨p2,2,none⟩ (.int .i64 p.k)).setCell ⟨p2,3,none⟩ (.int .i64 p.n)).setCell ⟨p2,4,none⟩ (.slice t1 l1 w1)).setCell ⟨p2,5,none⟩ (.slice t2 l2 w2)).setCell ⟨p2,6,none⟩ (.slice t3 l3 w3)).setCell ⟨p2,7,none⟩ (.slice t4 l4 w4)).setCell ⟨p2,8,none⟩ (.slice t5 l5 w5)) (some p2):=grown_trans (grown_trans (grown_trans (grown_trans (grown_trans (grown_trans (grown_trans (World.grownBy.refl _ _) (grown_setCell _ _ _ _)) (grown_setCell _ _ _ _)) (grown_setCell _ _ _ _)) (grown_setCell _ _ _ _)) (grown_setCell _ _ _ _)) (grown_setCell _ _ _ _)) (grown_setCell _ _ _ _)
 have dd2_0:(u2.setCell ⟨p2,2,none⟩ (.int .i64 p.k)).heap[p2]? = some (Obj.cells #[.slice (some ⟨rr0,0,none⟩) q0 q0,.slice rr1 q1 ss1,.int .i64 p.k,.int .i64 0,.slice none 0 0,.slice none 0 0,.slice none 0 0,.slice none 0 0,.slice none 0 0] 87):=heap_setCell_same _ p2 2 _ _ (.int .i64 p.k) dk2
 have dd2_1:((u2.setCell ⟨p2,2,none⟩ (.int .i64 p.k)).setCell ⟨p2,3,none⟩ (.int .i64 p.n)).heap[p2]? = some (Obj.cells #[.slice (some ⟨rr0,0,none⟩) q0 q0,.slice rr1 q1 ss1,.int .i64 p.k,.int .i64 p.n,.slice none 0 0,.slice none 0 0,.slice none 0 0,.slice none 0 0,.slice none 0 0] 87):=heap_setCell_same _ p2 3 _ _ (.int .i64 p.n) dd2_0
 have dd2_2:(((u2.setCell ⟨p2,2,none⟩ (.int .i64 p.k)).setCell ⟨p2,3,none⟩ (.int .i64 p.n)).setCell ⟨p2,4,none⟩ (.slice t1 l1 w1)).heap[p2]? = some (Obj.cells #[.slice (some ⟨rr0,0,none⟩) q0 q0,.slice rr1 q1 ss1,.int .i64 p.k,.int .i64 p.n,.slice t1 l1 w1,.slice none 0 0,.slice none 0 0,.slice none 0 0,.slice none 0 0] 87):=heap_setCell_same _ p2 4 _ _ (.slice t1 l1 w1) dd2_1
 have dd2_3:((((u2.setCell ⟨p2,2,none⟩ (.int .i64 p.k)).setCell ⟨p2,3,none⟩ (.int .i64 p.n)).setCell ⟨p2,4,none⟩ (.slice t1 l1 w1)).setCell ⟨p2,5,none⟩ (.slice t2 l2 w2)).heap[p2]? = some (Obj.cells #[.slice (some ⟨rr0,0,none⟩) q0 q0,.slice rr1 q1 ss1,.int .i64 p.k,.int .i64 p.n,.slice t1 l1 w1,.slice t2 l2 w2,.slice none 0 0,.slice none 0 0,.slice none 0 0] 87):=heap_setCell_same _ p2 5 _ _ (.slice t2 l2 w2) dd2_2
 have dd2_4:(((((u2.setCell ⟨p2,2,none⟩ (.int .i64 p.k)).setCell ⟨p2,3,none⟩ (.int .i64 p.n)).setCell ⟨p2,4,none⟩ (.slice t1 l1 w1)).setCell ⟨p2,5,none⟩ (.slice t2 l2 w2)).setCell ⟨p2,6,none⟩ (.slice t3 l3 w3)).heap[p2]? = some (Obj.cells #[.slice (some ⟨rr0,0,none⟩) q0 q0,.slice rr1 q1 ss1,.int .i64 p.k,.int .i64 p.n,.slice t1 l1 w1,.slice t2 l2 w2,.slice t3 l3 w3,.slice none 0 0,.slice none 0 0] 87):=heap_setCell_same _ p2 6 _ _ (.slice t3 l3 w3) dd2_3
 have dd2_5:((((((u2.setCell ⟨p2,2,none⟩ (.int .i64 p.k)).setCell ⟨p2,3,none⟩ (.int .i64 p.n)).setCell ⟨p2,4,none⟩ (.slice t1 l1 w1)).setCell ⟨p2,5,none⟩ (.slice t2 l2 w2)).setCell ⟨p2,6,none⟩ (.slice t3 l3 w3)).setCell ⟨p2,7,none⟩ (.slice t4 l4 w4)).heap[p2]? = some (Obj.cells #[.slice (some ⟨rr0,0,none⟩) q0 q0,.slice rr1 q1 ss1,.int .i64 p.k,.int .i64 p.n,.slice t1 l1 w1,.slice t2 l2 w2,.slice t3 l3 w3,.slice t4 l4 w4,.slice none 0 0] 87):=heap_setCell_same _ p2 7 _ _ (.slice t4 l4 w4) dd2_4
 have dd2_6:(((((((u2.setCell ⟨p2,2,none⟩ (.int .i64 p.k)).setCell ⟨p2,3,none⟩ (.int .i64 p.n)).setCell ⟨p2,4,none⟩ (.slice t1 l1 w1)).setCell ⟨p2,5,none⟩ (.slice t2 l2 w2)).setCell ⟨p2,6,none⟩ (.slice t3 l3 w3)).setCell ⟨p2,7,none⟩ (.slice t4 l4 w4)).setCell ⟨p2,8,none⟩ (.slice t5 l5 w5)).heap[p2]? = some (Obj.cells #[.slice (some ⟨rr0,0,none⟩) q0 q0,.slice rr1 q1 ss1,.int .i64 p.k,.int .i64 p.n,.slice t1 l1 w1,.slice t2 l2 w2,.slice t3 l3 w3,.slice t4 l4 w4,.slice t5 l5 w5] 87):=heap_setCell_same _ p2 8 _ _ (.slice t5 l5 w5) dd2_5
 have m2:(((((((u2.setCell ⟨p2,2,none⟩ (.int .i64 p.k)).setCell ⟨p2,3,none⟩ (.int .i64 p.n)).setCell ⟨p2,4,none⟩ (.slice t1 l1 w1)).setCell ⟨p2,5,none⟩ (.slice t2 l2 w2)).setCell ⟨p2,6,none⟩ (.slice t3 l3 w3)).setCell ⟨p2,7,none⟩ (.slice t4 l4 w4)).setCell ⟨p2,8,none⟩ (.slice t5 l5 w5)).heap[p2]? = some (Obj.cells #[.slice (some ⟨rr0,0,none⟩) q0 q0,.slice rr1 q1 ss1,.int .i64 p.k,.int .i64 p.n,.slice t1 l1 w1,.slice t2 l2 w2,.slice t3 l3 w3,.slice t4 l4 w4,.slice t5 l5 w5] 87):=dd2_6
 have m1:=(kS2.block _ (lt_of_block dk1) (by simp;omega)).trans dk1
 have m0:=(kS2.block _ (lt_of_block dk0) (by simp;omega)).trans dk0
 have gv:w.grownBy (((((((u2.setCell ⟨p2,2,none⟩ (.int .i64 p.k)).setCell ⟨p2,3,none⟩ (.int .i64 p.n)).setCell ⟨p2,4,none⟩ (.slice t1 l1 w1)).setCell ⟨p2,5,none⟩ (.slice t2 l2 w2)).setCell ⟨p2,6,none⟩ (.slice t3 l3 w3)).setCell ⟨p2,7,none⟩ (.slice t4 l4 w4)).setCell ⟨p2,8,none⟩ (.slice t5 l5 w5)) none:=grown_into g2 kS2 (by omega)
 have hcl:CLe (hideZ u2 (p2+1)) (hideZ (((((((u2.setCell ⟨p2,2,none⟩ (.int .i64 p.k)).setCell ⟨p2,3,none⟩ (.int .i64 p.n)).setCell ⟨p2,4,none⟩ (.slice t1 l1 w1)).setCell ⟨p2,5,none⟩ (.slice t2 l2 w2)).setCell ⟨p2,6,none⟩ (.slice t3 l3 w3)).setCell ⟨p2,7,none⟩ (.slice t4 l4 w4)).setCell ⟨p2,8,none⟩ (.slice t5 l5 w5)) (p2+1)):=hiz_into kS2 (by omega)
 have L3:Hid (w.grownBy (((((((u2.setCell ⟨p2,2,none⟩ (.int .i64 p.k)).setCell ⟨p2,3,none⟩ (.int .i64 p.n)).setCell ⟨p2,4,none⟩ (.slice t1 l1 w1)).setCell ⟨p2,5,none⟩ (.slice t2 l2 w2)).setCell ⟨p2,6,none⟩ (.slice t3 l3 w3)).setCell ⟨p2,7,none⟩ (.slice t4 l4 w4)).setCell ⟨p2,8,none⟩ (.slice t5 l5 w5)) none∧(((((((u2.setCell ⟨p2,2,none⟩ (.int .i64 p.k)).setCell ⟨p2,3,none⟩ (.int .i64 p.n)).setCell ⟨p2,4,none⟩ (.slice t1 l1 w1)).setCell ⟨p2,5,none⟩ (.slice t2 l2 w2)).setCell ⟨p2,6,none⟩ (.slice t3 l3 w3)).setCell ⟨p2,7,none⟩ (.slice t4 l4 w4)).setCell ⟨p2,8,none⟩ (.slice t5 l5 w5)).heap[p0]? = some (Obj.cells #[.slice e0 q0 d0,.slice e1 q1 d1,.int .i64 p.k,.int .i64 p.n,.slice a1 l1 c1,.slice a2 l2 c2,.slice a3 l3 c3,.slice a4 l4 c4,.slice a5 l5 c5] 116)∧(((((((u2.setCell ⟨p2,2,none⟩ (.int .i64 p.k)).setCell ⟨p2,3,none⟩ (.int .i64 p.n)).setCell ⟨p2,4,none⟩ (.slice t1 l1 w1)).setCell ⟨p2,5,none⟩ (.slice t2 l2 w2)).setCell ⟨p2,6,none⟩ (.slice t3 l3 w3)).setCell ⟨p2,7,none⟩ (.slice t4 l4 w4)).setCell ⟨p2,8,none⟩ (.slice t5 l5 w5)).heap[p1]? = some (Obj.cells #[.slice none 0 0,.slice none 0 0,.int .i64 0,.int .i64 0,.slice none 0 0,.slice none 0 0,.slice none 0 0,.slice none 0 0,.slice none 0 0] 87)∧(((((((u2.setCell ⟨p2,2,none⟩ (.int .i64 p.k)).setCell ⟨p2,3,none⟩ (.int .i64 p.n)).setCell ⟨p2,4,none⟩ (.slice t1 l1 w1)).setCell ⟨p2,5,none⟩ (.slice t2 l2 w2)).setCell ⟨p2,6,none⟩ (.slice t3 l3 w3)).setCell ⟨p2,7,none⟩ (.slice t4 l4 w4)).setCell ⟨p2,8,none⟩ (.slice t5 l5 w5)).heap[p2]? = some (Obj.cells #[.slice (some ⟨rr0,0,none⟩) q0 q0,.slice rr1 q1 ss1,.int .i64 p.k,.int .i64 p.n,.slice t1 l1 w1,.slice t2 l2 w2,.slice t3 l3 w3,.slice t4 l4 w4,.slice t5 l5 w5] 87)∧(w.heap.size=p0∧p0+1=p1∧p1+1=p2)∧RdB (hideZ (((((((u2.setCell ⟨p2,2,none⟩ (.int .i64 p.k)).setCell ⟨p2,3,none⟩ (.int .i64 p.n)).setCell ⟨p2,4,none⟩ (.slice t1 l1 w1)).setCell ⟨p2,5,none⟩ (.slice t2 l2 w2)).setCell ⟨p2,6,none⟩ (.slice t3 l3 w3)).setCell ⟨p2,7,none⟩ (.slice t4 l4 w4)).setCell ⟨p2,8,none⟩ (.slice t5 l5 w5)) (p2+1)) (some ⟨rr0,0,none⟩) q0 hc∧SlSC (hideZ (((((((u2.setCell ⟨p2,2,none⟩ (.int .i64 p.k)).setCell ⟨p2,3,none⟩ (.int .i64 p.n)).setCell ⟨p2,4,none⟩ (.slice t1 l1 w1)).setCell ⟨p2,5,none⟩ (.slice t2 l2 w2)).setCell ⟨p2,6,none⟩ (.slice t3 l3 w3)).setCell ⟨p2,7,none⟩ (.slice t4 l4 w4)).setCell ⟨p2,8,none⟩ (.slice t5 l5 w5)) (p2+1)) rr1 q1 ss1 hv∧NdE (hideZ (((((((u2.setCell ⟨p2,2,none⟩ (.int .i64 p.k)).setCell ⟨p2,3,none⟩ (.int .i64 p.n)).setCell ⟨p2,4,none⟩ (.slice t1 l1 w1)).setCell ⟨p2,5,none⟩ (.slice t2 l2 w2)).setCell ⟨p2,6,none⟩ (.slice t3 l3 w3)).setCell ⟨p2,7,none⟩ (.slice t4 l4 w4)).setCell ⟨p2,8,none⟩ (.slice t5 l5 w5)) (p2+1)) p kids alts t1 l1 w1 t2 l2 w2 t3 l3 w3 t4 l4 w4 t5 l5 w5):=⟨gv,m0,m1,m2,⟨ee0,ee1,ee2⟩,nw0.le hcl,nw1.le hcl,nw2.le hcl⟩
 obtain ⟨mf,kf⟩:=fillEA (.slice (some ⟨rr0,0,none⟩) q0 q0) (.slice rr1 q1 ss1) (.int .i64 p.k) (.int .i64 p.n) (.slice t1 l1 w1) (.slice t2 l2 w2) (.slice t3 l3 w3) (.slice t4 l4 w4) (.slice t5 l5 w5) m1
 have GF:=grown_into gv kf (by omega)
 have hcf:=hiz_into (lo:=p2+1) kf (by omega)
 have FQ:Hid _:=And.intro mf (And.intro GF (show RdB (hideZ _ p0) (some ⟨rr0,0,none⟩) q0 hc∧SlSC (hideZ _ p0) rr1 q1 ss1 hv∧NdE (hideZ _ p0) p kids alts t1 l1 w1 t2 l2 w2 t3 l3 w3 t4 l4 w4 t5 l5 w5 from ⟨((nw0.le hcl).le hcf).le (hiz_low (lo:=p2+1) (lo':=p0) (by omega)),((nw1.le hcl).le hcf).le (hiz_low (lo:=p2+1) (lo':=p0) (by omega)),((nw2.le hcl).le hcf).le (hiz_low (lo:=p2+1) (lo':=p0) (by omega))⟩))
 obtain ⟨⟨y0,y1,y2,y3,y4,y5,y6,y7,y8⟩,-⟩:=blkEA dk0
 obtain ⟨⟨zz0,zz1,zz2,zz3,zz4,zz5,zz6,zz7,zz8⟩,hfz⟩:=blkEA dk2
 have ff0:=hfz 2
 have ff1:=hfz 3
 have ff2:=hfz 4
 have ff3:=hfz 5
 have ff4:=hfz 6
 have ff5:=hfz 7
 have ff6:=hfz 8
 have MM:Hid ((((((((u2.setCell ⟨p2,2,none⟩ (.int .i64 p.k)).setCell ⟨p2,3,none⟩ (.int .i64 p.n)).setCell ⟨p2,4,none⟩ (.slice t1 l1 w1)).setCell ⟨p2,5,none⟩ (.slice t2 l2 w2)).setCell ⟨p2,6,none⟩ (.slice t3 l3 w3)).setCell ⟨p2,7,none⟩ (.slice t4 l4 w4)).setCell ⟨p2,8,none⟩ (.slice t5 l5 w5)).heap[p2]? = some (Obj.cells #[.slice (some ⟨rr0,0,none⟩) q0 q0,.slice rr1 q1 ss1,.int .i64 p.k,.int .i64 p.n,.slice t1 l1 w1,.slice t2 l2 w2,.slice t3 l3 w3,.slice t4 l4 w4,.slice t5 l5 w5] 87)∧(((((((u2.setCell ⟨p2,2,none⟩ (.int .i64 p.k)).setCell ⟨p2,3,none⟩ (.int .i64 p.n)).setCell ⟨p2,4,none⟩ (.slice t1 l1 w1)).setCell ⟨p2,5,none⟩ (.slice t2 l2 w2)).setCell ⟨p2,6,none⟩ (.slice t3 l3 w3)).setCell ⟨p2,7,none⟩ (.slice t4 l4 w4)).setCell ⟨p2,8,none⟩ (.slice t5 l5 w5)).heap[p1]? = some (Obj.cells #[.slice none 0 0,.slice none 0 0,.int .i64 0,.int .i64 0,.slice none 0 0,.slice none 0 0,.slice none 0 0,.slice none 0 0,.slice none 0 0] 87)):=⟨m2,m1⟩
 clear kS2 dd2_0 dd2_1 dd2_2 dd2_3 dd2_4 dd2_5 dd2_6 m2 m1 m0 gv hcl dk0 dk1 dk2 g2 hfz  nw0 nw1 nw2 mf kf GF hcf L3
 have p12:p2≠p1:=by omega
 simp only[]
 go_upto_region 5 with fail
 clear y0 y1 y2 y3 y4 y5 y6 y7 y8 zz0 zz1 zz2 zz3 zz4 zz5 zz6 zz7 zz8 ff0 ff1 ff2 ff3 ff4 ff5 ff6
 generalize (((((((u2.setCell ⟨p2,2,none⟩ (.int .i64 p.k)).setCell ⟨p2,3,none⟩ (.int .i64 p.n)).setCell ⟨p2,4,none⟩ (.slice t1 l1 w1)).setCell ⟨p2,5,none⟩ (.slice t2 l2 w2)).setCell ⟨p2,6,none⟩ (.slice t3 l3 w3)).setCell ⟨p2,7,none⟩ (.slice t4 l4 w4)).setCell ⟨p2,8,none⟩ (.slice t5 l5 w5))=v at *
 obtain ⟨⟨zz0,zz1,zz2,zz3,zz4,zz5,zz6,zz7,zz8⟩,-⟩:=blkEA MM.out.1
 obtain ⟨⟨x0,x1,x2,x3,x4,x5,x6,x7,x8⟩,hfx⟩:=blkEA MM.out.2
 have fx0:=hfx 0
 have fx1:=hfx 1
 have fx2:=hfx 2
 have fx3:=hfx 3
 have fx4:=hfx 4
 have fx5:=hfx 5
 have fx6:=hfx 6
 have fx7:=hfx 7
 have fx8:=hfx 8
 clear hfx MM
 go_wp2
 (try simp only[Exit.inBlock,Exit.then])
 refine bodyPost_ret (results_cell_row (P:=Tryz.prog) Tryz.results92 _ _ p1 _ _ _ _ rfl FQ.out.1 Tryz.underlying87 rfl (by kernel_rfl)) rfl ?_
 refine ⟨some ⟨rr0,0,none⟩,q0,rr1,ss1,t1,w1,t2,w2,t3,w3,t4,w4,t5,w5,rfl,?_⟩
 rw[ee0]
 exact FQ.out.2
end Go.Proofs.YtblbnillilbacaaGreatDoor.By
namespace Go.Proofs.YtblbnillilbacaaGreatDoor.By
open Go.RowKit
set_option linter.unusedVariables false
set_option linter.unusedSimpArgs false
set_option maxRecDepth 8000 in
set_option maxHeartbeats 8000000 in
theorem toES (m:Nat) (hM:m≤1048576):(∀ (g:GE) (a:Option Addr) (l c:Nat) (w:World),g.size≤m→SlGE w false a l c g→Calls Tryz.prog 59 #[.slice a l c] w fun e u=>∃ a' c',e = .returned (.slice a' l c')∧w.grownBy u none∧SlGE (hideZ u w.heap.size) false a' l c' g) ∧
  (∀ (g:GE) (a:Option Addr) (l c:Nat) (w:World),g.size≤m→SlGE w true a l c g→Calls Tryz.prog 60 #[.slice a l c] w fun e u=>∃ a' c',e = .returned (.slice a' l c')∧w.grownBy u none∧SlGE (hideZ u w.heap.size) true a' l c' g):=by
 induction m with
 | zero =>
  constructor
  ·
   intro g a l c w hm h
   have hlen:=g.len_le
   have hfl:=h.1
   obtain rfl:l=0:=by omega
   obtain rfl:=GE.nil_of_len hfl
   clear h
   have hmk:=makeGE0
   go_enter Tryz.func59,Tryz.ntmps59
   go_wp2
   refine wp_loop_rounds 1 ?_
   rw[rounds_succ]
   go_wp2
   go_ret
   exact ⟨_,_,rfl,World.grownBy_alloc _ _ _,⟨rfl,by omega,⟨Nat.le_refl _,fun h=>by cases h⟩,.inl rfl⟩⟩
  ·
   intro g a l c w hm h
   have hlen:=g.len_le
   have hfl:=h.1
   obtain rfl:l=0:=by omega
   obtain rfl:=GE.nil_of_len hfl
   clear h
   have hmk:=makeGEA0
   go_enter Tryz.func60,Tryz.ntmps60
   go_wp2
   refine wp_loop_rounds 1 ?_
   rw[rounds_succ]
   go_wp2
   go_ret
   exact ⟨_,_,rfl,World.grownBy_alloc _ _ _,⟨rfl,by omega,⟨Nat.le_refl _,fun h=>by cases h⟩,.inl rfl⟩⟩
 | succ m ih =>
  have IH:Hid _:=ih (by omega)
  clear ih
  constructor
  ·
   intro g a l c w hm h
   have hlen:=g.len_le
   have hl:=h.2.1
   have hfl:=h.1
   rcases h.cases with ⟨rfl,rfl⟩|⟨b,o,rfl,hin,hpos⟩
   ·
    have hmk:=makeGE0
    go_enter Tryz.func59,Tryz.ntmps59
    go_wp2
    refine wp_loop_rounds 1 ?_
    rw[rounds_succ]
    go_wp2
    go_ret
    exact ⟨_,_,rfl,World.grownBy_alloc _ _ _,⟨rfl,by omega,⟨Nat.le_refl _,fun h=>by cases h⟩,.inl rfl⟩⟩
   have hmk:=makeGE l (by omega)
   have hb0:=madeGE_blk w l
   have IN:Hid (InGE w w false g b o):=hin
   have HB:Hid _:=hb0
   clear hin h hb0
   go_enter Tryz.func59,Tryz.ntmps59
   go_wp2
   go_loopw [4] (fun i wr=>∃ (j:Nat) (P R:GE),j≤l∧i = .int .i64 j∧P.len=j∧R.len+j=l∧R.size≤m+1∧Hid (w.grownBy wr none∧InGE w w false R b (o+j * 7)∧BlkN wr 36 w.heap.size (l * 7)∧InGE wr (hideZ wr (w.heap.size+1)) false P w.heap.size 0∧P.app R=g)) (fun i _=>l - (intOf i).toNat)
   case atStart=>exact ⟨0,.nil,g,Nat.zero_le _,rfl,rfl,by omega,hm,World.grownBy_alloc _ _ _,by simpa using IN.out,HB.out,trivial,rfl⟩
   case round =>
    obtain ⟨j,P,R,hj,rfl,hPl,hRl,hRs,HR⟩:=hrel
    by_cases hlt:j < l
    ·
     obtain ⟨q,hq⟩:∃ q,R.len=q+1:=⟨R.len - 1,by omega⟩
     obtain ⟨hc,hv,p,kids,alts,R',rfl,hR'⟩:=GE.cons_of_len hq
     obtain ⟨hg,hR,hB,hP,hcs⟩:=HR.out
     obtain ⟨hhv,a1,l1,c1,a2,l2,c2,a3,l3,c3,a4,l4,c4,a5,l5,c5,⟨k0,k1,k2,k3,k4,k5,k6⟩,hnd,hR2⟩:=hR.kid
     obtain ⟨rfl,rfl⟩:=hhv
     rw[show o+j * 7+7=o+(j+1) * 7 by omega] at hR2
     simp only[GE.size] at hRs
     simp only[GE.len] at hRl
     have hks:kids.size≤m:=by omega
     have has:alts.size≤m:=by omega
     have hps:szPE p≤1048576:=by omega
     have hhs:0≤1048576:=by omega
     have k0:=hg.cell k0 (by simp)
     have k1:=hg.cell k1 (by simp)
     have k2:=hg.cell k2 (by simp)
     have k3:=hg.cell k3 (by simp)
     have k4:=hg.cell k4 (by simp)
     have k5:=hg.cell k5 (by simp)
     have k6:=hg.cell k6 (by simp)
     have CC:Hid _:=toET_of p kids alts a1 l1 c1 a2 l2 c2 a3 l3 c3 a4 l4 c4 a5 l5 c5 wr (hnd.none hg) hps (fun u2 hu2=>IH.out.1 kids a4 l4 c4 u2 hks ((hnd.none hg).2.2.2.1.none hu2)) (fun u2 hu2=>IH.out.2 alts a5 l5 c5 u2 has ((hnd.none hg).2.2.2.2.none hu2))
     have FX:Hid (w.grownBy wr none∧InGE w w false R' b (o+(j+1) * 7)∧BlkN wr 36 w.heap.size (l * 7)∧InGE wr (hideZ wr (w.heap.size+1)) false P w.heap.size 0∧(P.app (.cons [] [] p kids alts .nil)).app R' = g):=⟨hg,hR2,hB,hP,by rw[GE.app_assoc];exact hcs⟩
     clear hnd hR hR2 hg hB hP hcs IN HR hmk HB
     go_wp2_with fail
     refine Calls.mono CC.out ?_
     rintro e u ⟨t1,w1,t2,w2,t3,w3,t4,w4,t5,w5,he,hgu,hr⟩
     subst he
     have hBu:=FX.out.2.2.1.of (hgu.block _ FX.out.2.2.1.lt (by simp))
     obtain ⟨_,qq0⟩:=hBu.has (j * 7) (by omega)
     have ff0:=hBu.free (j * 7)
     obtain ⟨_,qq1⟩:=hBu.has (j * 7+1) (by omega)
     have ff1:=hBu.free (j * 7+1)
     obtain ⟨_,qq2⟩:=hBu.has (j * 7+2) (by omega)
     have ff2:=hBu.free (j * 7+2)
     obtain ⟨_,qq3⟩:=hBu.has (j * 7+3) (by omega)
     have ff3:=hBu.free (j * 7+3)
     obtain ⟨_,qq4⟩:=hBu.has (j * 7+4) (by omega)
     have ff4:=hBu.free (j * 7+4)
     obtain ⟨_,qq5⟩:=hBu.has (j * 7+5) (by omega)
     have ff5:=hBu.free (j * 7+5)
     obtain ⟨_,qq6⟩:=hBu.has (j * 7+6) (by omega)
     have ff6:=hBu.free (j * 7+6)
     have FY:Hid (BlkN u 36 w.heap.size (l * 7)∧wr.grownBy u none∧NdE (hideZ u wr.heap.size) p kids alts t1 l1 w1 t2 l2 w2 t3 l3 w3 t4 l4 w4 t5 l5 w5):=⟨hBu,hgu,hr⟩
     clear CC hgu hr hBu k0 k1 k2 k3 k4 k5 k6
     simp only[]
     go_wp2
     obtain ⟨hg,hR2,hB,hP,hcs⟩:=FX.out
     obtain ⟨hBu,hgu,hr⟩:=FY.out
     have hsz:=hB.lt
     obtain ⟨hB3,hk3,tq,hoth⟩:=hBu.put7 (j * 7) (by omega) (.int .i64 p.k) (.int .i64 p.n) (.slice t1 l1 w1) (.slice t2 l2 w2) (.slice t3 l3 w3) (.slice t4 l4 w4) (.slice t5 l5 w5)
     have hfx:∀ i,w.heap.size+1≤i→i < wr.heap.size→_=wr.heap[i]?:=fun i h1 h2=>(hk3.block i (Nat.lt_of_lt_of_le h2 hgu.size) (by simp;omega)).trans (hgu.block i h2 (by simp))
     have hfu:∀ i,wr.heap.size≤i→i < u.heap.size→_=u.heap[i]?:=fun i h1 h2=>hk3.block i h2 (by simp;omega)
     have hwd:wdE false=7:=rfl
     have hP2:=hP.move (b':=w.heap.size) (off':=0) (fun i v hi hv=>(hoth (0+i) (by rw[hPl,hwd] at hi;omega)).trans (hgu.cell hv (by simp))) (CLe.hidz (Nat.le_refl _) hfx)
     have cl:=CLe.hidz (lo':=w.heap.size+1) (by omega) hfu
     have hQ:=hP2.app (Q:=(.cons [] [] p kids alts .nil)) (by rw[hPl,hwd,Nat.zero_add];exact InGE.mkKid ⟨tq.1,tq.2.1,tq.2.2.1,tq.2.2.2.1,tq.2.2.2.2.1,tq.2.2.2.2.2.1,tq.2.2.2.2.2.2⟩ (hr.le cl))
     have hlP:(P.app (.cons [] [] p kids alts .nil)).len=j+1:=by rw[GE.app_len,hPl];rfl
     go_roundw
     case rel=>exact ⟨j+1,P.app (.cons [] [] p kids alts .nil),R',by omega,by go_num,hlP,by omega,by omega,grown_into (grown_trans hg hgu) hk3 (Nat.le_refl _),hR2,hB3,hQ,hcs⟩
     case measure=>simp [intOf];omega
    ·
     obtain rfl:j=l:=by omega
     obtain rfl:R = .nil:=GE.nil_of_len (by omega)
     obtain ⟨hg,-,hB,hP,hcs⟩:=HR.out
     rw[GE.app_nil] at hcs
     subst hcs
     have FQ:Hid (w.grownBy wr none∧SlGE (hideZ wr w.heap.size) false (some ⟨w.heap.size,0,none⟩) j j P):=⟨hg,hPl,by omega,⟨Nat.le_refl _,fun h=>by cases h⟩,.inr ⟨_,_,rfl,hP.move (fun i v hi hv=>(hideZ_cell (Nat.le_refl _) hB).trans hv) (CLe.hidz (Nat.le_succ _) (fun _ _ _=>rfl))⟩⟩
     clear hg hB hP HR IN HB hmk
     go_wp2
     go_ret
     exact ⟨_,_,rfl,FQ.out.1,FQ.out.2⟩
  ·
   intro g a l c w hm h
   have hlen:=g.len_le
   have hl:=h.2.1
   have hfl:=h.1
   rcases h.cases with ⟨rfl,rfl⟩|⟨b,o,rfl,hin,hpos⟩
   ·
    have hmk:=makeGEA0
    go_enter Tryz.func60,Tryz.ntmps60
    go_wp2
    refine wp_loop_rounds 1 ?_
    rw[rounds_succ]
    go_wp2
    go_ret
    exact ⟨_,_,rfl,World.grownBy_alloc _ _ _,⟨rfl,by omega,⟨Nat.le_refl _,fun h=>by cases h⟩,.inl rfl⟩⟩
   have hmk:=makeGEA l (by omega)
   have hb0:=madeGEA_blk w l
   have IN:Hid (InGE w w true g b o):=hin
   have HB:Hid _:=hb0
   clear hin h hb0
   go_enter Tryz.func60,Tryz.ntmps60
   go_wp2
   go_loopw [4] (fun i wr=>∃ (j:Nat) (P R:GE),j≤l∧i = .int .i64 j∧P.len=j∧R.len+j=l∧R.size≤m+1∧Hid (w.grownBy wr none∧InGE w w true R b (o+j * 9)∧BlkN wr 87 w.heap.size (l * 9)∧InGE wr (hideZ wr (w.heap.size+1)) true P w.heap.size 0∧P.app R=g)) (fun i _=>l - (intOf i).toNat)
   case atStart=>exact ⟨0,.nil,g,Nat.zero_le _,rfl,rfl,by omega,hm,World.grownBy_alloc _ _ _,by simpa using IN.out,HB.out,trivial,rfl⟩
   case round =>
    obtain ⟨j,P,R,hj,rfl,hPl,hRl,hRs,HR⟩:=hrel
    by_cases hlt:j < l
    ·
     obtain ⟨q,hq⟩:∃ q,R.len=q+1:=⟨R.len - 1,by omega⟩
     obtain ⟨hc,hv,p,kids,alts,R',rfl,hR'⟩:=GE.cons_of_len hq
     obtain ⟨hg,hR,hB,hP,hcs⟩:=HR.out
     obtain ⟨e0,q0,d0,e1,q1,d1,a1,l1,c1,a2,l2,c2,a3,l3,c3,a4,l4,c4,a5,l5,c5,⟨m0,m1⟩,hgd,⟨k0,k1,k2,k3,k4,k5,k6⟩,hnd,hR2⟩:=hR.alt
     rw[show o+j * 9+9=o+(j+1) * 9 by omega] at hR2
     simp only[GE.size] at hRs
     simp only[GE.len] at hRl
     have hks:kids.size≤m:=by omega
     have has:alts.size≤m:=by omega
     have hps:szPE p≤1048576:=by omega
     have hhs:hc.length+szW hv≤1048576:=by omega
     have m0:=hg.cell m0 (by simp)
     have m1:=hg.cell m1 (by simp)
     have k0:=hg.cell k0 (by simp)
     have k1:=hg.cell k1 (by simp)
     have k2:=hg.cell k2 (by simp)
     have k3:=hg.cell k3 (by simp)
     have k4:=hg.cell k4 (by simp)
     have k5:=hg.cell k5 (by simp)
     have k6:=hg.cell k6 (by simp)
     have CC:Hid _:=toEA_of hc hv p kids alts e0 q0 d0 e1 q1 d1 a1 l1 c1 a2 l2 c2 a3 l3 c3 a4 l4 c4 a5 l5 c5 wr (⟨hgd.1.none hg,hgd.2.none hg⟩) hhs (fun u hu=>toET_of p kids alts a1 l1 c1 a2 l2 c2 a3 l3 c3 a4 l4 c4 a5 l5 c5 u ((hnd.none hg).none hu) hps (fun u2 hu2=>IH.out.1 kids a4 l4 c4 u2 hks (((hnd.none hg).none hu).2.2.2.1.none hu2)) (fun u2 hu2=>IH.out.2 alts a5 l5 c5 u2 has (((hnd.none hg).none hu).2.2.2.2.none hu2)))
     have FX:Hid (w.grownBy wr none∧InGE w w true R' b (o+(j+1) * 9)∧BlkN wr 87 w.heap.size (l * 9)∧InGE wr (hideZ wr (w.heap.size+1)) true P w.heap.size 0∧(P.app (.cons hc hv p kids alts .nil)).app R' = g):=⟨hg,hR2,hB,hP,by rw[GE.app_assoc];exact hcs⟩
     clear hnd hR hR2 hg hB hP hcs IN HR hmk HB hgd
     go_wp2_with fail
     refine Calls.mono CC.out ?_
     rintro e u ⟨x0,z0,x1,z1,t1,w1,t2,w2,t3,w3,t4,w4,t5,w5,he,hgu,hr⟩
     subst he
     have hBu:=FX.out.2.2.1.of (hgu.block _ FX.out.2.2.1.lt (by simp))
     obtain ⟨_,qq0⟩:=hBu.has (j * 9) (by omega)
     have ff0:=hBu.free (j * 9)
     obtain ⟨_,qq1⟩:=hBu.has (j * 9+1) (by omega)
     have ff1:=hBu.free (j * 9+1)
     obtain ⟨_,qq2⟩:=hBu.has (j * 9+2) (by omega)
     have ff2:=hBu.free (j * 9+2)
     obtain ⟨_,qq3⟩:=hBu.has (j * 9+3) (by omega)
     have ff3:=hBu.free (j * 9+3)
     obtain ⟨_,qq4⟩:=hBu.has (j * 9+4) (by omega)
     have ff4:=hBu.free (j * 9+4)
     obtain ⟨_,qq5⟩:=hBu.has (j * 9+5) (by omega)
     have ff5:=hBu.free (j * 9+5)
     obtain ⟨_,qq6⟩:=hBu.has (j * 9+6) (by omega)
     have ff6:=hBu.free (j * 9+6)
     obtain ⟨_,qq7⟩:=hBu.has (j * 9+7) (by omega)
     have ff7:=hBu.free (j * 9+7)
     obtain ⟨_,qq8⟩:=hBu.has (j * 9+8) (by omega)
     have ff8:=hBu.free (j * 9+8)
     have FY:Hid (BlkN u 87 w.heap.size (l * 9)∧wr.grownBy u none∧(RdB (hideZ u wr.heap.size) x0 q0 hc∧SlSC (hideZ u wr.heap.size) x1 q1 z1 hv∧NdE (hideZ u wr.heap.size) p kids alts t1 l1 w1 t2 l2 w2 t3 l3 w3 t4 l4 w4 t5 l5 w5)):=⟨hBu,hgu,hr⟩
     clear CC hgu hr hBu m0 m1 k0 k1 k2 k3 k4 k5 k6
     simp only[]
     go_wp2
     obtain ⟨hg,hR2,hB,hP,hcs⟩:=FX.out
     obtain ⟨hBu,hgu,hr⟩:=FY.out
     have hsz:=hB.lt
     obtain ⟨hB3,hk3,tq,hoth⟩:=hBu.put9 (j * 9) (by omega) (.slice x0 q0 z0) (.slice x1 q1 z1) (.int .i64 p.k) (.int .i64 p.n) (.slice t1 l1 w1) (.slice t2 l2 w2) (.slice t3 l3 w3) (.slice t4 l4 w4) (.slice t5 l5 w5)
     have hfx:∀ i,w.heap.size+1≤i→i < wr.heap.size→_=wr.heap[i]?:=fun i h1 h2=>(hk3.block i (Nat.lt_of_lt_of_le h2 hgu.size) (by simp;omega)).trans (hgu.block i h2 (by simp))
     have hfu:∀ i,wr.heap.size≤i→i < u.heap.size→_=u.heap[i]?:=fun i h1 h2=>hk3.block i h2 (by simp;omega)
     have hwd:wdE true=9:=rfl
     have hP2:=hP.move (b':=w.heap.size) (off':=0) (fun i v hi hv=>(hoth (0+i) (by rw[hPl,hwd] at hi;omega)).trans (hgu.cell hv (by simp))) (CLe.hidz (Nat.le_refl _) hfx)
     have cl:=CLe.hidz (lo':=w.heap.size+1) (by omega) hfu
     have hQ:=hP2.app (Q:=(.cons hc hv p kids alts .nil)) (by rw[hPl,hwd,Nat.zero_add];exact InGE.mkAlt ⟨tq.1,tq.2.1⟩ (⟨hr.1.le cl,hr.2.1.le cl⟩) ⟨tq.2.2.1,tq.2.2.2.1,tq.2.2.2.2.1,tq.2.2.2.2.2.1,tq.2.2.2.2.2.2.1,tq.2.2.2.2.2.2.2.1,tq.2.2.2.2.2.2.2.2⟩ (hr.2.2.le cl))
     have hlP:(P.app (.cons hc hv p kids alts .nil)).len=j+1:=by rw[GE.app_len,hPl];rfl
     go_roundw
     case rel=>exact ⟨j+1,P.app (.cons hc hv p kids alts .nil),R',by omega,by go_num,hlP,by omega,by omega,grown_into (grown_trans hg hgu) hk3 (Nat.le_refl _),hR2,hB3,hQ,hcs⟩
     case measure=>simp [intOf];omega
    ·
     obtain rfl:j=l:=by omega
     obtain rfl:R = .nil:=GE.nil_of_len (by omega)
     obtain ⟨hg,-,hB,hP,hcs⟩:=HR.out
     rw[GE.app_nil] at hcs
     subst hcs
     have FQ:Hid (w.grownBy wr none∧SlGE (hideZ wr w.heap.size) true (some ⟨w.heap.size,0,none⟩) j j P):=⟨hg,hPl,by omega,⟨Nat.le_refl _,fun h=>by cases h⟩,.inr ⟨_,_,rfl,hP.move (fun i v hi hv=>(hideZ_cell (Nat.le_refl _) hB).trans hv) (CLe.hidz (Nat.le_succ _) (fun _ _ _=>rfl))⟩⟩
     clear hg hB hP HR IN HB hmk
     go_wp2
     go_ret
     exact ⟨_,_,rfl,FQ.out.1,FQ.out.2⟩
theorem toET (p:PE) (kids alts:GE) (a1:Option Addr) (l1 c1:Nat) (a2:Option Addr) (l2 c2:Nat) (a3:Option Addr) (l3 c3:Nat) (a4:Option Addr) (l4 c4:Nat) (a5:Option Addr) (l5 c5:Nat) (w:World) (h:NdE w p kids alts a1 l1 c1 a2 l2 c2 a3 l3 c3 a4 l4 c4 a5 l5 c5) (hs:szPE p+kids.size+alts.size≤1048576) :
  Calls Tryz.prog 28 #[.agg #[.int .i64 p.k,.int .i64 p.n,.slice a1 l1 c1,.slice a2 l2 c2,.slice a3 l3 c3,.slice a4 l4 c4,.slice a5 l5 c5]] w fun e u=>∃ t1 w1 t2 w2 t3 w3 t4 w4 t5 w5,e = .returned (.agg #[.int .i64 p.k,.int .i64 p.n,.slice t1 l1 w1,.slice t2 l2 w2,.slice t3 l3 w3,.slice t4 l4 w4,.slice t5 l5 w5])∧w.grownBy u none∧NdE (hideZ u w.heap.size) p kids alts t1 l1 w1 t2 l2 w2 t3 l3 w3 t4 l4 w4 t5 l5 w5 :=
 toET_of p kids alts a1 l1 c1 a2 l2 c2 a3 l3 c3 a4 l4 c4 a5 l5 c5 w h (by omega) (fun u hu=>(toES kids.size (by omega)).1 kids a4 l4 c4 u (Nat.le_refl _) (h.2.2.2.1.none hu)) (fun u hu=>(toES alts.size (by omega)).2 alts a5 l5 c5 u (Nat.le_refl _) (h.2.2.2.2.none hu))
end Go.Proofs.YtblbnillilbacaaGreatDoor.By
namespace Go.Proofs.YtblbnillilbacaaGreatDoor.By
open Go.RowKit
set_option linter.unusedVariables false
set_option linter.unusedSimpArgs false
end Go.Proofs.YtblbnillilbacaaGreatDoor.By
