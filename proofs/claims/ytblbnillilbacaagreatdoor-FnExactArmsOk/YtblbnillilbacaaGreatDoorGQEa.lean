/-
  No statement is proved here.
-/
import Derived.Test.YtblbnillilbacaaGreatDoorGQAlsoa
namespace Go.Proofs.YtblbnillilbacaaGreatDoor.By
set_option maxRecDepth 100000
set_option maxHeartbeats 16000000
open Go.RowKit
set_option linter.unusedVariables false
set_option linter.unusedSimpArgs false
theorem eqET_of (p:PE) (kids alts:GE) (a1 f1:Option Addr) (l1 c1 g1:Nat) (a2 f2:Option Addr) (l2 c2 g2:Nat) (a3 f3:Option Addr) (l3 c3 g3:Nat) (a4 f4:Option Addr) (l4 c4 g4:Nat) (a5 f5:Option Addr) (l5 c5 g5:Nat) (w:World) (h:NdE w p kids alts a1 l1 c1 a2 l2 c2 a3 l3 c3 a4 l4 c4 a5 l5 c5) (h':NdE w p kids alts f1 l1 g1 f2 l2 g2 f3 l3 g3 f4 l4 g4 f5 l5 g5) (hs:szPE p≤1048576)
  (Hk:∀ u,w.grownBy u none→Calls Tryz.prog 62 #[.slice a4 l4 c4,.slice f4 l4 g4] u fun e v=>e = .returned (.bool true)∧u.grownBy v none)
  (Ha:∀ u,w.grownBy u none→Calls Tryz.prog 63 #[.slice a5 l5 c5,.slice f5 l5 g5] u fun e v=>e = .returned (.bool true)∧u.grownBy v none) :
  Calls Tryz.prog 30 #[.agg #[.int .i64 p.k,.int .i64 p.n,.slice a1 l1 c1,.slice a2 l2 c2,.slice a3 l3 c3,.slice a4 l4 c4,.slice a5 l5 c5],.agg #[.int .i64 p.k,.int .i64 p.n,.slice f1 l1 g1,.slice f2 l2 g2,.slice f3 l3 g3,.slice f4 l4 g4,.slice f5 l5 g5]] w fun e u=>e = .returned (.bool true)∧w.grownBy u none:=by
 have hb1:l1≤4194304:=by have:=h.1.1.1;unfold szPE at hs;omega
 have hb2:l2≤4194304:=by have:=h.2.1.1.1;unfold szPE at hs;omega
 have hb3:l3≤4194304:=by have:=h.2.2.1.1.1;unfold szPE at hs;omega
 have HK:Hid _:=Hk;have HA:Hid _:=Ha
 have HN:Hid (∀ u,w.grownBy u none→NdE u p kids alts a1 l1 c1 a2 l2 c2 a3 l3 c3 a4 l4 c4 a5 l5 c5∧NdE u p kids alts f1 l1 g1 f2 l2 g2 f3 l3 g3 f4 l4 g4 f5 l5 g5):=fun u hu=>⟨h.none hu,h'.none hu⟩
 clear Hk Ha h h';obtain ⟨b0,b1,bsz⟩:=alloc2_blocks w (.cells #[.int .i64 p.k,.int .i64 p.n,.slice a1 l1 c1,.slice a2 l2 c2,.slice a3 l3 c3,.slice a4 l4 c4,.slice a5 l5 c5] 36) (.cells #[.int .i64 p.k,.int .i64 p.n,.slice f1 l1 g1,.slice f2 l2 g2,.slice f3 l3 g3,.slice f4 l4 g4,.slice f5 l5 g5] 36);have g0:=grown_alloc (grown_alloc (grf w none) (.cells #[.int .i64 p.k,.int .i64 p.n,.slice a1 l1 c1,.slice a2 l2 c2,.slice a3 l3 c3,.slice a4 l4 c4,.slice a5 l5 c5] 36)) (.cells #[.int .i64 p.k,.int .i64 p.n,.slice f1 l1 g1,.slice f2 l2 g2,.slice f3 l3 g3,.slice f4 l4 g4,.slice f5 l5 g5] 36);have L0:Hid (w.grownBy _ none∧_=some (Obj.cells #[.int .i64 p.k,.int .i64 p.n,.slice a1 l1 c1,.slice a2 l2 c2,.slice a3 l3 c3,.slice a4 l4 c4,.slice a5 l5 c5] 36)∧_=some (Obj.cells #[.int .i64 p.k,.int .i64 p.n,.slice f1 l1 g1,.slice f2 l2 g2,.slice f3 l3 g3,.slice f4 l4 g4,.slice f5 l5 g5] 36)):=⟨g0,b0,b1⟩
 have C0:Hid _:=eqBy a1 f1 l1 c1 g1 (p.name) _ ((HN.out _ g0).1.1).1 ((HN.out _ g0).2.1).1 (hb1);obtain ⟨⟨y0,y1,y2,y3,y4,y5,y6⟩,-⟩:=blkE b0;obtain ⟨⟨yy0,yy1,yy2,yy3,yy4,yy5,yy6⟩,-⟩:=blkE b1;clear g0 b0 b1 bsz;go_enter Tryz.func30,Tryz.ntmps30;go_wp2_with fail;refine Calls.mono C0.out ?_;rintro e u0 ⟨he,hg⟩;subst he;have L1:Hid (w.grownBy u0 none∧u0.heap[w.heap.size]? = some (Obj.cells #[.int .i64 p.k,.int .i64 p.n,.slice a1 l1 c1,.slice a2 l2 c2,.slice a3 l3 c3,.slice a4 l4 c4,.slice a5 l5 c5] 36)∧u0.heap[w.heap.size+1]? = some (Obj.cells #[.int .i64 p.k,.int .i64 p.n,.slice f1 l1 g1,.slice f2 l2 g2,.slice f3 l3 g3,.slice f4 l4 g4,.slice f5 l5 g5] 36)):=⟨gtr L0.out.1 hg,(hg.block _ (lt_of_block L0.out.2.1) (by simp)).trans L0.out.2.1,(hg.block _ (lt_of_block L0.out.2.2) (by simp)).trans L0.out.2.2⟩;clear C0 hg L0 y0 y1 y2 y3 y4 y5 y6 yy0 yy1 yy2 yy3 yy4 yy5 yy6;simp only[];have C1:Hid _:=eqBy a2 f2 l2 c2 g2 (p.arg) u0 ((HN.out u0 L1.out.1).1.2.1).1 ((HN.out u0 L1.out.1).2.2.1).1 (hb2)
 obtain ⟨⟨y0,y1,y2,y3,y4,y5,y6⟩,-⟩:=blkE L1.out.2.1;obtain ⟨⟨yy0,yy1,yy2,yy3,yy4,yy5,yy6⟩,-⟩:=blkE L1.out.2.2;go_wp2_with fail;refine Calls.mono C1.out ?_;rintro e u1 ⟨he,hg⟩;subst he;have L2:Hid (w.grownBy u1 none∧u1.heap[w.heap.size]? = some (Obj.cells #[.int .i64 p.k,.int .i64 p.n,.slice a1 l1 c1,.slice a2 l2 c2,.slice a3 l3 c3,.slice a4 l4 c4,.slice a5 l5 c5] 36)∧u1.heap[w.heap.size+1]? = some (Obj.cells #[.int .i64 p.k,.int .i64 p.n,.slice f1 l1 g1,.slice f2 l2 g2,.slice f3 l3 g3,.slice f4 l4 g4,.slice f5 l5 g5] 36)):=⟨gtr L1.out.1 hg,(hg.block _ (lt_of_block L1.out.2.1) (by simp)).trans L1.out.2.1,(hg.block _ (lt_of_block L1.out.2.2) (by simp)).trans L1.out.2.2⟩;clear C1 hg L1 y0 y1 y2 y3 y4 y5 y6 yy0 yy1 yy2 yy3 yy4 yy5 yy6;simp only[];have C2:Hid _:=eqBy a3 f3 l3 c3 g3 (p.lit) u1 ((HN.out u1 L2.out.1).1.2.2.1).1 ((HN.out u1 L2.out.1).2.2.2.1).1 (hb3);obtain ⟨⟨y0,y1,y2,y3,y4,y5,y6⟩,-⟩:=blkE L2.out.2.1
 obtain ⟨⟨yy0,yy1,yy2,yy3,yy4,yy5,yy6⟩,-⟩:=blkE L2.out.2.2;go_wp2_with fail;refine Calls.mono C2.out ?_;rintro e u2 ⟨he,hg⟩;subst he;have L3:Hid (w.grownBy u2 none∧u2.heap[w.heap.size]? = some (Obj.cells #[.int .i64 p.k,.int .i64 p.n,.slice a1 l1 c1,.slice a2 l2 c2,.slice a3 l3 c3,.slice a4 l4 c4,.slice a5 l5 c5] 36)∧u2.heap[w.heap.size+1]? = some (Obj.cells #[.int .i64 p.k,.int .i64 p.n,.slice f1 l1 g1,.slice f2 l2 g2,.slice f3 l3 g3,.slice f4 l4 g4,.slice f5 l5 g5] 36)):=⟨gtr L2.out.1 hg,(hg.block _ (lt_of_block L2.out.2.1) (by simp)).trans L2.out.2.1,(hg.block _ (lt_of_block L2.out.2.2) (by simp)).trans L2.out.2.2⟩;clear C2 hg L2 y0 y1 y2 y3 y4 y5 y6 yy0 yy1 yy2 yy3 yy4 yy5 yy6;simp only[];have C3:Hid _:=HK.out u2 L3.out.1;obtain ⟨⟨y0,y1,y2,y3,y4,y5,y6⟩,-⟩:=blkE L3.out.2.1;obtain ⟨⟨yy0,yy1,yy2,yy3,yy4,yy5,yy6⟩,-⟩:=blkE L3.out.2.2;go_wp2_with fail;refine Calls.mono C3.out ?_;rintro e u3 ⟨he,hg⟩
 subst he;have L4:Hid (w.grownBy u3 none∧u3.heap[w.heap.size]? = some (Obj.cells #[.int .i64 p.k,.int .i64 p.n,.slice a1 l1 c1,.slice a2 l2 c2,.slice a3 l3 c3,.slice a4 l4 c4,.slice a5 l5 c5] 36)∧u3.heap[w.heap.size+1]? = some (Obj.cells #[.int .i64 p.k,.int .i64 p.n,.slice f1 l1 g1,.slice f2 l2 g2,.slice f3 l3 g3,.slice f4 l4 g4,.slice f5 l5 g5] 36)):=⟨gtr L3.out.1 hg,(hg.block _ (lt_of_block L3.out.2.1) (by simp)).trans L3.out.2.1,(hg.block _ (lt_of_block L3.out.2.2) (by simp)).trans L3.out.2.2⟩;clear C3 hg L3 y0 y1 y2 y3 y4 y5 y6 yy0 yy1 yy2 yy3 yy4 yy5 yy6;simp only[];have C4:Hid _:=HA.out u3 L4.out.1;obtain ⟨⟨y0,y1,y2,y3,y4,y5,y6⟩,-⟩:=blkE L4.out.2.1;obtain ⟨⟨yy0,yy1,yy2,yy3,yy4,yy5,yy6⟩,-⟩:=blkE L4.out.2.2;go_wp2_with fail;refine Calls.mono C4.out ?_;rintro e u4 ⟨he,hg⟩;subst he;have L5:Hid (w.grownBy u4 none∧u4.heap[w.heap.size]? = some (Obj.cells #[.int .i64 p.k,.int .i64 p.n,.slice a1 l1 c1,.slice a2 l2 c2,.slice a3 l3 c3,.slice a4 l4 c4,.slice a5 l5 c5] 36)∧u4.heap[w.heap.size+1]? = some (Obj.cells #[.int .i64 p.k,.int .i64 p.n,.slice f1 l1 g1,.slice f2 l2 g2,.slice f3 l3 g3,.slice f4 l4 g4,.slice f5 l5 g5] 36)):=⟨gtr L4.out.1 hg,(hg.block _ (lt_of_block L4.out.2.1) (by simp)).trans L4.out.2.1,(hg.block _ (lt_of_block L4.out.2.2) (by simp)).trans L4.out.2.2⟩
 clear C4 hg L4 y0 y1 y2 y3 y4 y5 y6 yy0 yy1 yy2 yy3 yy4 yy5 yy6;simp only[];go_wp2;go_ret;exact ⟨rfl,L5.out.1⟩
theorem eqEA_of (hc:List Int) (hv:List (List Int)) (p:PE) (e0 x0:Option Addr) (q0 d0 z0:Nat) (e1 x1:Option Addr) (q1 d1 z1:Nat) (a1 f1:Option Addr) (l1 c1 g1:Nat) (a2 f2:Option Addr) (l2 c2 g2:Nat) (a3 f3:Option Addr) (l3 c3 g3:Nat) (a4 f4:Option Addr) (l4 c4 g4:Nat) (a5 f5:Option Addr) (l5 c5 g5:Nat) (w:World) (h:RdB w e0 q0 hc∧SlSC w e1 q1 d1 hv) (h':RdB w x0 q0 hc∧SlSC w x1 q1 z1 hv) (hs:hc.length+szW hv≤1048576)
  (Hb:∀ u,w.grownBy u none→Calls Tryz.prog 30 #[.agg #[.int .i64 p.k,.int .i64 p.n,.slice a1 l1 c1,.slice a2 l2 c2,.slice a3 l3 c3,.slice a4 l4 c4,.slice a5 l5 c5],.agg #[.int .i64 p.k,.int .i64 p.n,.slice f1 l1 g1,.slice f2 l2 g2,.slice f3 l3 g3,.slice f4 l4 g4,.slice f5 l5 g5]] u fun e v=>e = .returned (.bool true)∧u.grownBy v none) :
  Calls Tryz.prog 94 #[.agg #[.slice e0 q0 d0,.slice e1 q1 d1,.int .i64 p.k,.int .i64 p.n,.slice a1 l1 c1,.slice a2 l2 c2,.slice a3 l3 c3,.slice a4 l4 c4,.slice a5 l5 c5],.agg #[.slice x0 q0 z0,.slice x1 q1 z1,.int .i64 p.k,.int .i64 p.n,.slice f1 l1 g1,.slice f2 l2 g2,.slice f3 l3 g3,.slice f4 l4 g4,.slice f5 l5 g5]] w fun e u=>e = .returned (.bool true)∧w.grownBy u none:=by
 have hb0:q0≤4194304:=by have:=h.1.1.1;omega
 have hb1:szW hv≤1048576:=by omega
 have HB:Hid _:=Hb
 have HN:Hid (∀ u,w.grownBy u none→(RdB u e0 q0 hc∧SlSC u e1 q1 d1 hv)∧(RdB u x0 q0 hc∧SlSC u x1 q1 z1 hv)):=fun u hu=>⟨⟨h.1.none hu,h.2.none hu⟩,⟨h'.1.none hu,h'.2.none hu⟩⟩
 clear Hb h h';obtain ⟨b0,b1,bsz⟩:=alloc2_blocks w (.cells #[.slice e0 q0 d0,.slice e1 q1 d1,.int .i64 p.k,.int .i64 p.n,.slice a1 l1 c1,.slice a2 l2 c2,.slice a3 l3 c3,.slice a4 l4 c4,.slice a5 l5 c5] 87) (.cells #[.slice x0 q0 z0,.slice x1 q1 z1,.int .i64 p.k,.int .i64 p.n,.slice f1 l1 g1,.slice f2 l2 g2,.slice f3 l3 g3,.slice f4 l4 g4,.slice f5 l5 g5] 87);have g0:=grown_alloc (grown_alloc (grf w none) (.cells #[.slice e0 q0 d0,.slice e1 q1 d1,.int .i64 p.k,.int .i64 p.n,.slice a1 l1 c1,.slice a2 l2 c2,.slice a3 l3 c3,.slice a4 l4 c4,.slice a5 l5 c5] 87)) (.cells #[.slice x0 q0 z0,.slice x1 q1 z1,.int .i64 p.k,.int .i64 p.n,.slice f1 l1 g1,.slice f2 l2 g2,.slice f3 l3 g3,.slice f4 l4 g4,.slice f5 l5 g5] 87);have L0:Hid (w.grownBy _ none∧_=some (Obj.cells #[.slice e0 q0 d0,.slice e1 q1 d1,.int .i64 p.k,.int .i64 p.n,.slice a1 l1 c1,.slice a2 l2 c2,.slice a3 l3 c3,.slice a4 l4 c4,.slice a5 l5 c5] 87)∧_=some (Obj.cells #[.slice x0 q0 z0,.slice x1 q1 z1,.int .i64 p.k,.int .i64 p.n,.slice f1 l1 g1,.slice f2 l2 g2,.slice f3 l3 g3,.slice f4 l4 g4,.slice f5 l5 g5] 87)):=⟨g0,b0,b1⟩
 have C0:Hid _:=eqBy e0 x0 q0 d0 z0 hc _ ((HN.out _ g0).1.1.1) ((HN.out _ g0).2.1.1) (hb0);obtain ⟨⟨y0,y1,y2,y3,y4,y5,y6,y7,y8⟩,-⟩:=blkEA b0;obtain ⟨⟨yy0,yy1,yy2,yy3,yy4,yy5,yy6,yy7,yy8⟩,-⟩:=blkEA b1;clear g0 b0 b1 bsz;go_enter Tryz.func94,Tryz.ntmps94;go_wp2_with fail;refine Calls.mono C0.out ?_;rintro e u0 ⟨he,hg⟩;subst he;have L1:Hid (w.grownBy u0 none∧u0.heap[w.heap.size]? = some (Obj.cells #[.slice e0 q0 d0,.slice e1 q1 d1,.int .i64 p.k,.int .i64 p.n,.slice a1 l1 c1,.slice a2 l2 c2,.slice a3 l3 c3,.slice a4 l4 c4,.slice a5 l5 c5] 87)∧u0.heap[w.heap.size+1]? = some (Obj.cells #[.slice x0 q0 z0,.slice x1 q1 z1,.int .i64 p.k,.int .i64 p.n,.slice f1 l1 g1,.slice f2 l2 g2,.slice f3 l3 g3,.slice f4 l4 g4,.slice f5 l5 g5] 87)):=⟨gtr L0.out.1 hg,(hg.block _ (lt_of_block L0.out.2.1) (by simp)).trans L0.out.2.1,(hg.block _ (lt_of_block L0.out.2.2) (by simp)).trans L0.out.2.2⟩;clear C0 hg L0 y0 y1 y2 y3 y4 y5 y6 y7 y8 yy0 yy1 yy2 yy3 yy4 yy5 yy6 yy7 yy8
 simp only[];have C1:Hid _:=eqWW e1 x1 q1 d1 z1 hv u0 ((HN.out u0 L1.out.1).1.2.1) ((HN.out u0 L1.out.1).2.2.1) (hb1);obtain ⟨⟨y0,y1,y2,y3,y4,y5,y6,y7,y8⟩,-⟩:=blkEA L1.out.2.1;obtain ⟨⟨yy0,yy1,yy2,yy3,yy4,yy5,yy6,yy7,yy8⟩,-⟩:=blkEA L1.out.2.2;go_wp2_with fail;refine Calls.mono C1.out ?_;rintro e u1 ⟨he,hg⟩;subst he;have L2:Hid (w.grownBy u1 none∧u1.heap[w.heap.size]? = some (Obj.cells #[.slice e0 q0 d0,.slice e1 q1 d1,.int .i64 p.k,.int .i64 p.n,.slice a1 l1 c1,.slice a2 l2 c2,.slice a3 l3 c3,.slice a4 l4 c4,.slice a5 l5 c5] 87)∧u1.heap[w.heap.size+1]? = some (Obj.cells #[.slice x0 q0 z0,.slice x1 q1 z1,.int .i64 p.k,.int .i64 p.n,.slice f1 l1 g1,.slice f2 l2 g2,.slice f3 l3 g3,.slice f4 l4 g4,.slice f5 l5 g5] 87)):=⟨gtr L1.out.1 hg,(hg.block _ (lt_of_block L1.out.2.1) (by simp)).trans L1.out.2.1,(hg.block _ (lt_of_block L1.out.2.2) (by simp)).trans L1.out.2.2⟩;clear C1 hg L1 y0 y1 y2 y3 y4 y5 y6 y7 y8 yy0 yy1 yy2 yy3 yy4 yy5 yy6 yy7 yy8
 simp only[];have C2:Hid _:=HB.out u1 L2.out.1;obtain ⟨⟨y0,y1,y2,y3,y4,y5,y6,y7,y8⟩,-⟩:=blkEA L2.out.2.1;obtain ⟨⟨yy0,yy1,yy2,yy3,yy4,yy5,yy6,yy7,yy8⟩,-⟩:=blkEA L2.out.2.2;go_wp2_with fail;refine Calls.mono C2.out ?_;rintro e u2 ⟨he,hg⟩;subst he;have L3:Hid (w.grownBy u2 none∧u2.heap[w.heap.size]? = some (Obj.cells #[.slice e0 q0 d0,.slice e1 q1 d1,.int .i64 p.k,.int .i64 p.n,.slice a1 l1 c1,.slice a2 l2 c2,.slice a3 l3 c3,.slice a4 l4 c4,.slice a5 l5 c5] 87)∧u2.heap[w.heap.size+1]? = some (Obj.cells #[.slice x0 q0 z0,.slice x1 q1 z1,.int .i64 p.k,.int .i64 p.n,.slice f1 l1 g1,.slice f2 l2 g2,.slice f3 l3 g3,.slice f4 l4 g4,.slice f5 l5 g5] 87)):=⟨gtr L2.out.1 hg,(hg.block _ (lt_of_block L2.out.2.1) (by simp)).trans L2.out.2.1,(hg.block _ (lt_of_block L2.out.2.2) (by simp)).trans L2.out.2.2⟩;clear C2 hg L2 y0 y1 y2 y3 y4 y5 y6 y7 y8 yy0 yy1 yy2 yy3 yy4 yy5 yy6 yy7 yy8;simp only[];go_wp2;go_ret
 exact ⟨rfl,L3.out.1⟩
theorem eqES (m:Nat) (hM:m≤1048576):(∀ (g:GE) (a a':Option Addr) (l c c':Nat) (w:World),g.size≤m→SlGE w false a l c g→SlGE w false a' l c' g→Calls Tryz.prog 62 #[.slice a l c,.slice a' l c'] w fun e u=>e = .returned (.bool true)∧w.grownBy u none) ∧
  (∀ (g:GE) (a a':Option Addr) (l c c':Nat) (w:World),g.size≤m→SlGE w true a l c g→SlGE w true a' l c' g→Calls Tryz.prog 63 #[.slice a l c,.slice a' l c'] w fun e u=>e = .returned (.bool true)∧w.grownBy u none):=by
 induction m with
 | zero =>
  constructor
  ·
   intro g a a' l c c' w hm h h';have hlen:=g.len_le;have hfl:=h.1
   obtain rfl:l=0:=by omega
   obtain rfl:=GE.nil_of_len hfl;clear h h';go_enter Tryz.func62,Tryz.ntmps62;go_wp2;refine wp_loop_rounds 1 ?_;rw[rounds_succ];go_wp2;go_ret;exact ⟨rfl,grf _ _⟩
  ·
   intro g a a' l c c' w hm h h';have hlen:=g.len_le;have hfl:=h.1
   obtain rfl:l=0:=by omega
   obtain rfl:=GE.nil_of_len hfl;clear h h';go_enter Tryz.func63,Tryz.ntmps63;go_wp2;refine wp_loop_rounds 1 ?_;rw[rounds_succ];go_wp2;go_ret;exact ⟨rfl,grf _ _⟩
 | succ m ih =>
  have IH:Hid _:=ih (by omega);clear ih;constructor
  ·
   intro g a a' l c c' w hm h h';have hl:=h.2.1;have hfl:=h.1;rcases h.cases with ⟨rfl,rfl⟩|⟨b,o,rfl,hin,hpos⟩
   ·
    go_enter Tryz.func62,Tryz.ntmps62;go_wp2;refine wp_loop_rounds 1 ?_;rw[rounds_succ];go_wp2;go_ret;exact ⟨rfl,grf _ _⟩
   rcases h'.cases with ⟨rfl,rfl⟩|⟨b',o',rfl,hin',-⟩
   ·
    exact absurd hpos (by omega)
   have IN:Hid (InGE w w false g b o∧InGE w w false g b' o'):=⟨hin,hin'⟩;clear hin hin' h h';go_enter Tryz.func62,Tryz.ntmps62;go_wp2
   go_loopw [5] (fun i wr=>∃ (j:Nat) (R:GE),j≤l∧i = .int .i64 j∧Hid (w.grownBy wr none∧InGE wr wr false R b (o+j * 7)∧InGE wr wr false R b' (o' + j * 7))∧R.size≤m+1∧R.len+j=l) (fun i _=>l - (intOf i).toNat)
   case atStart=>exact ⟨0,g,Nat.zero_le _,rfl,⟨grf _ _,by simpa using IN.out.1,by simpa using IN.out.2⟩,hm,by omega⟩
   case round =>
    obtain ⟨j,R,hj,rfl,HR,hRs,hRl⟩:=hrel;by_cases hlt:j < l
    ·
     obtain ⟨q,hq⟩:∃ q,R.len=q+1:=⟨R.len - 1,by omega⟩;obtain ⟨hc,hv,p,kids,alts,R',rfl,hR'⟩:=GE.cons_of_len hq;obtain ⟨hg,hi1,hi2⟩:=HR.out;obtain ⟨-,a1,l1,c1,a2,l2,c2,a3,l3,c3,a4,l4,c4,a5,l5,c5,kk1,hnd,hR2⟩:=hi1.kid;obtain ⟨-,f1,n1,g1,f2,n2,g2,f3,n3,g3,f4,n4,g4,f5,n5,g5,kk2,hne,hR3⟩:=hi2.kid
     obtain rfl:l1=n1:=by have:=hnd.1.1.1;have:=hne.1.1.1;omega
     obtain rfl:l2=n2:=by have:=hnd.2.1.1.1;have:=hne.2.1.1.1;omega
     obtain rfl:l3=n3:=by have:=hnd.2.2.1.1.1;have:=hne.2.2.1.1.1;omega
     obtain rfl:l4=n4:=by have:=hnd.2.2.2.1.1;have:=hne.2.2.2.1.1;omega
     obtain rfl:l5=n5:=by have:=hnd.2.2.2.2.1;have:=hne.2.2.2.2.1;omega
     rw[show o+j * 7+7=o+(j+1) * 7 by omega] at hR2;rw[show o' + j * 7+7=o' + (j+1) * 7 by omega] at hR3;simp only[GE.size] at hRs
     have hks:kids.size≤m:=by omega
     have has:alts.size≤m:=by omega
     have hps:szPE p≤1048576:=by omega
     have hhs:hc.length+szW hv≤1048576:=by omega
     have gd:=grown_drew (grf wr none);have gc:=CLe.grown gd;have CC:Hid _:=eqET_of p kids alts a1 f1 l1 c1 g1 a2 f2 l2 c2 g2 a3 f3 l3 c3 g3 a4 f4 l4 c4 g4 a5 f5 l5 c5 g5 wr.drew (hnd.none gd) (hne.none gd) hps (fun u2 hu2=>IH.out.1 kids a4 f4 l4 c4 g4 u2 hks ((hnd.none gd).2.2.2.1.none hu2) ((hne.none gd).2.2.2.1.none hu2)) (fun u2 hu2=>IH.out.2 alts a5 f5 l5 c5 g5 u2 has ((hnd.none gd).2.2.2.2.none hu2) ((hne.none gd).2.2.2.2.none hu2))
     have TT:Hid (∀ u,wr.grownBy u none→(CelE u b (o+j * 7) (.int .i64 p.k) (.int .i64 p.n) (.slice a1 l1 c1) (.slice a2 l2 c2) (.slice a3 l3 c3) (.slice a4 l4 c4) (.slice a5 l5 c5)∧CelE u b' (o' + j * 7) (.int .i64 p.k) (.int .i64 p.n) (.slice f1 l1 g1) (.slice f2 l2 g2) (.slice f3 l3 g3) (.slice f4 l4 g4) (.slice f5 l5 g5))):=fun u hu=>⟨kk1.le (CLe.grown hu),kk2.le (CLe.grown hu)⟩
     have FX:Hid (w.grownBy wr.drew none∧InGE wr.drew wr.drew false R' b (o+(j+1) * 7)∧InGE wr.drew wr.drew false R' b' (o' + (j+1) * 7)∧wr.grownBy wr.drew none):=⟨gtr hg gd,hR2.le gc gc,hR3.le gc gc,gd⟩;clear hnd hne hR2 hR3 hg IN HR gd gc hi1 hi2 kk1 kk2;simp only[GE.len] at hRl;go_wp2_with fail;refine wp_region_held_drew (S:=(fun u=>(CelE u b (o+j * 7) (.int .i64 p.k) (.int .i64 p.n) (.slice a1 l1 c1) (.slice a2 l2 c2) (.slice a3 l3 c3) (.slice a4 l4 c4) (.slice a5 l5 c5)∧CelE u b' (o' + j * 7) (.int .i64 p.k) (.int .i64 p.n) (.slice f1 l1 g1) (.slice f2 l2 g2) (.slice f3 l3 g3) (.slice f4 l4 g4) (.slice f5 l5 g5)))) (by kernel_rfl) (TT.out _ FX.out.2.2.2) (fun hH=>?_);generalize wr.drew=u at *;simp only[List.size_toArray,lB,lC,Nat.reduceAdd,Array.replicate,List.replicate];refine tk 0 ?_;refine tk 1 ?_;refine tk 2 ?_;refine tk 3 ?_;refine tk 4 ?_;refine tk 5 ?_;refine tk 6 ?_;refine tk 7 ?_
     refine rd 8 rfl (fun K hK=>?_);go_simp;refine Calls.mono CC.out ?_;rintro e u2 ⟨he,hgu⟩;subst he;refine hK.out _ _ (TT.out _ (gtr FX.out.2.2.2 hgu)) ?_;clear hK K hH;intro hH;have FY:Hid (w.grownBy u2 none∧InGE u2 u2 false R' b (o+(j+1) * 7)∧InGE u2 u2 false R' b' (o' + (j+1) * 7)):=⟨gtr FX.out.1 hgu,FX.out.2.1.le (CLe.grown hgu) (CLe.grown hgu),FX.out.2.2.1.le (CLe.grown hgu) (CLe.grown hgu)⟩;clear FX hgu CC TT;simp only[Act.put,nA,nB,nC,nD,nE,nF];refine tk 9 ?_;refine wpAnyH_done (by kernel_rfl) ?_ _;go_wp2;go_roundw
     case rel=>exact ⟨j+1,R',by omega,by go_num,FY,by omega,by omega⟩
     case measure=>simp [intOf];omega
    ·
     obtain rfl:j=l:=by omega
     have E:Hid (w.grownBy wr none):=HR.out.1;clear HR IN;go_wp2;go_ret;exact ⟨rfl,E.out⟩
  ·
   intro g a a' l c c' w hm h h';have hl:=h.2.1;have hfl:=h.1;rcases h.cases with ⟨rfl,rfl⟩|⟨b,o,rfl,hin,hpos⟩
   ·
    go_enter Tryz.func63,Tryz.ntmps63;go_wp2;refine wp_loop_rounds 1 ?_;rw[rounds_succ];go_wp2;go_ret;exact ⟨rfl,grf _ _⟩
   rcases h'.cases with ⟨rfl,rfl⟩|⟨b',o',rfl,hin',-⟩
   ·
    exact absurd hpos (by omega)
   have IN:Hid (InGE w w true g b o∧InGE w w true g b' o'):=⟨hin,hin'⟩;clear hin hin' h h';go_enter Tryz.func63,Tryz.ntmps63;go_wp2
   go_loopw [5] (fun i wr=>∃ (j:Nat) (R:GE),j≤l∧i = .int .i64 j∧Hid (w.grownBy wr none∧InGE wr wr true R b (o+j * 9)∧InGE wr wr true R b' (o' + j * 9))∧R.size≤m+1∧R.len+j=l) (fun i _=>l - (intOf i).toNat)
   case atStart=>exact ⟨0,g,Nat.zero_le _,rfl,⟨grf _ _,by simpa using IN.out.1,by simpa using IN.out.2⟩,hm,by omega⟩
   case round =>
    obtain ⟨j,R,hj,rfl,HR,hRs,hRl⟩:=hrel;by_cases hlt:j < l
    ·
     obtain ⟨q,hq⟩:∃ q,R.len=q+1:=⟨R.len - 1,by omega⟩;obtain ⟨hc,hv,p,kids,alts,R',rfl,hR'⟩:=GE.cons_of_len hq;obtain ⟨hg,hi1,hi2⟩:=HR.out;obtain ⟨e0,q0,d0,e1,q1,d1,a1,l1,c1,a2,l2,c2,a3,l3,c3,a4,l4,c4,a5,l5,c5,hh1,hgd,kk1,hnd,hR2⟩:=hi1.alt;obtain ⟨x0,w0,z0,x1,w1,z1,f1,n1,g1,f2,n2,g2,f3,n3,g3,f4,n4,g4,f5,n5,g5,hh2,hge,kk2,hne,hR3⟩:=hi2.alt
     obtain rfl:l1=n1:=by have:=hnd.1.1.1;have:=hne.1.1.1;omega
     obtain rfl:l2=n2:=by have:=hnd.2.1.1.1;have:=hne.2.1.1.1;omega
     obtain rfl:l3=n3:=by have:=hnd.2.2.1.1.1;have:=hne.2.2.1.1.1;omega
     obtain rfl:l4=n4:=by have:=hnd.2.2.2.1.1;have:=hne.2.2.2.1.1;omega
     obtain rfl:l5=n5:=by have:=hnd.2.2.2.2.1;have:=hne.2.2.2.2.1;omega
     obtain rfl:q0=w0:=by have:=hgd.1.1.1;have:=hge.1.1.1;omega
     obtain rfl:q1=w1:=by have:=hgd.2.1.1;have:=hge.2.1.1;omega
     rw[show o+j * 9+9=o+(j+1) * 9 by omega] at hR2;rw[show o' + j * 9+9=o' + (j+1) * 9 by omega] at hR3;simp only[GE.size] at hRs
     have hks:kids.size≤m:=by omega
     have has:alts.size≤m:=by omega
     have hps:szPE p≤1048576:=by omega
     have hhs:hc.length+szW hv≤1048576:=by omega
     have gd:=grown_drew (grf wr none);have gc:=CLe.grown gd;have CC:Hid _:=eqEA_of hc hv p e0 x0 q0 d0 z0 e1 x1 q1 d1 z1 a1 f1 l1 c1 g1 a2 f2 l2 c2 g2 a3 f3 l3 c3 g3 a4 f4 l4 c4 g4 a5 f5 l5 c5 g5 wr.drew (⟨hgd.1.none gd,hgd.2.none gd⟩) (⟨hge.1.none gd,hge.2.none gd⟩) hhs (fun u hu=>eqET_of p kids alts a1 f1 l1 c1 g1 a2 f2 l2 c2 g2 a3 f3 l3 c3 g3 a4 f4 l4 c4 g4 a5 f5 l5 c5 g5 u ((hnd.none gd).none hu) ((hne.none gd).none hu) hps (fun u2 hu2=>IH.out.1 kids a4 f4 l4 c4 g4 u2 hks (((hnd.none gd).none hu).2.2.2.1.none hu2) (((hne.none gd).none hu).2.2.2.1.none hu2)) (fun u2 hu2=>IH.out.2 alts a5 f5 l5 c5 g5 u2 has (((hnd.none gd).none hu).2.2.2.2.none hu2) (((hne.none gd).none hu).2.2.2.2.none hu2)))
     have TT:Hid (∀ u,wr.grownBy u none→((HedE u b (o+j * 9) (.slice e0 q0 d0) (.slice e1 q1 d1)∧CelE u b (o+j * 9+2) (.int .i64 p.k) (.int .i64 p.n) (.slice a1 l1 c1) (.slice a2 l2 c2) (.slice a3 l3 c3) (.slice a4 l4 c4) (.slice a5 l5 c5))∧HedE u b' (o' + j * 9) (.slice x0 q0 z0) (.slice x1 q1 z1)∧CelE u b' (o' + j * 9+2) (.int .i64 p.k) (.int .i64 p.n) (.slice f1 l1 g1) (.slice f2 l2 g2) (.slice f3 l3 g3) (.slice f4 l4 g4) (.slice f5 l5 g5))):=fun u hu=>⟨⟨hh1.le (CLe.grown hu),kk1.le (CLe.grown hu)⟩,hh2.le (CLe.grown hu),kk2.le (CLe.grown hu)⟩
     have FX:Hid (w.grownBy wr.drew none∧InGE wr.drew wr.drew true R' b (o+(j+1) * 9)∧InGE wr.drew wr.drew true R' b' (o' + (j+1) * 9)∧wr.grownBy wr.drew none):=⟨gtr hg gd,hR2.le gc gc,hR3.le gc gc,gd⟩;clear hnd hne hR2 hR3 hg IN HR gd gc hi1 hi2 hgd hge hh1 hh2 kk1 kk2;simp only[GE.len] at hRl;go_wp2_with fail;refine wp_region_held_drew (S:=(fun u=>((HedE u b (o+j * 9) (.slice e0 q0 d0) (.slice e1 q1 d1)∧CelE u b (o+j * 9+2) (.int .i64 p.k) (.int .i64 p.n) (.slice a1 l1 c1) (.slice a2 l2 c2) (.slice a3 l3 c3) (.slice a4 l4 c4) (.slice a5 l5 c5))∧HedE u b' (o' + j * 9) (.slice x0 q0 z0) (.slice x1 q1 z1)∧CelE u b' (o' + j * 9+2) (.int .i64 p.k) (.int .i64 p.n) (.slice f1 l1 g1) (.slice f2 l2 g2) (.slice f3 l3 g3) (.slice f4 l4 g4) (.slice f5 l5 g5)))) (by kernel_rfl) (TT.out _ FX.out.2.2.2) (fun hH=>?_);generalize wr.drew=u at *;simp only[List.size_toArray,lB,lC,Nat.reduceAdd,Array.replicate,List.replicate]
     refine tk 0 ?_;refine tk 1 ?_;refine tk 2 ?_;refine tk 3 ?_;refine tk 4 ?_;refine tk 5 ?_;refine tk 6 ?_;refine tk 7 ?_;refine rd 8 rfl (fun K hK=>?_);go_simp;refine Calls.mono CC.out ?_;rintro e u2 ⟨he,hgu⟩;subst he;refine hK.out _ _ (TT.out _ (gtr FX.out.2.2.2 hgu)) ?_;clear hK K hH;intro hH;have FY:Hid (w.grownBy u2 none∧InGE u2 u2 true R' b (o+(j+1) * 9)∧InGE u2 u2 true R' b' (o' + (j+1) * 9)):=⟨gtr FX.out.1 hgu,FX.out.2.1.le (CLe.grown hgu) (CLe.grown hgu),FX.out.2.2.1.le (CLe.grown hgu) (CLe.grown hgu)⟩;clear FX hgu CC TT;simp only[Act.put,nA,nB,nC,nD,nE,nF];refine tk 9 ?_;refine wpAnyH_done (by kernel_rfl) ?_ _;go_wp2;go_roundw
     case rel=>exact ⟨j+1,R',by omega,by go_num,FY,by omega,by omega⟩
     case measure=>simp [intOf];omega
    ·
     obtain rfl:j=l:=by omega
     have E:Hid (w.grownBy wr none):=HR.out.1;clear HR IN;go_wp2;go_ret;exact ⟨rfl,E.out⟩
theorem eqET (p:PE) (kids alts:GE) (a1 f1:Option Addr) (l1 c1 g1:Nat) (a2 f2:Option Addr) (l2 c2 g2:Nat) (a3 f3:Option Addr) (l3 c3 g3:Nat) (a4 f4:Option Addr) (l4 c4 g4:Nat) (a5 f5:Option Addr) (l5 c5 g5:Nat) (w:World) (h:NdE w p kids alts a1 l1 c1 a2 l2 c2 a3 l3 c3 a4 l4 c4 a5 l5 c5) (h':NdE w p kids alts f1 l1 g1 f2 l2 g2 f3 l3 g3 f4 l4 g4 f5 l5 g5) (hs:szPE p+kids.size+alts.size≤1048576) :
  Calls Tryz.prog 30 #[.agg #[.int .i64 p.k,.int .i64 p.n,.slice a1 l1 c1,.slice a2 l2 c2,.slice a3 l3 c3,.slice a4 l4 c4,.slice a5 l5 c5],.agg #[.int .i64 p.k,.int .i64 p.n,.slice f1 l1 g1,.slice f2 l2 g2,.slice f3 l3 g3,.slice f4 l4 g4,.slice f5 l5 g5]] w fun e u=>e = .returned (.bool true)∧w.grownBy u none :=
 eqET_of p kids alts a1 f1 l1 c1 g1 a2 f2 l2 c2 g2 a3 f3 l3 c3 g3 a4 f4 l4 c4 g4 a5 f5 l5 c5 g5 w h h' (by omega) (fun u hu=>(eqES kids.size (by omega)).1 kids a4 f4 l4 c4 g4 u (Nat.le_refl _) (h.2.2.2.1.none hu) (h'.2.2.2.1.none hu)) (fun u hu=>(eqES alts.size (by omega)).2 alts a5 f5 l5 c5 g5 u (Nat.le_refl _) (h.2.2.2.2.none hu) (h'.2.2.2.2.none hu))
end Go.Proofs.YtblbnillilbacaaGreatDoor.By
