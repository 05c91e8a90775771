/-
 The walk of laws.FnExactPrint. No statement is proved here.
-/
import Derived.Test.YtblbnillilbacaaGreatDoorZ0
import Derived.Test.YtblbnillilbacaaGreatDoorMKSrc
import Derived.Test.YtblbnillilbacaaGreatDoorEZaAlso
import Derived.Test.YtblbnillilbacaaGreatDoorLawSourceOkAlso
namespace Go.Proofs.YtblbnillilbacaaGreatDoor.By
open Go.RowKit
set_option linter.unusedVariables false
set_option linter.unusedSimpArgs false
theorem OwS.mk {B n c lo hi:Nat} {w u:World} {a:Option Addr} {zs:List Int} (h:OwS B w a n c zs) (ht:Mk lo hi w u) (hb:∀ g,(Value.slice a n c).ownBlock=some g→g < lo∨hi≤g):OwS B u a n c zs:=by
 obtain ⟨⟨h1,h2⟩,h3⟩:=h
 refine ⟨⟨h1,?_⟩,h3⟩
 rcases h2 with h2|⟨g,cap,cur,e,hB,hg,r⟩
 ·
  exact .inl h2
 ·
  exact .inr ⟨g,cap,cur,e,hB,(ht.block g (lt_of_block hg) (hb g (by rw[e];rfl))).trans hg,r⟩
theorem ptA_open (x:RSrc):∃ (N:Nat) (ZS:List Int) (bv:Bool),Hid (∀ (w:World) (e:Ending) (u:World),PtA x w e u→w.grownBy u none∧∃ a c,e = .returned (.tuple #[.slice a N c,.bool bv])∧OwS w.heap.size u a N c ZS)∧N≤4000:=by
 refine ⟨_,_,_,fun w e u h=>h,?_⟩
 by_cases hv:srcV x=true
 ·
  rw[if_pos hv]
  unfold srcV at hv
  simp only[Bool.and_eq_true,decide_eq_true_eq] at hv
  exact hv.2
 ·
  rw[if_neg hv];omega
set_option maxRecDepth 8000 in
set_option maxHeartbeats 8000000 in
theorem lawPrint (x:RSrc) (a0:Option Addr) (l0 c0:Nat) (a1:Option Addr) (l1 c1:Nat) (a2:Option Addr) (l2 c2:Nat) (a3:Option Addr) (l3 c3:Nat) (a4:Option Addr) (l4 c4:Nat) (a5:Option Addr) (l5 c5:Nat) (w:World) (h:RdSrc w x a0 l0 c0 a1 l1 c1 a2 l2 c2 a3 l3 c3 a4 l4 c4 a5 l5 c5) (hF:Bas w) :
  Calls Tryz.prog 4 #[.agg #[.slice a0 l0 c0,.int .i64 x.p.k,.int .i64 x.p.n,.slice a1 l1 c1,.slice a2 l2 c2,.slice a3 l3 c3,.slice a4 l4 c4,.slice a5 l5 c5]] w fun e u=>e = .returned (.bool true)∧w.grownBy u none:=by
 have g0:=World.grownBy_alloc w (.cells #[.slice a0 l0 c0,.int .i64 x.p.k,.int .i64 x.p.n,.slice a1 l1 c1,.slice a2 l2 c2,.slice a3 l3 c3,.slice a4 l4 c4,.slice a5 l5 c5] 29) none
 have b0:=heap_alloc_new w (.cells #[.slice a0 l0 c0,.int .i64 x.p.k,.int .i64 x.p.n,.slice a1 l1 c1,.slice a2 l2 c2,.slice a3 l3 c3,.slice a4 l4 c4,.slice a5 l5 c5] 29)
 have C1:Hid _:=szSrcT x a0 l0 c0 a1 l1 c1 a2 l2 c2 a3 l3 c3 a4 l4 c4 a5 l5 c5 1048576 _ (h.none g0) (by omega) (by omega)
 have HD:Hid (RdSrc w x a0 l0 c0 a1 l1 c1 a2 l2 c2 a3 l3 c3 a4 l4 c4 a5 l5 c5):=h
 have HF:Hid (∀ u,w.grownBy u none→Bas u):=fun u hu=>hF.grown hu
 have L0:Hid (w.grownBy _ none∧_=some (Obj.cells #[.slice a0 l0 c0,.int .i64 x.p.k,.int .i64 x.p.n,.slice a1 l1 c1,.slice a2 l2 c2,.slice a3 l3 c3,.slice a4 l4 c4,.slice a5 l5 c5] 29)):=⟨g0,b0⟩
 obtain ⟨⟨y0,y1,y2,y3,y4,y5,y6,y7⟩,-⟩:=blkSrc b0
 clear g0 b0 h hF
 go_enter Tryz.func4,Tryz.ntmps4
 go_wp2_with fail
 refine Calls.mono C1.out ?_
 rintro e w1 ⟨⟨r0,he,hr⟩,hg⟩
 subst he
 obtain ⟨g0,b0⟩:=L0.out
 have g1:=grown_trans g0 hg
 have b1:=(hg.block _ (lt_of_block b0) (by simp)).trans b0
 clear hg L0 C1 g0 b0 y0 y1 y2 y3 y4 y5 y6 y7
 simp only[]
 rcases hr with rfl|⟨hr0,hr1⟩
 ·
  have G1:Hid (w.grownBy w1 none):=g1
  clear g1 b1
  go_wp2
  go_ret
  exact ⟨rfl,G1.out⟩
 have hs':szSrc x≤1048576:=by omega
 have hneg:¬ r0 < 0:=by omega
 have hbase:w.heap.size≤w.heap.size:=Nat.le_refl _
 generalize ep:w.heap.size=p at b1
 have EP:Hid (w.heap.size=p):=ep
 try simp only[ep]
 have L1:Hid ((w.grownBy w1 none)∧(w1.heap[p]? = some (Obj.cells #[.slice a0 l0 c0,.int .i64 x.p.k,.int .i64 x.p.n,.slice a1 l1 c1,.slice a2 l2 c2,.slice a3 l3 c3,.slice a4 l4 c4,.slice a5 l5 c5] 29))):=⟨g1,b1⟩
 clear g1 b1 ep hbase
 obtain ⟨N,ZS,bv,PT,HNl⟩:=ptA_open x
 have hN:N≤4194304:=by omega
 obtain ⟨⟨x0_0,x0_1,x0_2,x0_3,x0_4,x0_5,x0_6,x0_7⟩,-⟩:=blkSrc (L1.out.2)
 go_wp2_with fail
 refine Calls.mono (toSrcT x a0 l0 c0 a1 l1 c1 a2 l2 c2 a3 l3 c3 a4 l4 c4 a5 l5 c5 w1 (HD.out.none (L1.out.1)) hs') ?_
 rintro e w2 ⟨t0,v0,t1,v1,t2,v2,t3,v3,t4,v4,t5,v5,he,hg,hn⟩
 subst he
 have L2:Hid ((w.grownBy w2 none)∧(w2.heap[p]? = some (Obj.cells #[.slice a0 l0 c0,.int .i64 x.p.k,.int .i64 x.p.n,.slice a1 l1 c1,.slice a2 l2 c2,.slice a3 l3 c3,.slice a4 l4 c4,.slice a5 l5 c5] 29))∧(RdSrc w2 x t0 l0 v0 t1 l1 v1 t2 l2 v2 t3 l3 v3 t4 l4 v4 t5 l5 v5)):=⟨grown_trans (L1.out.1) hg,(World.grownBy.block hg _ (lt_of_block (L1.out.2)) (by simp)).trans (L1.out.2),hn.le CLe.unhidz⟩
 clear L1 x0_0 x0_1 x0_2 x0_3 x0_4 x0_5 x0_6 x0_7
 clear hg
 simp only[]
 clear hn
 go_wp2_with fail
 refine Calls.mono (specPrintT x t0 l0 v0 t1 l1 v1 t2 l2 v2 t3 l3 v3 t4 l4 v4 t5 l5 v5 w2 (L2.out.2.2)) ?_
 rintro e w3 hpt
 obtain ⟨hg,aw,cw,he,hw⟩:=PT.out _ _ _ hpt
 subst he
 have L3:Hid ((w.grownBy w3 none)∧(w3.heap[p]? = some (Obj.cells #[.slice a0 l0 c0,.int .i64 x.p.k,.int .i64 x.p.n,.slice a1 l1 c1,.slice a2 l2 c2,.slice a3 l3 c3,.slice a4 l4 c4,.slice a5 l5 c5] 29))∧(OwS w2.heap.size w3 aw N cw (ZS))):=⟨grown_trans (L2.out.1) hg,(World.grownBy.block hg _ (lt_of_block (L2.out.2.1)) (by simp)).trans (L2.out.2.1),hw⟩
 clear L2
 clear hg
 simp only[]
 clear hw hpt
 obtain ⟨⟨x1_0,x1_1,x1_2,x1_3,x1_4,x1_5,x1_6,x1_7⟩,-⟩:=blkSrc (L3.out.2.1)
 go_wp2_with fail
 refine Calls.mono (toSrcT x a0 l0 c0 a1 l1 c1 a2 l2 c2 a3 l3 c3 a4 l4 c4 a5 l5 c5 w3 (HD.out.none (L3.out.1)) hs') ?_
 rintro e w4 ⟨s0,z0,s1,z1,s2,z2,s3,z3,s4,z4,s5,z5,he,hg,hn⟩
 subst he
 have ga:=World.grownBy_alloc w4 (.cells #[.slice s0 l0 z0,.int .i64 x.p.k,.int .i64 x.p.n,.slice s1 l1 z1,.slice s2 l2 z2,.slice s3 l3 z3,.slice s4 l4 z4,.slice s5 l5 z5] 38) none
 have ba:=heap_alloc_new w4 (.cells #[.slice s0 l0 z0,.int .i64 x.p.k,.int .i64 x.p.n,.slice s1 l1 z1,.slice s2 l2 z2,.slice s3 l3 z3,.slice s4 l4 z4,.slice s5 l5 z5] 38)
 have hgg:=grown_trans hg ga
 have hlw:∀ y,(Value.slice aw N cw).ownBlock=some y→y < w3.heap.size:=fun y hy=>((L3.out.2.2).lt y hy).2
 have hpr:(w.heap.size≤w3.heap.size∧p < w3.heap.size)∧w3.heap.size≤w4.heap.size:=⟨⟨(L3.out.1).size,lt_of_block (L3.out.2.1)⟩,hg.size⟩
 have L4:Hid ((w.grownBy (w4.alloc (.cells #[.slice s0 l0 z0,.int .i64 x.p.k,.int .i64 x.p.n,.slice s1 l1 z1,.slice s2 l2 z2,.slice s3 l3 z3,.slice s4 l4 z4,.slice s5 l5 z5] 38)) none)∧((w4.alloc (.cells #[.slice s0 l0 z0,.int .i64 x.p.k,.int .i64 x.p.n,.slice s1 l1 z1,.slice s2 l2 z2,.slice s3 l3 z3,.slice s4 l4 z4,.slice s5 l5 z5] 38)).heap[p]? = some (Obj.cells #[.slice a0 l0 c0,.int .i64 x.p.k,.int .i64 x.p.n,.slice a1 l1 c1,.slice a2 l2 c2,.slice a3 l3 c3,.slice a4 l4 c4,.slice a5 l5 c5] 29))∧(OwS w2.heap.size (w4.alloc (.cells #[.slice s0 l0 z0,.int .i64 x.p.k,.int .i64 x.p.n,.slice s1 l1 z1,.slice s2 l2 z2,.slice s3 l3 z3,.slice s4 l4 z4,.slice s5 l5 z5] 38)) aw N cw (ZS))∧((w4.alloc (.cells #[.slice s0 l0 z0,.int .i64 x.p.k,.int .i64 x.p.n,.slice s1 l1 z1,.slice s2 l2 z2,.slice s3 l3 z3,.slice s4 l4 z4,.slice s5 l5 z5] 38)).heap[w4.heap.size]? = some (Obj.cells #[.slice s0 l0 z0,.int .i64 x.p.k,.int .i64 x.p.n,.slice s1 l1 z1,.slice s2 l2 z2,.slice s3 l3 z3,.slice s4 l4 z4,.slice s5 l5 z5] 38))∧(RdSrc (hideR (w4.alloc (.cells #[.slice s0 l0 z0,.int .i64 x.p.k,.int .i64 x.p.n,.slice s1 l1 z1,.slice s2 l2 z2,.slice s3 l3 z3,.slice s4 l4 z4,.slice s5 l5 z5] 38)) w3.heap.size w4.heap.size) x s0 l0 z0 s1 l1 z1 s2 l2 z2 s3 l3 z3 s4 l4 z4 s5 l5 z5)∧(∀ y,(Value.slice aw N cw).ownBlock=some y→y < w3.heap.size)∧((w.heap.size≤w3.heap.size∧p < w3.heap.size)∧w3.heap.size≤w4.heap.size)∧(w4.heap.size < (w4.alloc (.cells #[.slice s0 l0 z0,.int .i64 x.p.k,.int .i64 x.p.n,.slice s1 l1 z1,.slice s2 l2 z2,.slice s3 l3 z3,.slice s4 l4 z4,.slice s5 l5 z5] 38)).heap.size)):=⟨grown_trans (L3.out.1) hgg,(World.grownBy.block hgg _ (lt_of_block (L3.out.2.1)) (by simp)).trans (L3.out.2.1),OwS.kept (L3.out.2.2) hgg,ba,hn.le (CLe.toR ga),hlw,hpr,lt_of_block ba⟩
 clear L3 x1_0 x1_1 x1_2 x1_3 x1_4 x1_5 x1_6 x1_7
 clear hg ga ba hgg hn hlw hpr
 simp only[]
 obtain ⟨⟨x2_0,x2_1,x2_2,x2_3,x2_4,x2_5,x2_6,x2_7⟩,-⟩:=blkSrc (L4.out.2.2.2.1)
 go_wp2_with fail
 generalize er:w4.heap.size=r at *
 generalize el:w3.heap.size=lo at *
 refine Calls.mono (implPrintT x s0 l0 z0 s1 l1 z1 s2 l2 z2 s3 l3 z3 s4 l4 z4 s5 l5 z5 _ ((L4.out.2.2.2.2.1).le CLe.unhir) (HF.out _ (L4.out.1)) hs') ?_
 rintro e w5 hpt
 obtain ⟨hg,ag,cg,he,hw⟩:=PT.out _ _ _ hpt
 subst he
 have L5:Hid ((w.grownBy w5 none)∧(w5.heap[p]? = some (Obj.cells #[.slice a0 l0 c0,.int .i64 x.p.k,.int .i64 x.p.n,.slice a1 l1 c1,.slice a2 l2 c2,.slice a3 l3 c3,.slice a4 l4 c4,.slice a5 l5 c5] 29))∧(OwS w2.heap.size w5 aw N cw (ZS))∧(w5.heap[r]? = some (Obj.cells #[.slice s0 l0 z0,.int .i64 x.p.k,.int .i64 x.p.n,.slice s1 l1 z1,.slice s2 l2 z2,.slice s3 l3 z3,.slice s4 l4 z4,.slice s5 l5 z5] 38))∧(RdSrc (hideR w5 lo r) x s0 l0 z0 s1 l1 z1 s2 l2 z2 s3 l3 z3 s4 l4 z4 s5 l5 z5)∧(∀ y,(Value.slice aw N cw).ownBlock=some y→y < lo)∧((w.heap.size≤lo∧p < lo)∧lo≤r)∧(r < w5.heap.size)∧(OwS r w5 ag N cg (ZS))):=⟨grown_trans (L4.out.1) hg,(World.grownBy.block hg _ (lt_of_block (L4.out.2.1)) (by simp)).trans (L4.out.2.1),OwS.kept (L4.out.2.2.1) hg,(World.grownBy.block hg _ (lt_of_block (L4.out.2.2.2.1)) (by simp)).trans (L4.out.2.2.2.1),RdSrc.le (L4.out.2.2.2.2.1) (hir_grown hg),L4.out.2.2.2.2.2.1,L4.out.2.2.2.2.2.2.1,Nat.lt_of_lt_of_le (L4.out.2.2.2.2.2.2.2) hg.size,OwS.mono hw (by have:=L4.out.2.2.2.2.2.2.2;omega)⟩
 clear L4 x2_0 x2_1 x2_2 x2_3 x2_4 x2_5 x2_6 x2_7
 clear hg
 simp only[]
 clear hw hpt er el
 go_wp2_with fail
 refine Calls.mono (eqBS ag aw N cg cw ZS w5 (L5.out.2.2.2.2.2.2.2.2).reads (L5.out.2.2.1).reads hN) ?_
 rintro e w6 ⟨rfl,hg⟩
 have L6:Hid ((w.grownBy w6 none)∧(w6.heap[p]? = some (Obj.cells #[.slice a0 l0 c0,.int .i64 x.p.k,.int .i64 x.p.n,.slice a1 l1 c1,.slice a2 l2 c2,.slice a3 l3 c3,.slice a4 l4 c4,.slice a5 l5 c5] 29))∧(OwS w2.heap.size w6 aw N cw (ZS))∧(w6.heap[r]? = some (Obj.cells #[.slice s0 l0 z0,.int .i64 x.p.k,.int .i64 x.p.n,.slice s1 l1 z1,.slice s2 l2 z2,.slice s3 l3 z3,.slice s4 l4 z4,.slice s5 l5 z5] 38))∧(RdSrc (hideR w6 lo r) x s0 l0 z0 s1 l1 z1 s2 l2 z2 s3 l3 z3 s4 l4 z4 s5 l5 z5)∧(∀ y,(Value.slice aw N cw).ownBlock=some y→y < lo)∧((w.heap.size≤lo∧p < lo)∧lo≤r)∧(r < w6.heap.size)∧(OwS r w6 ag N cg (ZS))):=⟨grown_trans (L5.out.1) hg,(World.grownBy.block hg _ (lt_of_block (L5.out.2.1)) (by simp)).trans (L5.out.2.1),OwS.kept (L5.out.2.2.1) hg,(World.grownBy.block hg _ (lt_of_block (L5.out.2.2.2.1)) (by simp)).trans (L5.out.2.2.2.1),RdSrc.le (L5.out.2.2.2.2.1) (hir_grown hg),L5.out.2.2.2.2.2.1,L5.out.2.2.2.2.2.2.1,Nat.lt_of_lt_of_le (L5.out.2.2.2.2.2.2.2.1) hg.size,OwS.kept (L5.out.2.2.2.2.2.2.2.2) hg⟩
 clear L5
 clear hg
 simp only[]
 go_wp2_with fail
 have L7:Hid ((w.grownBy w6.drew none)∧(w6.drew.heap[p]? = some (Obj.cells #[.slice a0 l0 c0,.int .i64 x.p.k,.int .i64 x.p.n,.slice a1 l1 c1,.slice a2 l2 c2,.slice a3 l3 c3,.slice a4 l4 c4,.slice a5 l5 c5] 29))∧(OwS w2.heap.size w6.drew aw N cw (ZS))∧(w6.drew.heap[r]? = some (Obj.cells #[.slice s0 l0 z0,.int .i64 x.p.k,.int .i64 x.p.n,.slice s1 l1 z1,.slice s2 l2 z2,.slice s3 l3 z3,.slice s4 l4 z4,.slice s5 l5 z5] 38))∧(RdSrc (hideR w6.drew lo r) x s0 l0 z0 s1 l1 z1 s2 l2 z2 s3 l3 z3 s4 l4 z4 s5 l5 z5)∧(∀ y,(Value.slice aw N cw).ownBlock=some y→y < lo)∧((w.heap.size≤lo∧p < lo)∧lo≤r)∧(r < w6.drew.heap.size)∧(OwS r w6.drew ag N cg (ZS))):=⟨grown_trans (L6.out.1) (grown_drew (World.grownBy.refl w6 none)),(World.grownBy.block (grown_drew (World.grownBy.refl w6 none)) _ (lt_of_block (L6.out.2.1)) (by simp)).trans (L6.out.2.1),OwS.kept (L6.out.2.2.1) (grown_drew (World.grownBy.refl w6 none)),(World.grownBy.block (grown_drew (World.grownBy.refl w6 none)) _ (lt_of_block (L6.out.2.2.2.1)) (by simp)).trans (L6.out.2.2.2.1),RdSrc.le (L6.out.2.2.2.2.1) (hir_grown (grown_drew (World.grownBy.refl w6 none))),L6.out.2.2.2.2.2.1,L6.out.2.2.2.2.2.2.1,Nat.lt_of_lt_of_le (L6.out.2.2.2.2.2.2.2.1) (grown_drew (World.grownBy.refl w6 none)).size,OwS.kept (L6.out.2.2.2.2.2.2.2.2) (grown_drew (World.grownBy.refl w6 none))⟩
 clear L6
 refine wp_region_held_drew (S:=(fun u0=>(u0.cell? ⟨p,0,none⟩=some (.slice a0 l0 c0)∧u0.cell? ⟨p,1,none⟩=some (.int .i64 x.p.k)∧u0.cell? ⟨p,2,none⟩=some (.int .i64 x.p.n)∧u0.cell? ⟨p,3,none⟩=some (.slice a1 l1 c1)∧u0.cell? ⟨p,4,none⟩=some (.slice a2 l2 c2)∧u0.cell? ⟨p,5,none⟩=some (.slice a3 l3 c3)∧u0.cell? ⟨p,6,none⟩=some (.slice a4 l4 c4)∧u0.cell? ⟨p,7,none⟩=some (.slice a5 l5 c5))∧(u0.cell? ⟨r,0,none⟩=some (.slice s0 l0 z0)∧u0.cell? ⟨r,1,none⟩=some (.int .i64 x.p.k)∧u0.cell? ⟨r,2,none⟩=some (.int .i64 x.p.n)∧u0.cell? ⟨r,3,none⟩=some (.slice s1 l1 z1)∧u0.cell? ⟨r,4,none⟩=some (.slice s2 l2 z2)∧u0.cell? ⟨r,5,none⟩=some (.slice s3 l3 z3)∧u0.cell? ⟨r,6,none⟩=some (.slice s4 l4 z4)∧u0.cell? ⟨r,7,none⟩=some (.slice s5 l5 z5)))) (by kernel_rfl) ⟨(blkSrc (L7.out.2.1)).1,(blkSrc (L7.out.2.2.2.1)).1⟩ (fun hH=>?_)
 generalize w6.drew=u0 at *
 simp only[List.size_toArray,List.length_cons,List.length_nil,Nat.reduceAdd,Array.replicate,List.replicate]
 refine tk 0 rfl hH ?_
 refine tk 1 rfl hH ?_
 refine rd 2 rfl (fun K hK=>?_)
 go_simp
 refine Calls.mono (toSrcT x a0 l0 c0 a1 l1 c1 a2 l2 c2 a3 l3 c3 a4 l4 c4 a5 l5 c5 u0 (HD.out.none (L7.out.1)) hs') ?_
 rintro e u1 ⟨q0,d0,q1,d1,q2,d2,q3,d3,q4,d4,q5,d5,he,hg,hn⟩
 subst he
 have L8:Hid ((w.grownBy u1 none)∧(u1.heap[p]? = some (Obj.cells #[.slice a0 l0 c0,.int .i64 x.p.k,.int .i64 x.p.n,.slice a1 l1 c1,.slice a2 l2 c2,.slice a3 l3 c3,.slice a4 l4 c4,.slice a5 l5 c5] 29))∧(OwS w2.heap.size u1 aw N cw (ZS))∧(u1.heap[r]? = some (Obj.cells #[.slice s0 l0 z0,.int .i64 x.p.k,.int .i64 x.p.n,.slice s1 l1 z1,.slice s2 l2 z2,.slice s3 l3 z3,.slice s4 l4 z4,.slice s5 l5 z5] 38))∧(RdSrc (hideR u1 lo r) x s0 l0 z0 s1 l1 z1 s2 l2 z2 s3 l3 z3 s4 l4 z4 s5 l5 z5)∧(∀ y,(Value.slice aw N cw).ownBlock=some y→y < lo)∧((w.heap.size≤lo∧p < lo)∧lo≤r)∧(r < u1.heap.size)∧(OwS r u1 ag N cg (ZS))∧(RdSrc u1 x q0 l0 d0 q1 l1 d1 q2 l2 d2 q3 l3 d3 q4 l4 d4 q5 l5 d5)):=⟨grown_trans (L7.out.1) hg,(World.grownBy.block hg _ (lt_of_block (L7.out.2.1)) (by simp)).trans (L7.out.2.1),OwS.kept (L7.out.2.2.1) hg,(World.grownBy.block hg _ (lt_of_block (L7.out.2.2.2.1)) (by simp)).trans (L7.out.2.2.2.1),RdSrc.le (L7.out.2.2.2.2.1) (hir_grown hg),L7.out.2.2.2.2.2.1,L7.out.2.2.2.2.2.2.1,Nat.lt_of_lt_of_le (L7.out.2.2.2.2.2.2.2.1) hg.size,OwS.kept (L7.out.2.2.2.2.2.2.2.2) hg,hn.le CLe.unhidz⟩
 clear L7
 refine hK.out _ _ ⟨(blkSrc (L8.out.2.1)).1,(blkSrc (L8.out.2.2.2.1)).1⟩ (fun hH2=>?_)
 clear hK K hH
 have hH:=hH2
 clear hH2 hg
 simp only[Act.put,nA,nB,nC,nD,nE,nF]
 clear hn
 refine rd 3 rfl (fun K hK=>?_)
 go_simp
 refine Calls.mono (eqSrcT x s0 q0 l0 z0 d0 s1 q1 l1 z1 d1 s2 q2 l2 z2 d2 s3 q3 l3 z3 d3 s4 q4 l4 z4 d4 s5 q5 l5 z5 d5 u1 ((L8.out.2.2.2.2.1).le CLe.unhir) (L8.out.2.2.2.2.2.2.2.2.2) hs') ?_
 rintro e u2 ⟨he,hg⟩
 subst he
 have L9:Hid ((w.grownBy u2 none)∧(u2.heap[p]? = some (Obj.cells #[.slice a0 l0 c0,.int .i64 x.p.k,.int .i64 x.p.n,.slice a1 l1 c1,.slice a2 l2 c2,.slice a3 l3 c3,.slice a4 l4 c4,.slice a5 l5 c5] 29))∧(OwS w2.heap.size u2 aw N cw (ZS))∧(u2.heap[r]? = some (Obj.cells #[.slice s0 l0 z0,.int .i64 x.p.k,.int .i64 x.p.n,.slice s1 l1 z1,.slice s2 l2 z2,.slice s3 l3 z3,.slice s4 l4 z4,.slice s5 l5 z5] 38))∧(RdSrc (hideR u2 lo r) x s0 l0 z0 s1 l1 z1 s2 l2 z2 s3 l3 z3 s4 l4 z4 s5 l5 z5)∧(∀ y,(Value.slice aw N cw).ownBlock=some y→y < lo)∧((w.heap.size≤lo∧p < lo)∧lo≤r)∧(r < u2.heap.size)∧(OwS r u2 ag N cg (ZS))):=⟨grown_trans (L8.out.1) hg,(World.grownBy.block hg _ (lt_of_block (L8.out.2.1)) (by simp)).trans (L8.out.2.1),OwS.kept (L8.out.2.2.1) hg,(World.grownBy.block hg _ (lt_of_block (L8.out.2.2.2.1)) (by simp)).trans (L8.out.2.2.2.1),RdSrc.le (L8.out.2.2.2.2.1) (hir_grown hg),L8.out.2.2.2.2.2.1,L8.out.2.2.2.2.2.2.1,Nat.lt_of_lt_of_le (L8.out.2.2.2.2.2.2.2.1) hg.size,OwS.kept (L8.out.2.2.2.2.2.2.2.2.1) hg⟩
 clear L8
 refine hK.out _ _ ⟨(blkSrc (L9.out.2.1)).1,(blkSrc (L9.out.2.2.2.1)).1⟩ (fun hH2=>?_)
 clear hK K hH
 have hH:=hH2
 clear hH2 hg
 simp only[Act.put,nA,nB,nC,nD,nE,nF]
 refine tk 4 rfl hH ?_
 refine wpAnyH_done (by kernel_rfl) ?_ _
 obtain ⟨⟨x3_0,x3_1,x3_2,x3_3,x3_4,x3_5,x3_6,x3_7⟩,-⟩:=blkSrc (L9.out.2.2.2.1)
 have hd1:(1:Int)+4 * (szSrc x:Nat)≤4611686018427387904:=by omega
 go_wp2_with fail
 refine Calls.mono (mkSrc lo r x s0 l0 z0 s1 l1 z1 s2 l2 z2 s3 l3 z3 s4 l4 z4 s5 l5 z5 1 u2 (L9.out.2.2.2.2.1) (Nat.le_of_lt (L9.out.2.2.2.2.2.2.2.1)) (by omega) hd1) ?_
 rintro e u3 ⟨k9,he,hk9,hk8,ht⟩
 subst he
 have L10:Hid ((w.grownBy u3 none)∧(u3.heap[p]? = some (Obj.cells #[.slice a0 l0 c0,.int .i64 x.p.k,.int .i64 x.p.n,.slice a1 l1 c1,.slice a2 l2 c2,.slice a3 l3 c3,.slice a4 l4 c4,.slice a5 l5 c5] 29))∧(OwS w2.heap.size u3 aw N cw (ZS))∧(OwS r u3 ag N cg (ZS))∧(∀ y,(Value.slice aw N cw).ownBlock=some y→y < lo)∧((w.heap.size≤lo∧p < lo)∧lo≤r)):=⟨Mk.fresh (L9.out.1) ht (L9.out.2.2.2.2.2.2.1).1.1,(ht.block p (lt_of_block (L9.out.2.1)) (.inl (L9.out.2.2.2.2.2.2.1).1.2)).trans (L9.out.2.1),OwS.mk (L9.out.2.2.1) ht (fun y hy=>.inl ((L9.out.2.2.2.2.2.1) y hy)),OwS.mk (L9.out.2.2.2.2.2.2.2.2) ht (fun y hy=>.inr ((L9.out.2.2.2.2.2.2.2.2).lt y hy).1),L9.out.2.2.2.2.2.1,L9.out.2.2.2.2.2.2.1⟩
 clear L9 x3_0 x3_1 x3_2 x3_3 x3_4 x3_5 x3_6 x3_7
 clear ht
 simp only[]
 have hk1:decide (k9 < 0)=false:=by simp;omega
 have hk2:¬ k9 < 0:=by omega
 go_wp2_with fail
 refine Calls.mono (eqBS ag aw N cg cw ZS u3 (L10.out.2.2.2.1).reads (L10.out.2.2.1).reads hN) ?_
 rintro e u4 ⟨rfl,hg⟩
 have L11:Hid ((w.grownBy u4 none)∧(u4.heap[p]? = some (Obj.cells #[.slice a0 l0 c0,.int .i64 x.p.k,.int .i64 x.p.n,.slice a1 l1 c1,.slice a2 l2 c2,.slice a3 l3 c3,.slice a4 l4 c4,.slice a5 l5 c5] 29))∧(OwS w2.heap.size u4 aw N cw (ZS))∧(OwS r u4 ag N cg (ZS))∧(∀ y,(Value.slice aw N cw).ownBlock=some y→y < lo)∧((w.heap.size≤lo∧p < lo)∧lo≤r)):=⟨grown_trans (L10.out.1) hg,(World.grownBy.block hg _ (lt_of_block (L10.out.2.1)) (by simp)).trans (L10.out.2.1),OwS.kept (L10.out.2.2.1) hg,OwS.kept (L10.out.2.2.2.1) hg,L10.out.2.2.2.2.1,L10.out.2.2.2.2.2⟩
 clear L10
 clear hg
 simp only[]
 clear hk1 hk2
 go_wp2_with fail
 refine Calls.mono (markBS r N cg ag ZS 1 u4 (L11.out.2.2.2.1) hN (by omega) (by omega)) ?_
 rintro e u5 ⟨rfl,hg,hm⟩
 have L12:Hid ((w.grownBy u5 none)∧(u5.heap[p]? = some (Obj.cells #[.slice a0 l0 c0,.int .i64 x.p.k,.int .i64 x.p.n,.slice a1 l1 c1,.slice a2 l2 c2,.slice a3 l3 c3,.slice a4 l4 c4,.slice a5 l5 c5] 29))∧(OwS w2.heap.size u5 aw N cw (ZS))∧(OwS r u5 ag N cg (marks 1 N))):=⟨(L11.out.2.2.2.1).grown (A:=0) hg (L11.out.1) (Nat.le_trans (L11.out.2.2.2.2.2).1.1 (L11.out.2.2.2.2.2).2),(L11.out.2.2.2.1).box hg (L11.out.2.1) (by decide),(L11.out.2.2.1).far (B':=0) hg (fun y hy e=>by have h1:=(L11.out.2.2.2.2.1) y hy;have h2:=((L11.out.2.2.2.1).lt y e).1;have h3:=(L11.out.2.2.2.2.2).2;omega),hm⟩
 clear L11
 clear hg hm
 simp only[]
 have hq1:¬ ((1:Int)+N < 0):=by omega
 go_wp2_with fail
 refine Calls.mono (heldBS ag N cg 1 u5 (L12.out.2.2.2).reads hN (by omega) (by omega)) ?_
 rintro e u6 ⟨rfl,hg⟩
 have L13:Hid ((w.grownBy u6 none)∧(u6.heap[p]? = some (Obj.cells #[.slice a0 l0 c0,.int .i64 x.p.k,.int .i64 x.p.n,.slice a1 l1 c1,.slice a2 l2 c2,.slice a3 l3 c3,.slice a4 l4 c4,.slice a5 l5 c5] 29))∧(OwS w2.heap.size u6 aw N cw (ZS))∧(OwS r u6 ag N cg (marks 1 N))):=⟨grown_trans (L12.out.1) hg,(World.grownBy.block hg _ (lt_of_block (L12.out.2.1)) (by simp)).trans (L12.out.2.1),OwS.kept (L12.out.2.2.1) hg,OwS.kept (L12.out.2.2.2) hg⟩
 clear L12
 clear hg
 simp only[]
 obtain ⟨⟨x4_0,x4_1,x4_2,x4_3,x4_4,x4_5,x4_6,x4_7⟩,-⟩:=blkSrc (L13.out.2.1)
 go_wp2_with fail
 refine Calls.mono (toSrcT x a0 l0 c0 a1 l1 c1 a2 l2 c2 a3 l3 c3 a4 l4 c4 a5 l5 c5 u6 (HD.out.none (L13.out.1)) hs') ?_
 rintro e u7 ⟨j0,k0,j1,k1,j2,k2,j3,k3,j4,k4,j5,k5,he,hg,hn⟩
 subst he
 have L14:Hid ((w.grownBy u7 none)∧(u7.heap[p]? = some (Obj.cells #[.slice a0 l0 c0,.int .i64 x.p.k,.int .i64 x.p.n,.slice a1 l1 c1,.slice a2 l2 c2,.slice a3 l3 c3,.slice a4 l4 c4,.slice a5 l5 c5] 29))∧(OwS w2.heap.size u7 aw N cw (ZS))∧(OwS r u7 ag N cg (marks 1 N))∧(RdSrc u7 x j0 l0 k0 j1 l1 k1 j2 l2 k2 j3 l3 k3 j4 l4 k4 j5 l5 k5)):=⟨grown_trans (L13.out.1) hg,(World.grownBy.block hg _ (lt_of_block (L13.out.2.1)) (by simp)).trans (L13.out.2.1),OwS.kept (L13.out.2.2.1) hg,OwS.kept (L13.out.2.2.2) hg,hn.le CLe.unhidz⟩
 clear L13 x4_0 x4_1 x4_2 x4_3 x4_4 x4_5 x4_6 x4_7
 clear hg
 simp only[]
 clear hn
 go_wp2_with fail
 refine Calls.mono (implPrintT x j0 l0 k0 j1 l1 k1 j2 l2 k2 j3 l3 k3 j4 l4 k4 j5 l5 k5 u7 (L14.out.2.2.2.2) (HF.out _ (L14.out.1)) hs') ?_
 rintro e u8 hpt
 obtain ⟨hg,ah,ch,he,hw⟩:=PT.out _ _ _ hpt
 subst he
 have L15:Hid ((w.grownBy u8 none)∧(u8.heap[p]? = some (Obj.cells #[.slice a0 l0 c0,.int .i64 x.p.k,.int .i64 x.p.n,.slice a1 l1 c1,.slice a2 l2 c2,.slice a3 l3 c3,.slice a4 l4 c4,.slice a5 l5 c5] 29))∧(OwS w2.heap.size u8 aw N cw (ZS))∧(OwS r u8 ag N cg (marks 1 N))∧(OwS u7.heap.size u8 ah N ch (ZS))):=⟨grown_trans (L14.out.1) hg,(World.grownBy.block hg _ (lt_of_block (L14.out.2.1)) (by simp)).trans (L14.out.2.1),OwS.kept (L14.out.2.2.1) hg,OwS.kept (L14.out.2.2.2.1) hg,hw⟩
 clear L14
 clear hg
 simp only[]
 clear hw hpt
 go_wp2_with fail
 refine Calls.mono (eqBS ah aw N ch cw ZS u8 (L15.out.2.2.2.2).reads (L15.out.2.2.1).reads hN) ?_
 rintro e u9 ⟨rfl,hg⟩
 have L16:Hid ((w.grownBy u9 none)∧(u9.heap[p]? = some (Obj.cells #[.slice a0 l0 c0,.int .i64 x.p.k,.int .i64 x.p.n,.slice a1 l1 c1,.slice a2 l2 c2,.slice a3 l3 c3,.slice a4 l4 c4,.slice a5 l5 c5] 29))∧(OwS w2.heap.size u9 aw N cw (ZS))∧(OwS r u9 ag N cg (marks 1 N))∧(OwS u7.heap.size u9 ah N ch (ZS))):=⟨grown_trans (L15.out.1) hg,(World.grownBy.block hg _ (lt_of_block (L15.out.2.1)) (by simp)).trans (L15.out.2.1),OwS.kept (L15.out.2.2.1) hg,OwS.kept (L15.out.2.2.2.1) hg,OwS.kept (L15.out.2.2.2.2) hg⟩
 clear L15
 clear hg
 simp only[]
 go_wp2_with fail
 refine Calls.mono (heldBS ag N cg 1 u9 (L16.out.2.2.2.1).reads hN (by omega) (by omega)) ?_
 rintro e u10 ⟨rfl,hg⟩
 have L17:Hid ((w.grownBy u10 none)∧(u10.heap[p]? = some (Obj.cells #[.slice a0 l0 c0,.int .i64 x.p.k,.int .i64 x.p.n,.slice a1 l1 c1,.slice a2 l2 c2,.slice a3 l3 c3,.slice a4 l4 c4,.slice a5 l5 c5] 29))∧(OwS w2.heap.size u10 aw N cw (ZS))∧(OwS r u10 ag N cg (marks 1 N))∧(OwS u7.heap.size u10 ah N ch (ZS))):=⟨grown_trans (L16.out.1) hg,(World.grownBy.block hg _ (lt_of_block (L16.out.2.1)) (by simp)).trans (L16.out.2.1),OwS.kept (L16.out.2.2.1) hg,OwS.kept (L16.out.2.2.2.1) hg,OwS.kept (L16.out.2.2.2.2) hg⟩
 clear L16
 clear hg
 simp only[]
 go_wp2
 go_ret
 exact ⟨rfl,L17.out.1⟩
end Go.Proofs.YtblbnillilbacaaGreatDoor.By
