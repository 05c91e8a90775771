/-
  No statement is proved here.
-/
import Derived.Test.YtnmlbeefjjohfaaGreatDoorCRlIntAlsoSh
namespace Go.Proofs.YtnmlbeefjjohfaaGreatDoor.By
set_option maxRecDepth 100000
set_option maxHeartbeats 16000000
open Go.RowKit
set_option linter.unusedVariables false
set_option linter.unusedSimpArgs false
theorem implUnfT (n:Int) (w:World) (h0:0≤n) (h1:n≤2147483647):Calls Tryz.prog 84 #[.int .i64 n] w fun e u=>e = .returned (.int .i64 (unfV n))∧u=w:=by
 have hU:unfV n=if n % 2=1 then -((n+1) / 2) else n / 2:=by unfold unfV;rw[if_neg (by omega)]
 by_cases hm:n % 2=1
 ·
  have HU:Hid (unfV n = -((n+1) / 2)):=by show _=_;rw[hU,if_pos hm]
  clear hU
  have t1:n.tmod 2=1:=by rw[Int.tmod_eq_emod_of_nonneg h0];exact hm
  have t2:(-(n+1)).tdiv 2 = -((n+1) / 2):=by rw[Int.neg_tdiv,Int.tdiv_eq_ediv_of_nonneg (by omega)]
  go_enter Tryz.func84,Tryz.ntmps84;go_wp2;go_ret;refine ⟨?_,rfl⟩;rw[HU.out]
  first|rfl | (congr 2;omega)
 ·
  have HU:Hid (unfV n=n / 2):=by show _=_;rw[hU,if_neg hm]
  clear hU
  have t1:¬ n.tmod 2=1:=by rw[Int.tmod_eq_emod_of_nonneg h0];exact hm
  have t2:n.tdiv 2=n / 2:=Int.tdiv_eq_ediv_of_nonneg h0;go_enter Tryz.func84,Tryz.ntmps84;go_wp2;go_ret;refine ⟨?_,rfl⟩;rw[HU.out]
  first|rfl | (congr 2;omega)
def InA (w u:World) (q g N:Nat) (R:RIns × Int) (e:Ending):Prop :=
 ∃ a1 c1 a2 c2,e = .returned (.agg #[.int .i64 R.1.op,.int .i64 R.1.a,.int .i64 R.1.b,.slice a1 R.1.lit.length c1,.slice a2 R.1.tos.length c2])∧Byt R.1.lit∧Own1 w u q g N R.2 [.int .i64 R.1.op,.int .i64 R.1.a,.int .i64 R.1.b,.slice a1 R.1.lit.length c1,.slice a2 R.1.tos.length c2] (encInss [R.1])
theorem oneIns (w:World) (x:RIns) {a1 a2:Option Addr} {c1 c2:Nat} {b1 b2:List Nat} (h1:SlG w 1 a1 x.lit.length c1 (encB x.lit) b1) (h2:SlG w 1 a2 x.tos.length c2 (encI x.tos) b2):VsG w [.int .i64 x.op,.int .i64 x.a,.int .i64 x.b,.slice a1 x.lit.length c1,.slice a2 x.tos.length c2] (encInss [x]) (b1++b2) :=
 ⟨rfl,rfl,rfl,b1,b2,a1,_,c1,rfl,rfl,h1,b2,[],a2,_,c2,by simp,rfl,h2,rfl⟩
theorem insOneC (q g N:Nat) (zs:List Int) (p op p1:Int) (w:World) (hop:(parI zs).op p=(op,p1)) (hc:op=1) (hB:Byq w q g N zs) (b:CRd w q g N p) (hF:OpsIn w) (hp:p≤30000) :
  Calls Tryz.prog 67 #[.pointer (some ⟨q,0,none⟩)] w fun e u=>InA w u q g N (insP (parI zs) p) e:=by
 have ga:=gal w (.cells #[.int .i64 0,.int .i64 0,.int .i64 0,.slice none 0 0,.slice none 0 0] 52) none;have HB:Hid (Byq w q g N zs):=hB;have C0:Hid _:=opC q g N zs p (w.alloc (.cells #[.int .i64 0,.int .i64 0,.int .i64 0,.slice none 0 0,.slice none 0 0] 52)) (hB.old ga) (CRd.old b ga) (hF.none ga) (by omega);have L0:Hid (w.grownBy (w.alloc (.cells #[.int .i64 0,.int .i64 0,.int .i64 0,.slice none 0 0,.slice none 0 0] 52)) none∧(w.alloc (.cells #[.int .i64 0,.int .i64 0,.int .i64 0,.slice none 0 0,.slice none 0 0] 52)).heap[w.heap.size]? = some (.cells #[.int .i64 0,.int .i64 0,.int .i64 0,.slice none 0 0,.slice none 0 0] 52)∧q < w.heap.size):=⟨ga,hnw w _,lbk b⟩
 have HI:Hid (insP (parI zs) p=(⟨op,(aP (parI zs) op p1).1,(bP (parI zs) op (aP (parI zs) op p1).2).1,(litP (parI zs) op (toP (parI zs) op (bP (parI zs) op (aP (parI zs) op p1).2).2).2).1,(toP (parI zs) op (bP (parI zs) op (aP (parI zs) op p1).2).2).1⟩,(litP (parI zs) op (toP (parI zs) op (bP (parI zs) op (aP (parI zs) op p1).2).2).2).2)):=by show _=_;unfold insP;rw[hop]
 have hq1:p1≤30000:=by
  have hz:=HB.out.2.2.1
  have h1:((parI zs).op p).2≤30000:=by
   have:=HB.out.2.1;have:=HB.out.2.2.2.1;simp only[parI]
   split
   ·
    simp
   ·
    simp only;split <;> omega
  rw[hop] at h1;exact h1
 have HC:Hid _:=hc;clear hB b ga hF hc;go_enter Tryz.func67,Tryz.ntmps67;go_wp2_with fail;generalize e2:w.heap.size=q2 at *;have PE0:Hid (w.heap.size=q2∧q < q2):=⟨e2,L0.out.2.2⟩;clear e2;refine Calls.mono C0.out ?_;rintro e u ⟨he,hg,hcd⟩;rw[hop] at he hcd;clear hop;simp only[] at he hcd;have LU:Hid (w.grownBy u (some q)∧CRd u q g N p1∧u.heap[q2]? = some (.cells #[.int .i64 0,.int .i64 0,.int .i64 0,.slice none 0 0,.slice none 0 0] 52)):=⟨gtr (wide_none L0.out.1 _) hg,hcd,(hg.block _ (lbk L0.out.2.1) (by have:=L0.out.2.2;simp;omega)).trans L0.out.2.1⟩;clear C0 L0 hg hcd;have hc:=HC.out
 have HF:Hid (opF op=#[.bool true,.bool true,.bool false,.bool false,.bool false]):=by
  show _=_
  subst hc;rfl
 clear hc;rw[HF.out] at he;subst he;simp only[];have g4:=gal u (.cells #[.bool true,.bool true,.bool false,.bool false,.bool false] 114) none;have b4:=hnw u (.cells #[.bool true,.bool true,.bool false,.bool false,.bool false] 114);have g5:=gal (u.alloc (.cells #[.bool true,.bool true,.bool false,.bool false,.bool false] 114)) (.cells #[.int .i64 op,.int .i64 0,.int .i64 0,.slice none 0 0,.slice none 0 0] 52) none;have b5:=hnw (u.alloc (.cells #[.bool true,.bool true,.bool false,.bool false,.bool false] 114)) (.cells #[.int .i64 op,.int .i64 0,.int .i64 0,.slice none 0 0,.slice none 0 0] 52)
 have sz4:(u.alloc (.cells #[.bool true,.bool true,.bool false,.bool false,.bool false] 114)).heap.size=u.heap.size+1:=by simp
 rw[sz4] at b5;have LX:Hid (w.grownBy ((u.alloc (.cells #[.bool true,.bool true,.bool false,.bool false,.bool false] 114)).alloc (.cells #[.int .i64 op,.int .i64 0,.int .i64 0,.slice none 0 0,.slice none 0 0] 52)) (some q)∧CRd ((u.alloc (.cells #[.bool true,.bool true,.bool false,.bool false,.bool false] 114)).alloc (.cells #[.int .i64 op,.int .i64 0,.int .i64 0,.slice none 0 0,.slice none 0 0] 52)) q g N p1∧((u.alloc (.cells #[.bool true,.bool true,.bool false,.bool false,.bool false] 114)).alloc (.cells #[.int .i64 op,.int .i64 0,.int .i64 0,.slice none 0 0,.slice none 0 0] 52)).heap[q2]? = some (.cells #[.int .i64 0,.int .i64 0,.int .i64 0,.slice none 0 0,.slice none 0 0] 52)∧((u.alloc (.cells #[.bool true,.bool true,.bool false,.bool false,.bool false] 114)).alloc (.cells #[.int .i64 op,.int .i64 0,.int .i64 0,.slice none 0 0,.slice none 0 0] 52)).heap[u.heap.size]? = some (.cells #[.bool true,.bool true,.bool false,.bool false,.bool false] 114)∧((u.alloc (.cells #[.bool true,.bool true,.bool false,.bool false,.bool false] 114)).alloc (.cells #[.int .i64 op,.int .i64 0,.int .i64 0,.slice none 0 0,.slice none 0 0] 52)).heap[u.heap.size+1]? = some (.cells #[.int .i64 op,.int .i64 0,.int .i64 0,.slice none 0 0,.slice none 0 0] 52)):=⟨gtr LU.out.1 (wide_none (gtr g4 g5) _),CRd.old LU.out.2.1 (gtr g4 g5),((gtr g4 g5).block _ (lbk LU.out.2.2) (by simp)).trans LU.out.2.2,(g5.block _ (lbk b4) (by simp)).trans b4,b5⟩
 have PX:Hid (w.heap.size=q2∧q < q2∧q2 < u.heap.size∧u.heap.size < u.heap.size+1):=⟨PE0.out.1,PE0.out.2,lbk LU.out.2.2,by omega⟩;clear g4 b4 g5 b5 LU PE0;go_upto_block 0 with fail
 skip
 generalize ((u.alloc (.cells #[.bool true,.bool true,.bool false,.bool false,.bool false] 114)).alloc (.cells #[.int .i64 op,.int .i64 0,.int .i64 0,.slice none 0 0,.slice none 0 0] 52))=w0 at *;clear sz4;generalize u.heap.size+1=q5 at *;generalize u.heap.size=q4 at *;have PE:Hid _:=PX.out;clear PX;have L:Hid _:=LX.out;clear LX;obtain ⟨⟨z0,z1,z2,z3,z4⟩,-⟩:=blk5 L.out.2.2.2.1;have CC:Hid _:=numC q g N zs p1 w0 (HB.out.to L.out.1) L.out.2.1 (by have:=hq1;omega);go_wp2_with fail;refine Calls.mono CC.out ?_;rintro e v1 ⟨rfl,hg,hc⟩;obtain ⟨n1,r1,hn1⟩:∃ n r,getNum zs p1=(n,r):=⟨_,_,rfl⟩;have HN1:Hid (getNum zs p1=(n1,r1)):=hn1;have hb1:=getNum_bounds zs HB.out.2.2.1 p1;rw[hn1,HB.out.2.1] at hb1;have big1:=getNum_big zs p1;rw[hn1] at big1;rw[hn1] at hc;rw[hn1];clear hn1;simp only[] at hc hb1 big1 ⊢
 have nn1:0≤n1:=by
  rcases hb1 with h|h
  ·
   injection h with h1 h2;omega
  ·
   exact h.1
 have hq2:r1≤30000:=by
  have:=HB.out.2.2.2.1;rcases hb1 with h|h
  ·
   injection h with h1 h2;omega
  ·
   omega
 clear hb1;have L2:Hid (w.grownBy v1 (some q)∧CRd v1 q g N r1∧v1.heap[q2]? = some (.cells #[.int .i64 0,.int .i64 0,.int .i64 0,.slice none 0 0,.slice none 0 0] 52)∧v1.heap[q4]? = some (.cells #[.bool true,.bool true,.bool false,.bool false,.bool false] 114)∧v1.heap[q5]? = some (.cells #[.int .i64 op,.int .i64 0,.int .i64 0,.slice none 0 0,.slice none 0 0] 52)):=⟨gtr L.out.1 hg,hc,(hg.block _ (lbk L.out.2.2.1) (by have:=PE.out;simp;omega)).trans L.out.2.2.1,(hg.block _ (lbk L.out.2.2.2.1) (by have:=PE.out;simp;omega)).trans L.out.2.2.2.1,(hg.block _ (lbk L.out.2.2.2.2) (by have:=PE.out;simp;omega)).trans L.out.2.2.2.2⟩;clear L CC hg hc z0 z1 z2 z3 z4;have L:Hid _:=L2.out;clear L2;have CU:Hid _:=implUnfT n1 v1 nn1 big1;go_wp2_with fail;refine Calls.mono CU.out ?_;rintro e vv ⟨rfl,hvv⟩;obtain rfl:v1=vv:=hvv.symm;clear CU;simp only[];obtain ⟨⟨y0,y1,y2,y3,y4⟩,hfy⟩:=blk5 L.out.2.2.2.2;have f0:=hfy 0
 have f1:=hfy 1;have f2:=hfy 2;have f3:=hfy 3;have f4:=hfy 4;clear hfy;have ks:=gsc v1 q5 1 (.int .i64 (unfV n1));have L2:Hid (w.grownBy (v1.setCell ⟨q5,1,none⟩ (.int .i64 (unfV n1))) (some q)∧CRd (v1.setCell ⟨q5,1,none⟩ (.int .i64 (unfV n1))) q g N r1∧(v1.setCell ⟨q5,1,none⟩ (.int .i64 (unfV n1))).heap[q2]? = some (.cells #[.int .i64 0,.int .i64 0,.int .i64 0,.slice none 0 0,.slice none 0 0] 52)∧(v1.setCell ⟨q5,1,none⟩ (.int .i64 (unfV n1))).heap[q4]? = some (.cells #[.bool true,.bool true,.bool false,.bool false,.bool false] 114)∧(v1.setCell ⟨q5,1,none⟩ (.int .i64 (unfV n1))).heap[q5]? = some (.cells #[.int .i64 op,.int .i64 (unfV n1),.int .i64 0,.slice none 0 0,.slice none 0 0] 52)):=⟨grown_intoR L.out.1 ks (by have:=PE.out;omega),(ks.block _ (lbk L.out.2.1) (by have:=PE.out;simp;omega)).trans L.out.2.1,(ks.block _ (lbk L.out.2.2.1) (by have:=PE.out;simp;omega)).trans L.out.2.2.1,(ks.block _ (lbk L.out.2.2.2.1) (by have:=PE.out;simp;omega)).trans L.out.2.2.2.1,hsm v1 q5 1 _ _ (.int .i64 (unfV n1)) L.out.2.2.2.2⟩
 clear ks L;have L:Hid _:=L2.out;clear L2;go_upto_region 7 with fail;generalize (v1.setCell ⟨q5,1,none⟩ (.int .i64 (unfV n1)))=w1 at *;clear y0 y1 y2 y3 y4 f0 f1 f2 f3 f4;obtain ⟨⟨z0,z1,z2,z3,z4⟩,-⟩:=blk5 L.out.2.2.2.1;obtain ⟨⟨x0,x1,x2,x3,x4⟩,-⟩:=blkIns L.out.2.2.2.2;obtain ⟨⟨y0,y1,y2,y3,y4⟩,hfy⟩:=blkIns L.out.2.2.1;have f0:=hfy 0;have f1:=hfy 1;have f2:=hfy 2;have f3:=hfy 3;have f4:=hfy 4;clear hfy;obtain ⟨d2,k2⟩:=fillIns (.int .i64 op) (.int .i64 (unfV n1)) (.int .i64 0) (.slice none 0 0) (.slice none 0 0) L.out.2.2.1;have FQ:Hid (_∧w.grownBy _ (some q)∧CRd _ q g N r1):=⟨d2,grown_intoR L.out.1 k2 (by have:=PE.out;omega),(k2.block _ (lbk L.out.2.1) (by have:=PE.out;simp;omega)).trans L.out.2.1⟩;clear d2 k2 L;go_wp2
 (try simp only[Exit.inBlock,Exit.then])
 refine bodyPost_ret (results_cell_row (P:=Tryz.prog) Tryz.results67 _ _ q2 _ _ _ _ rfl FQ.out.1 Tryz.underlying52 rfl (by kernel_rfl)) rfl ?_;have hc:=HC.out
 have hR:insP (parI zs) p=(⟨op,unfV n1,0,[],[]⟩,r1):=by
  rw[HI.out];subst hc;simp only[aP,bP,toP,litP];simp [parI,HN1.out]
 rw[hR];refine ⟨none,0,none,0,rfl,fun z hz=>by simp at hz,FQ.out.2.1,FQ.out.2.2,[],oneIns _ ⟨op,unfV n1,0,[],[]⟩ (SlG.nil _ _ _ _) (SlG.nil _ _ _ _),List.nodup_nil,fun y hy=>by simp at hy⟩
theorem insConC (q g N:Nat) (zs:List Int) (p op p1:Int) (w:World) (hop:(parI zs).op p=(op,p1)) (hc:op=21) (hB:Byq w q g N zs) (b:CRd w q g N p) (hF:OpsIn w) (hp:p≤30000) :
  Calls Tryz.prog 67 #[.pointer (some ⟨q,0,none⟩)] w fun e u=>InA w u q g N (insP (parI zs) p) e:=by
 have ga:=gal w (.cells #[.int .i64 0,.int .i64 0,.int .i64 0,.slice none 0 0,.slice none 0 0] 52) none;have HB:Hid (Byq w q g N zs):=hB;have C0:Hid _:=opC q g N zs p (w.alloc (.cells #[.int .i64 0,.int .i64 0,.int .i64 0,.slice none 0 0,.slice none 0 0] 52)) (hB.old ga) (CRd.old b ga) (hF.none ga) (by omega);have L0:Hid (w.grownBy (w.alloc (.cells #[.int .i64 0,.int .i64 0,.int .i64 0,.slice none 0 0,.slice none 0 0] 52)) none∧(w.alloc (.cells #[.int .i64 0,.int .i64 0,.int .i64 0,.slice none 0 0,.slice none 0 0] 52)).heap[w.heap.size]? = some (.cells #[.int .i64 0,.int .i64 0,.int .i64 0,.slice none 0 0,.slice none 0 0] 52)∧q < w.heap.size):=⟨ga,hnw w _,lbk b⟩
 have HI:Hid (insP (parI zs) p=(⟨op,(aP (parI zs) op p1).1,(bP (parI zs) op (aP (parI zs) op p1).2).1,(litP (parI zs) op (toP (parI zs) op (bP (parI zs) op (aP (parI zs) op p1).2).2).2).1,(toP (parI zs) op (bP (parI zs) op (aP (parI zs) op p1).2).2).1⟩,(litP (parI zs) op (toP (parI zs) op (bP (parI zs) op (aP (parI zs) op p1).2).2).2).2)):=by show _=_;unfold insP;rw[hop]
 have hq1:p1≤30000:=by
  have hz:=HB.out.2.2.1
  have h1:((parI zs).op p).2≤30000:=by
   have:=HB.out.2.1;have:=HB.out.2.2.2.1;simp only[parI]
   split
   ·
    simp
   ·
    simp only;split <;> omega
  rw[hop] at h1;exact h1
 have HC:Hid _:=hc;clear hB b ga hF hc;go_enter Tryz.func67,Tryz.ntmps67;go_wp2_with fail;generalize e2:w.heap.size=q2 at *;have PE0:Hid (w.heap.size=q2∧q < q2):=⟨e2,L0.out.2.2⟩;clear e2;refine Calls.mono C0.out ?_;rintro e u ⟨he,hg,hcd⟩;rw[hop] at he hcd;clear hop;simp only[] at he hcd;have LU:Hid (w.grownBy u (some q)∧CRd u q g N p1∧u.heap[q2]? = some (.cells #[.int .i64 0,.int .i64 0,.int .i64 0,.slice none 0 0,.slice none 0 0] 52)):=⟨gtr (wide_none L0.out.1 _) hg,hcd,(hg.block _ (lbk L0.out.2.1) (by have:=L0.out.2.2;simp;omega)).trans L0.out.2.1⟩;clear C0 L0 hg hcd;have hc:=HC.out
 have HF:Hid (opF op=#[.bool true,.bool false,.bool true,.bool false,.bool false]):=by
  show _=_
  subst hc;rfl
 clear hc;rw[HF.out] at he;subst he;simp only[];have g4:=gal u (.cells #[.bool true,.bool false,.bool true,.bool false,.bool false] 114) none;have b4:=hnw u (.cells #[.bool true,.bool false,.bool true,.bool false,.bool false] 114);have g5:=gal (u.alloc (.cells #[.bool true,.bool false,.bool true,.bool false,.bool false] 114)) (.cells #[.int .i64 op,.int .i64 0,.int .i64 0,.slice none 0 0,.slice none 0 0] 52) none;have b5:=hnw (u.alloc (.cells #[.bool true,.bool false,.bool true,.bool false,.bool false] 114)) (.cells #[.int .i64 op,.int .i64 0,.int .i64 0,.slice none 0 0,.slice none 0 0] 52)
 have sz4:(u.alloc (.cells #[.bool true,.bool false,.bool true,.bool false,.bool false] 114)).heap.size=u.heap.size+1:=by simp
 rw[sz4] at b5;have LX:Hid (w.grownBy ((u.alloc (.cells #[.bool true,.bool false,.bool true,.bool false,.bool false] 114)).alloc (.cells #[.int .i64 op,.int .i64 0,.int .i64 0,.slice none 0 0,.slice none 0 0] 52)) (some q)∧CRd ((u.alloc (.cells #[.bool true,.bool false,.bool true,.bool false,.bool false] 114)).alloc (.cells #[.int .i64 op,.int .i64 0,.int .i64 0,.slice none 0 0,.slice none 0 0] 52)) q g N p1∧((u.alloc (.cells #[.bool true,.bool false,.bool true,.bool false,.bool false] 114)).alloc (.cells #[.int .i64 op,.int .i64 0,.int .i64 0,.slice none 0 0,.slice none 0 0] 52)).heap[q2]? = some (.cells #[.int .i64 0,.int .i64 0,.int .i64 0,.slice none 0 0,.slice none 0 0] 52)∧((u.alloc (.cells #[.bool true,.bool false,.bool true,.bool false,.bool false] 114)).alloc (.cells #[.int .i64 op,.int .i64 0,.int .i64 0,.slice none 0 0,.slice none 0 0] 52)).heap[u.heap.size]? = some (.cells #[.bool true,.bool false,.bool true,.bool false,.bool false] 114)∧((u.alloc (.cells #[.bool true,.bool false,.bool true,.bool false,.bool false] 114)).alloc (.cells #[.int .i64 op,.int .i64 0,.int .i64 0,.slice none 0 0,.slice none 0 0] 52)).heap[u.heap.size+1]? = some (.cells #[.int .i64 op,.int .i64 0,.int .i64 0,.slice none 0 0,.slice none 0 0] 52)):=⟨gtr LU.out.1 (wide_none (gtr g4 g5) _),CRd.old LU.out.2.1 (gtr g4 g5),((gtr g4 g5).block _ (lbk LU.out.2.2) (by simp)).trans LU.out.2.2,(g5.block _ (lbk b4) (by simp)).trans b4,b5⟩
 have PX:Hid (w.heap.size=q2∧q < q2∧q2 < u.heap.size∧u.heap.size < u.heap.size+1):=⟨PE0.out.1,PE0.out.2,lbk LU.out.2.2,by omega⟩;clear g4 b4 g5 b5 LU PE0;go_upto_block 0 with fail
 skip
 generalize ((u.alloc (.cells #[.bool true,.bool false,.bool true,.bool false,.bool false] 114)).alloc (.cells #[.int .i64 op,.int .i64 0,.int .i64 0,.slice none 0 0,.slice none 0 0] 52))=w0 at *;clear sz4;generalize u.heap.size+1=q5 at *;generalize u.heap.size=q4 at *;have PE:Hid _:=PX.out;clear PX;have L:Hid _:=LX.out;clear LX;obtain ⟨⟨z0,z1,z2,z3,z4⟩,-⟩:=blk5 L.out.2.2.2.1;have CC:Hid _:=numC q g N zs p1 w0 (HB.out.to L.out.1) L.out.2.1 (by have:=hq1;omega);go_wp2_with fail;refine Calls.mono CC.out ?_;rintro e v1 ⟨rfl,hg,hc⟩;obtain ⟨n1,r1,hn1⟩:∃ n r,getNum zs p1=(n,r):=⟨_,_,rfl⟩;have HN1:Hid (getNum zs p1=(n1,r1)):=hn1;have hb1:=getNum_bounds zs HB.out.2.2.1 p1;rw[hn1,HB.out.2.1] at hb1;have big1:=getNum_big zs p1;rw[hn1] at big1;rw[hn1] at hc;rw[hn1];clear hn1;simp only[] at hc hb1 big1 ⊢
 have nn1:0≤n1:=by
  rcases hb1 with h|h
  ·
   injection h with h1 h2;omega
  ·
   exact h.1
 have hq2:r1≤30000:=by
  have:=HB.out.2.2.2.1;rcases hb1 with h|h
  ·
   injection h with h1 h2;omega
  ·
   omega
 clear hb1;have L2:Hid (w.grownBy v1 (some q)∧CRd v1 q g N r1∧v1.heap[q2]? = some (.cells #[.int .i64 0,.int .i64 0,.int .i64 0,.slice none 0 0,.slice none 0 0] 52)∧v1.heap[q4]? = some (.cells #[.bool true,.bool false,.bool true,.bool false,.bool false] 114)∧v1.heap[q5]? = some (.cells #[.int .i64 op,.int .i64 0,.int .i64 0,.slice none 0 0,.slice none 0 0] 52)):=⟨gtr L.out.1 hg,hc,(hg.block _ (lbk L.out.2.2.1) (by have:=PE.out;simp;omega)).trans L.out.2.2.1,(hg.block _ (lbk L.out.2.2.2.1) (by have:=PE.out;simp;omega)).trans L.out.2.2.2.1,(hg.block _ (lbk L.out.2.2.2.2) (by have:=PE.out;simp;omega)).trans L.out.2.2.2.2⟩;clear L CC hg hc z0 z1 z2 z3 z4;have L:Hid _:=L2.out;clear L2;obtain ⟨⟨y0,y1,y2,y3,y4⟩,hfy⟩:=blk5 L.out.2.2.2.2;have f0:=hfy 0;have f1:=hfy 1;have f2:=hfy 2;have f3:=hfy 3;have f4:=hfy 4;clear hfy;have ks:=gsc v1 q5 1 (.int .i64 n1);have L2:Hid (w.grownBy (v1.setCell ⟨q5,1,none⟩ (.int .i64 n1)) (some q)∧CRd (v1.setCell ⟨q5,1,none⟩ (.int .i64 n1)) q g N r1∧(v1.setCell ⟨q5,1,none⟩ (.int .i64 n1)).heap[q2]? = some (.cells #[.int .i64 0,.int .i64 0,.int .i64 0,.slice none 0 0,.slice none 0 0] 52)∧(v1.setCell ⟨q5,1,none⟩ (.int .i64 n1)).heap[q4]? = some (.cells #[.bool true,.bool false,.bool true,.bool false,.bool false] 114)∧(v1.setCell ⟨q5,1,none⟩ (.int .i64 n1)).heap[q5]? = some (.cells #[.int .i64 op,.int .i64 n1,.int .i64 0,.slice none 0 0,.slice none 0 0] 52)):=⟨grown_intoR L.out.1 ks (by have:=PE.out;omega),(ks.block _ (lbk L.out.2.1) (by have:=PE.out;simp;omega)).trans L.out.2.1,(ks.block _ (lbk L.out.2.2.1) (by have:=PE.out;simp;omega)).trans L.out.2.2.1,(ks.block _ (lbk L.out.2.2.2.1) (by have:=PE.out;simp;omega)).trans L.out.2.2.2.1,hsm v1 q5 1 _ _ (.int .i64 n1) L.out.2.2.2.2⟩
 clear ks L;have L:Hid _:=L2.out;clear L2;go_upto_region 7 with fail;generalize (v1.setCell ⟨q5,1,none⟩ (.int .i64 n1))=w1 at *;clear y0 y1 y2 y3 y4 f0 f1 f2 f3 f4;obtain ⟨⟨z0,z1,z2,z3,z4⟩,-⟩:=blk5 L.out.2.2.2.1;have CC:Hid _:=numC q g N zs r1 w1 (HB.out.to L.out.1) L.out.2.1 (by have:=hq2;omega);go_wp2_with fail;refine Calls.mono CC.out ?_;rintro e v2 ⟨rfl,hg,hc⟩;obtain ⟨n2,r2,hn2⟩:∃ n r,getNum zs r1=(n,r):=⟨_,_,rfl⟩;have HN2:Hid (getNum zs r1=(n2,r2)):=hn2;have hb2:=getNum_bounds zs HB.out.2.2.1 r1;rw[hn2,HB.out.2.1] at hb2;have big2:=getNum_big zs r1;rw[hn2] at big2;rw[hn2] at hc;rw[hn2];clear hn2;simp only[] at hc hb2 big2 ⊢
 have nn2:0≤n2:=by
  rcases hb2 with h|h
  ·
   injection h with h1 h2;omega
  ·
   exact h.1
 have hq3:r2≤30000:=by
  have:=HB.out.2.2.2.1;rcases hb2 with h|h
  ·
   injection h with h1 h2;omega
  ·
   omega
 clear hb2;have L2:Hid (w.grownBy v2 (some q)∧CRd v2 q g N r2∧v2.heap[q2]? = some (.cells #[.int .i64 0,.int .i64 0,.int .i64 0,.slice none 0 0,.slice none 0 0] 52)∧v2.heap[q4]? = some (.cells #[.bool true,.bool false,.bool true,.bool false,.bool false] 114)∧v2.heap[q5]? = some (.cells #[.int .i64 op,.int .i64 n1,.int .i64 0,.slice none 0 0,.slice none 0 0] 52)):=⟨gtr L.out.1 hg,hc,(hg.block _ (lbk L.out.2.2.1) (by have:=PE.out;simp;omega)).trans L.out.2.2.1,(hg.block _ (lbk L.out.2.2.2.1) (by have:=PE.out;simp;omega)).trans L.out.2.2.2.1,(hg.block _ (lbk L.out.2.2.2.2) (by have:=PE.out;simp;omega)).trans L.out.2.2.2.2⟩;clear L CC hg hc z0 z1 z2 z3 z4;have L:Hid _:=L2.out;clear L2;obtain ⟨⟨y0,y1,y2,y3,y4⟩,hfy⟩:=blk5 L.out.2.2.2.2;have f0:=hfy 0;have f1:=hfy 1;have f2:=hfy 2;have f3:=hfy 3;have f4:=hfy 4;clear hfy;have ks:=gsc v2 q5 2 (.int .i64 n2);have L2:Hid (w.grownBy (v2.setCell ⟨q5,2,none⟩ (.int .i64 n2)) (some q)∧CRd (v2.setCell ⟨q5,2,none⟩ (.int .i64 n2)) q g N r2∧(v2.setCell ⟨q5,2,none⟩ (.int .i64 n2)).heap[q2]? = some (.cells #[.int .i64 0,.int .i64 0,.int .i64 0,.slice none 0 0,.slice none 0 0] 52)∧(v2.setCell ⟨q5,2,none⟩ (.int .i64 n2)).heap[q4]? = some (.cells #[.bool true,.bool false,.bool true,.bool false,.bool false] 114)∧(v2.setCell ⟨q5,2,none⟩ (.int .i64 n2)).heap[q5]? = some (.cells #[.int .i64 op,.int .i64 n1,.int .i64 n2,.slice none 0 0,.slice none 0 0] 52)):=⟨grown_intoR L.out.1 ks (by have:=PE.out;omega),(ks.block _ (lbk L.out.2.1) (by have:=PE.out;simp;omega)).trans L.out.2.1,(ks.block _ (lbk L.out.2.2.1) (by have:=PE.out;simp;omega)).trans L.out.2.2.1,(ks.block _ (lbk L.out.2.2.2.1) (by have:=PE.out;simp;omega)).trans L.out.2.2.2.1,hsm v2 q5 2 _ _ (.int .i64 n2) L.out.2.2.2.2⟩
 clear ks L;have L:Hid _:=L2.out;clear L2;go_upto_region 9 with fail;generalize (v2.setCell ⟨q5,2,none⟩ (.int .i64 n2))=w2 at *;clear y0 y1 y2 y3 y4 f0 f1 f2 f3 f4;obtain ⟨⟨z0,z1,z2,z3,z4⟩,-⟩:=blk5 L.out.2.2.2.1;obtain ⟨⟨x0,x1,x2,x3,x4⟩,-⟩:=blkIns L.out.2.2.2.2;obtain ⟨⟨y0,y1,y2,y3,y4⟩,hfy⟩:=blkIns L.out.2.2.1;have f0:=hfy 0;have f1:=hfy 1;have f2:=hfy 2;have f3:=hfy 3;have f4:=hfy 4;clear hfy;obtain ⟨d2,k2⟩:=fillIns (.int .i64 op) (.int .i64 n1) (.int .i64 n2) (.slice none 0 0) (.slice none 0 0) L.out.2.2.1;have FQ:Hid (_∧w.grownBy _ (some q)∧CRd _ q g N r2):=⟨d2,grown_intoR L.out.1 k2 (by have:=PE.out;omega),(k2.block _ (lbk L.out.2.1) (by have:=PE.out;simp;omega)).trans L.out.2.1⟩;clear d2 k2 L;go_wp2
 (try simp only[Exit.inBlock,Exit.then])
 refine bodyPost_ret (results_cell_row (P:=Tryz.prog) Tryz.results67 _ _ q2 _ _ _ _ rfl FQ.out.1 Tryz.underlying52 rfl (by kernel_rfl)) rfl ?_;have hc:=HC.out
 have hR:insP (parI zs) p=(⟨op,n1,n2,[],[]⟩,r2):=by
  rw[HI.out];subst hc;simp only[aP,bP,toP,litP];simp [parI,HN1.out,HN2.out,hasA]
 rw[hR];refine ⟨none,0,none,0,rfl,fun z hz=>by simp at hz,FQ.out.2.1,FQ.out.2.2,[],oneIns _ ⟨op,n1,n2,[],[]⟩ (SlG.nil _ _ _ _) (SlG.nil _ _ _ _),List.nodup_nil,fun y hy=>by simp at hy⟩
theorem insCaseC (q g N:Nat) (zs:List Int) (p op p1:Int) (w:World) (hop:(parI zs).op p=(op,p1)) (hc:op=22) (hB:Byq w q g N zs) (b:CRd w q g N p) (hF:OpsIn w) (hp:p≤30000) :
  Calls Tryz.prog 67 #[.pointer (some ⟨q,0,none⟩)] w fun e u=>InA w u q g N (insP (parI zs) p) e:=by
 have ga:=gal w (.cells #[.int .i64 0,.int .i64 0,.int .i64 0,.slice none 0 0,.slice none 0 0] 52) none;have HB:Hid (Byq w q g N zs):=hB;have C0:Hid _:=opC q g N zs p (w.alloc (.cells #[.int .i64 0,.int .i64 0,.int .i64 0,.slice none 0 0,.slice none 0 0] 52)) (hB.old ga) (CRd.old b ga) (hF.none ga) (by omega);have L0:Hid (w.grownBy (w.alloc (.cells #[.int .i64 0,.int .i64 0,.int .i64 0,.slice none 0 0,.slice none 0 0] 52)) none∧(w.alloc (.cells #[.int .i64 0,.int .i64 0,.int .i64 0,.slice none 0 0,.slice none 0 0] 52)).heap[w.heap.size]? = some (.cells #[.int .i64 0,.int .i64 0,.int .i64 0,.slice none 0 0,.slice none 0 0] 52)∧q < w.heap.size):=⟨ga,hnw w _,lbk b⟩
 have HI:Hid (insP (parI zs) p=(⟨op,(aP (parI zs) op p1).1,(bP (parI zs) op (aP (parI zs) op p1).2).1,(litP (parI zs) op (toP (parI zs) op (bP (parI zs) op (aP (parI zs) op p1).2).2).2).1,(toP (parI zs) op (bP (parI zs) op (aP (parI zs) op p1).2).2).1⟩,(litP (parI zs) op (toP (parI zs) op (bP (parI zs) op (aP (parI zs) op p1).2).2).2).2)):=by show _=_;unfold insP;rw[hop]
 have hq1:p1≤30000:=by
  have hz:=HB.out.2.2.1
  have h1:((parI zs).op p).2≤30000:=by
   have:=HB.out.2.1;have:=HB.out.2.2.2.1;simp only[parI]
   split
   ·
    simp
   ·
    simp only;split <;> omega
  rw[hop] at h1;exact h1
 have HC:Hid _:=hc;clear hB b ga hF hc;go_enter Tryz.func67,Tryz.ntmps67;go_wp2_with fail;generalize e2:w.heap.size=q2 at *;have PE0:Hid (w.heap.size=q2∧q < q2):=⟨e2,L0.out.2.2⟩;clear e2;refine Calls.mono C0.out ?_;rintro e u ⟨he,hg,hcd⟩;rw[hop] at he hcd;clear hop;simp only[] at he hcd;have LU:Hid (w.grownBy u (some q)∧CRd u q g N p1∧u.heap[q2]? = some (.cells #[.int .i64 0,.int .i64 0,.int .i64 0,.slice none 0 0,.slice none 0 0] 52)):=⟨gtr (wide_none L0.out.1 _) hg,hcd,(hg.block _ (lbk L0.out.2.1) (by have:=L0.out.2.2;simp;omega)).trans L0.out.2.1⟩;clear C0 L0 hg hcd;have hc:=HC.out
 have HF:Hid (opF op=#[.bool true,.bool false,.bool false,.bool false,.bool true]):=by
  show _=_
  subst hc;rfl
 clear hc;rw[HF.out] at he;subst he;simp only[];have g4:=gal u (.cells #[.bool true,.bool false,.bool false,.bool false,.bool true] 114) none;have b4:=hnw u (.cells #[.bool true,.bool false,.bool false,.bool false,.bool true] 114);have g5:=gal (u.alloc (.cells #[.bool true,.bool false,.bool false,.bool false,.bool true] 114)) (.cells #[.int .i64 op,.int .i64 0,.int .i64 0,.slice none 0 0,.slice none 0 0] 52) none;have b5:=hnw (u.alloc (.cells #[.bool true,.bool false,.bool false,.bool false,.bool true] 114)) (.cells #[.int .i64 op,.int .i64 0,.int .i64 0,.slice none 0 0,.slice none 0 0] 52)
 have sz4:(u.alloc (.cells #[.bool true,.bool false,.bool false,.bool false,.bool true] 114)).heap.size=u.heap.size+1:=by simp
 rw[sz4] at b5;have LX:Hid (w.grownBy ((u.alloc (.cells #[.bool true,.bool false,.bool false,.bool false,.bool true] 114)).alloc (.cells #[.int .i64 op,.int .i64 0,.int .i64 0,.slice none 0 0,.slice none 0 0] 52)) (some q)∧CRd ((u.alloc (.cells #[.bool true,.bool false,.bool false,.bool false,.bool true] 114)).alloc (.cells #[.int .i64 op,.int .i64 0,.int .i64 0,.slice none 0 0,.slice none 0 0] 52)) q g N p1∧((u.alloc (.cells #[.bool true,.bool false,.bool false,.bool false,.bool true] 114)).alloc (.cells #[.int .i64 op,.int .i64 0,.int .i64 0,.slice none 0 0,.slice none 0 0] 52)).heap[q2]? = some (.cells #[.int .i64 0,.int .i64 0,.int .i64 0,.slice none 0 0,.slice none 0 0] 52)∧((u.alloc (.cells #[.bool true,.bool false,.bool false,.bool false,.bool true] 114)).alloc (.cells #[.int .i64 op,.int .i64 0,.int .i64 0,.slice none 0 0,.slice none 0 0] 52)).heap[u.heap.size]? = some (.cells #[.bool true,.bool false,.bool false,.bool false,.bool true] 114)∧((u.alloc (.cells #[.bool true,.bool false,.bool false,.bool false,.bool true] 114)).alloc (.cells #[.int .i64 op,.int .i64 0,.int .i64 0,.slice none 0 0,.slice none 0 0] 52)).heap[u.heap.size+1]? = some (.cells #[.int .i64 op,.int .i64 0,.int .i64 0,.slice none 0 0,.slice none 0 0] 52)):=⟨gtr LU.out.1 (wide_none (gtr g4 g5) _),CRd.old LU.out.2.1 (gtr g4 g5),((gtr g4 g5).block _ (lbk LU.out.2.2) (by simp)).trans LU.out.2.2,(g5.block _ (lbk b4) (by simp)).trans b4,b5⟩
 have PX:Hid (w.heap.size=q2∧q < q2∧q2 < u.heap.size∧u.heap.size < u.heap.size+1):=⟨PE0.out.1,PE0.out.2,lbk LU.out.2.2,by omega⟩;clear g4 b4 g5 b5 LU PE0;go_upto_block 0 with fail
 skip
 generalize ((u.alloc (.cells #[.bool true,.bool false,.bool false,.bool false,.bool true] 114)).alloc (.cells #[.int .i64 op,.int .i64 0,.int .i64 0,.slice none 0 0,.slice none 0 0] 52))=w0 at *;clear sz4;generalize u.heap.size+1=q5 at *;generalize u.heap.size=q4 at *;have PE:Hid _:=PX.out;clear PX;have L:Hid _:=LX.out;clear LX;obtain ⟨⟨z0,z1,z2,z3,z4⟩,-⟩:=blk5 L.out.2.2.2.1;have CC:Hid _:=numC q g N zs p1 w0 (HB.out.to L.out.1) L.out.2.1 (by have:=hq1;omega);go_wp2_with fail;refine Calls.mono CC.out ?_;rintro e v1 ⟨rfl,hg,hc⟩;obtain ⟨n1,r1,hn1⟩:∃ n r,getNum zs p1=(n,r):=⟨_,_,rfl⟩;have HN1:Hid (getNum zs p1=(n1,r1)):=hn1;have hb1:=getNum_bounds zs HB.out.2.2.1 p1;rw[hn1,HB.out.2.1] at hb1;have big1:=getNum_big zs p1;rw[hn1] at big1;rw[hn1] at hc;rw[hn1];clear hn1;simp only[] at hc hb1 big1 ⊢
 have nn1:0≤n1:=by
  rcases hb1 with h|h
  ·
   injection h with h1 h2;omega
  ·
   exact h.1
 have hq2:r1≤30000:=by
  have:=HB.out.2.2.2.1;rcases hb1 with h|h
  ·
   injection h with h1 h2;omega
  ·
   omega
 clear hb1;have L2:Hid (w.grownBy v1 (some q)∧CRd v1 q g N r1∧v1.heap[q2]? = some (.cells #[.int .i64 0,.int .i64 0,.int .i64 0,.slice none 0 0,.slice none 0 0] 52)∧v1.heap[q4]? = some (.cells #[.bool true,.bool false,.bool false,.bool false,.bool true] 114)∧v1.heap[q5]? = some (.cells #[.int .i64 op,.int .i64 0,.int .i64 0,.slice none 0 0,.slice none 0 0] 52)):=⟨gtr L.out.1 hg,hc,(hg.block _ (lbk L.out.2.2.1) (by have:=PE.out;simp;omega)).trans L.out.2.2.1,(hg.block _ (lbk L.out.2.2.2.1) (by have:=PE.out;simp;omega)).trans L.out.2.2.2.1,(hg.block _ (lbk L.out.2.2.2.2) (by have:=PE.out;simp;omega)).trans L.out.2.2.2.2⟩;clear L CC hg hc z0 z1 z2 z3 z4;have L:Hid _:=L2.out;clear L2;obtain ⟨⟨y0,y1,y2,y3,y4⟩,hfy⟩:=blk5 L.out.2.2.2.2;have f0:=hfy 0;have f1:=hfy 1;have f2:=hfy 2;have f3:=hfy 3;have f4:=hfy 4;clear hfy;have ks:=gsc v1 q5 1 (.int .i64 n1);have L2:Hid (w.grownBy (v1.setCell ⟨q5,1,none⟩ (.int .i64 n1)) (some q)∧CRd (v1.setCell ⟨q5,1,none⟩ (.int .i64 n1)) q g N r1∧(v1.setCell ⟨q5,1,none⟩ (.int .i64 n1)).heap[q2]? = some (.cells #[.int .i64 0,.int .i64 0,.int .i64 0,.slice none 0 0,.slice none 0 0] 52)∧(v1.setCell ⟨q5,1,none⟩ (.int .i64 n1)).heap[q4]? = some (.cells #[.bool true,.bool false,.bool false,.bool false,.bool true] 114)∧(v1.setCell ⟨q5,1,none⟩ (.int .i64 n1)).heap[q5]? = some (.cells #[.int .i64 op,.int .i64 n1,.int .i64 0,.slice none 0 0,.slice none 0 0] 52)):=⟨grown_intoR L.out.1 ks (by have:=PE.out;omega),(ks.block _ (lbk L.out.2.1) (by have:=PE.out;simp;omega)).trans L.out.2.1,(ks.block _ (lbk L.out.2.2.1) (by have:=PE.out;simp;omega)).trans L.out.2.2.1,(ks.block _ (lbk L.out.2.2.2.1) (by have:=PE.out;simp;omega)).trans L.out.2.2.2.1,hsm v1 q5 1 _ _ (.int .i64 n1) L.out.2.2.2.2⟩
 clear ks L;have L:Hid _:=L2.out;clear L2;go_upto_region 7 with fail;generalize (v1.setCell ⟨q5,1,none⟩ (.int .i64 n1))=w1 at *;clear y0 y1 y2 y3 y4 f0 f1 f2 f3 f4;obtain ⟨⟨z0,z1,z2,z3,z4⟩,-⟩:=blk5 L.out.2.2.2.1;have CC:Hid _:=rlIntC q g N zs r1 w1 (HB.out.to L.out.1) L.out.2.1 (by have:=hq2;omega);go_wp2_with fail;refine Calls.mono CC.out ?_;rintro e v2 ⟨aS,cS,bS,rfl,hg,hc,hS,hn,hlo⟩;obtain ⟨xs,r2,hx⟩:∃ xs r,listP (parI zs) ((parI zs).nm 0) 0 r1=(xs,r):=⟨_,_,rfl⟩;have HX:Hid (listP (parI zs) ((parI zs).nm 0) 0 r1=(xs,r2)):=hx;rw[hx] at hc hS;rw[hx];clear hx;simp only[] at hc hS ⊢;have L2:Hid (w.grownBy v2 (some q)∧CRd v2 q g N r2∧v2.heap[q2]? = some (.cells #[.int .i64 0,.int .i64 0,.int .i64 0,.slice none 0 0,.slice none 0 0] 52)∧v2.heap[q4]? = some (.cells #[.bool true,.bool false,.bool false,.bool false,.bool true] 114)∧v2.heap[q5]? = some (.cells #[.int .i64 op,.int .i64 n1,.int .i64 0,.slice none 0 0,.slice none 0 0] 52)):=⟨gtr L.out.1 hg,hc,(hg.block _ (lbk L.out.2.2.1) (by have:=PE.out;simp;omega)).trans L.out.2.2.1,(hg.block _ (lbk L.out.2.2.2.1) (by have:=PE.out;simp;omega)).trans L.out.2.2.2.1,(hg.block _ (lbk L.out.2.2.2.2) (by have:=PE.out;simp;omega)).trans L.out.2.2.2.2⟩
 have SX:Hid (SlG v2 1 aS xs.length cS (encI xs) bS∧bS.Nodup∧∀ y ∈ bS,q5 < y):=⟨hS,hn,fun y hy=>by have:=hlo y hy;have:=lbk L.out.2.2.2.2;omega⟩;clear L CC hg hc z0 z1 z2 z3 z4 hS hn hlo;have L:Hid _:=L2.out;clear L2;generalize hlx:xs.length=lS at *;have HLX:Hid (xs.length=lS):=hlx;clear hlx;obtain ⟨⟨y0,y1,y2,y3,y4⟩,hfy⟩:=blk5 L.out.2.2.2.2;have f0:=hfy 0;have f1:=hfy 1;have f2:=hfy 2;have f3:=hfy 3;have f4:=hfy 4;clear hfy;have ks:=gsc v2 q5 4 (.slice aS lS cS);have L2:Hid (w.grownBy (v2.setCell ⟨q5,4,none⟩ (.slice aS lS cS)) (some q)∧CRd (v2.setCell ⟨q5,4,none⟩ (.slice aS lS cS)) q g N r2∧(v2.setCell ⟨q5,4,none⟩ (.slice aS lS cS)).heap[q2]? = some (.cells #[.int .i64 0,.int .i64 0,.int .i64 0,.slice none 0 0,.slice none 0 0] 52)∧(v2.setCell ⟨q5,4,none⟩ (.slice aS lS cS)).heap[q4]? = some (.cells #[.bool true,.bool false,.bool false,.bool false,.bool true] 114)∧(v2.setCell ⟨q5,4,none⟩ (.slice aS lS cS)).heap[q5]? = some (.cells #[.int .i64 op,.int .i64 n1,.int .i64 0,.slice none 0 0,.slice aS lS cS] 52)):=⟨grown_intoR L.out.1 ks (by have:=PE.out;omega),(ks.block _ (lbk L.out.2.1) (by have:=PE.out;simp;omega)).trans L.out.2.1,(ks.block _ (lbk L.out.2.2.1) (by have:=PE.out;simp;omega)).trans L.out.2.2.1,(ks.block _ (lbk L.out.2.2.2.1) (by have:=PE.out;simp;omega)).trans L.out.2.2.2.1,hsm v2 q5 4 _ _ (.slice aS lS cS) L.out.2.2.2.2⟩
 have SY:Hid (SlG (v2.setCell ⟨q5,4,none⟩ (.slice aS lS cS)) 1 aS lS cS (encI xs) bS∧bS.Nodup∧∀ y ∈ bS,q5 < y):=⟨SX.out.1.kept ks (fun y hy=>by have:=SX.out.2.2 y hy;simp;omega),SX.out.2⟩;clear ks L SX;have L:Hid _:=L2.out;clear L2;go_upto_region 11 with fail;generalize (v2.setCell ⟨q5,4,none⟩ (.slice aS lS cS))=w2 at *;clear y0 y1 y2 y3 y4 f0 f1 f2 f3 f4;obtain ⟨⟨z0,z1,z2,z3,z4⟩,-⟩:=blk5 L.out.2.2.2.1;obtain ⟨⟨x0,x1,x2,x3,x4⟩,-⟩:=blkIns L.out.2.2.2.2;obtain ⟨⟨y0,y1,y2,y3,y4⟩,hfy⟩:=blkIns L.out.2.2.1;have f0:=hfy 0;have f1:=hfy 1;have f2:=hfy 2;have f3:=hfy 3;have f4:=hfy 4;clear hfy;obtain ⟨d2,k2⟩:=fillIns (.int .i64 op) (.int .i64 n1) (.int .i64 0) (.slice none 0 0) (.slice aS lS cS) L.out.2.2.1;have FQ:Hid (_∧w.grownBy _ (some q)∧CRd _ q g N r2∧SlG _ 1 aS lS cS (encI xs) bS):=⟨d2,grown_intoR L.out.1 k2 (by have:=PE.out;omega),(k2.block _ (lbk L.out.2.1) (by have:=PE.out;simp;omega)).trans L.out.2.1,SY.out.1.kept k2 (fun y hy=>by have:=SY.out.2.2 y hy;have:=PE.out;simp;omega)⟩
 clear d2 k2 L;go_wp2
 (try simp only[Exit.inBlock,Exit.then])
 refine bodyPost_ret (results_cell_row (P:=Tryz.prog) Tryz.results67 _ _ q2 _ _ _ _ rfl FQ.out.1 Tryz.underlying52 rfl (by kernel_rfl)) rfl ?_;have hc:=HC.out
 have hR:insP (parI zs) p=(⟨op,n1,0,[],xs⟩,r2):=by
  rw[HI.out];have hx:listP (parI zs) ((parI zs).nm 2147483647) 5 r1=(xs,r2):=HX.out;subst hc;simp only[aP,bP,toP,litP];simp [show (parI zs).nm 2147483647 p1=(n1,r1) from HN1.out,hx,hasA]
 rw[hR]
 have FS2:∀ W',SlG W' 1 aS lS cS (encI xs) bS→SlG W' 1 aS xs.length cS (encI xs) bS:=fun W' h=>by rw[HLX.out];exact h
 have FS:=FS2 _ FQ.out.2.2.2;refine ⟨none,0,aS,cS,by simp only[HLX.out];rfl,fun z hz=>by simp at hz,FQ.out.2.1,FQ.out.2.2.1,bS,by simpa using oneIns _ ⟨op,n1,0,[],xs⟩ (SlG.nil _ _ none 0) FS,SY.out.2.1,fun y hy=>by have:=SY.out.2.2 y hy;have:=PE.out;omega⟩
theorem insLitC (q g N:Nat) (zs:List Int) (p op p1:Int) (w:World) (hop:(parI zs).op p=(op,p1)) (hc:op=2) (hB:Byq w q g N zs) (b:CRd w q g N p) (hF:OpsIn w) (hp:p≤30000) :
  Calls Tryz.prog 67 #[.pointer (some ⟨q,0,none⟩)] w fun e u=>InA w u q g N (insP (parI zs) p) e:=by
 have ga:=gal w (.cells #[.int .i64 0,.int .i64 0,.int .i64 0,.slice none 0 0,.slice none 0 0] 52) none;have HB:Hid (Byq w q g N zs):=hB;have C0:Hid _:=opC q g N zs p (w.alloc (.cells #[.int .i64 0,.int .i64 0,.int .i64 0,.slice none 0 0,.slice none 0 0] 52)) (hB.old ga) (CRd.old b ga) (hF.none ga) (by omega);have L0:Hid (w.grownBy (w.alloc (.cells #[.int .i64 0,.int .i64 0,.int .i64 0,.slice none 0 0,.slice none 0 0] 52)) none∧(w.alloc (.cells #[.int .i64 0,.int .i64 0,.int .i64 0,.slice none 0 0,.slice none 0 0] 52)).heap[w.heap.size]? = some (.cells #[.int .i64 0,.int .i64 0,.int .i64 0,.slice none 0 0,.slice none 0 0] 52)∧q < w.heap.size):=⟨ga,hnw w _,lbk b⟩
 have HI:Hid (insP (parI zs) p=(⟨op,(aP (parI zs) op p1).1,(bP (parI zs) op (aP (parI zs) op p1).2).1,(litP (parI zs) op (toP (parI zs) op (bP (parI zs) op (aP (parI zs) op p1).2).2).2).1,(toP (parI zs) op (bP (parI zs) op (aP (parI zs) op p1).2).2).1⟩,(litP (parI zs) op (toP (parI zs) op (bP (parI zs) op (aP (parI zs) op p1).2).2).2).2)):=by show _=_;unfold insP;rw[hop]
 have hq1:p1≤30000:=by
  have hz:=HB.out.2.2.1
  have h1:((parI zs).op p).2≤30000:=by
   have:=HB.out.2.1;have:=HB.out.2.2.2.1;simp only[parI]
   split
   ·
    simp
   ·
    simp only;split <;> omega
  rw[hop] at h1;exact h1
 have HC:Hid _:=hc;clear hB b ga hF hc;go_enter Tryz.func67,Tryz.ntmps67;go_wp2_with fail;generalize e2:w.heap.size=q2 at *;have PE0:Hid (w.heap.size=q2∧q < q2):=⟨e2,L0.out.2.2⟩;clear e2;refine Calls.mono C0.out ?_;rintro e u ⟨he,hg,hcd⟩;rw[hop] at he hcd;clear hop;simp only[] at he hcd;have LU:Hid (w.grownBy u (some q)∧CRd u q g N p1∧u.heap[q2]? = some (.cells #[.int .i64 0,.int .i64 0,.int .i64 0,.slice none 0 0,.slice none 0 0] 52)):=⟨gtr (wide_none L0.out.1 _) hg,hcd,(hg.block _ (lbk L0.out.2.1) (by have:=L0.out.2.2;simp;omega)).trans L0.out.2.1⟩;clear C0 L0 hg hcd;have hc:=HC.out
 have HF:Hid (opF op=#[.bool false,.bool false,.bool false,.bool true,.bool false]):=by
  show _=_
  subst hc;rfl
 clear hc;rw[HF.out] at he;subst he;simp only[];have g4:=gal u (.cells #[.bool false,.bool false,.bool false,.bool true,.bool false] 114) none;have b4:=hnw u (.cells #[.bool false,.bool false,.bool false,.bool true,.bool false] 114);have g5:=gal (u.alloc (.cells #[.bool false,.bool false,.bool false,.bool true,.bool false] 114)) (.cells #[.int .i64 op,.int .i64 0,.int .i64 0,.slice none 0 0,.slice none 0 0] 52) none;have b5:=hnw (u.alloc (.cells #[.bool false,.bool false,.bool false,.bool true,.bool false] 114)) (.cells #[.int .i64 op,.int .i64 0,.int .i64 0,.slice none 0 0,.slice none 0 0] 52)
 have sz4:(u.alloc (.cells #[.bool false,.bool false,.bool false,.bool true,.bool false] 114)).heap.size=u.heap.size+1:=by simp
 rw[sz4] at b5;have LX:Hid (w.grownBy ((u.alloc (.cells #[.bool false,.bool false,.bool false,.bool true,.bool false] 114)).alloc (.cells #[.int .i64 op,.int .i64 0,.int .i64 0,.slice none 0 0,.slice none 0 0] 52)) (some q)∧CRd ((u.alloc (.cells #[.bool false,.bool false,.bool false,.bool true,.bool false] 114)).alloc (.cells #[.int .i64 op,.int .i64 0,.int .i64 0,.slice none 0 0,.slice none 0 0] 52)) q g N p1∧((u.alloc (.cells #[.bool false,.bool false,.bool false,.bool true,.bool false] 114)).alloc (.cells #[.int .i64 op,.int .i64 0,.int .i64 0,.slice none 0 0,.slice none 0 0] 52)).heap[q2]? = some (.cells #[.int .i64 0,.int .i64 0,.int .i64 0,.slice none 0 0,.slice none 0 0] 52)∧((u.alloc (.cells #[.bool false,.bool false,.bool false,.bool true,.bool false] 114)).alloc (.cells #[.int .i64 op,.int .i64 0,.int .i64 0,.slice none 0 0,.slice none 0 0] 52)).heap[u.heap.size]? = some (.cells #[.bool false,.bool false,.bool false,.bool true,.bool false] 114)∧((u.alloc (.cells #[.bool false,.bool false,.bool false,.bool true,.bool false] 114)).alloc (.cells #[.int .i64 op,.int .i64 0,.int .i64 0,.slice none 0 0,.slice none 0 0] 52)).heap[u.heap.size+1]? = some (.cells #[.int .i64 op,.int .i64 0,.int .i64 0,.slice none 0 0,.slice none 0 0] 52)):=⟨gtr LU.out.1 (wide_none (gtr g4 g5) _),CRd.old LU.out.2.1 (gtr g4 g5),((gtr g4 g5).block _ (lbk LU.out.2.2) (by simp)).trans LU.out.2.2,(g5.block _ (lbk b4) (by simp)).trans b4,b5⟩
 have PX:Hid (w.heap.size=q2∧q < q2∧q2 < u.heap.size∧u.heap.size < u.heap.size+1):=⟨PE0.out.1,PE0.out.2,lbk LU.out.2.2,by omega⟩;clear g4 b4 g5 b5 LU PE0;go_upto_block 0 with fail
 skip
 generalize ((u.alloc (.cells #[.bool false,.bool false,.bool false,.bool true,.bool false] 114)).alloc (.cells #[.int .i64 op,.int .i64 0,.int .i64 0,.slice none 0 0,.slice none 0 0] 52))=w0 at *;clear sz4;generalize u.heap.size+1=q5 at *;generalize u.heap.size=q4 at *;have PE:Hid _:=PX.out;clear PX;have L:Hid _:=LX.out;clear LX;obtain ⟨⟨z0,z1,z2,z3,z4⟩,-⟩:=blk5 L.out.2.2.2.1;have CC:Hid _:=textC q g N zs p1 w0 (HB.out.to L.out.1) L.out.2.1 (by have:=hq1;omega);go_wp2_with fail;refine Calls.mono CC.out ?_;rintro e v1 ⟨aS,cS,bS,rfl,hg,hc,hS,hn,hlo,hby⟩;obtain ⟨xs,r1,hx⟩:∃ xs r,(parI zs).tx p1=(xs,r):=⟨_,_,rfl⟩;have HX:Hid ((parI zs).tx p1=(xs,r1)):=hx;rw[hx] at hc hS hby;rw[hx];clear hx;simp only[] at hc hS hby ⊢;have BY:Hid _:=hby;clear hby;have L2:Hid (w.grownBy v1 (some q)∧CRd v1 q g N r1∧v1.heap[q2]? = some (.cells #[.int .i64 0,.int .i64 0,.int .i64 0,.slice none 0 0,.slice none 0 0] 52)∧v1.heap[q4]? = some (.cells #[.bool false,.bool false,.bool false,.bool true,.bool false] 114)∧v1.heap[q5]? = some (.cells #[.int .i64 op,.int .i64 0,.int .i64 0,.slice none 0 0,.slice none 0 0] 52)):=⟨gtr L.out.1 hg,hc,(hg.block _ (lbk L.out.2.2.1) (by have:=PE.out;simp;omega)).trans L.out.2.2.1,(hg.block _ (lbk L.out.2.2.2.1) (by have:=PE.out;simp;omega)).trans L.out.2.2.2.1,(hg.block _ (lbk L.out.2.2.2.2) (by have:=PE.out;simp;omega)).trans L.out.2.2.2.2⟩
 have SX:Hid (SlG v1 1 aS xs.length cS (encB xs) bS∧bS.Nodup∧∀ y ∈ bS,q5 < y):=⟨hS,hn,fun y hy=>by have:=hlo y hy;have:=lbk L.out.2.2.2.2;omega⟩;clear L CC hg hc z0 z1 z2 z3 z4 hS hn hlo;have L:Hid _:=L2.out;clear L2;generalize hlx:xs.length=lS at *;have HLX:Hid (xs.length=lS):=hlx;clear hlx;obtain ⟨⟨y0,y1,y2,y3,y4⟩,hfy⟩:=blk5 L.out.2.2.2.2;have f0:=hfy 0;have f1:=hfy 1;have f2:=hfy 2;have f3:=hfy 3;have f4:=hfy 4;clear hfy;have ks:=gsc v1 q5 3 (.slice aS lS cS);have L2:Hid (w.grownBy (v1.setCell ⟨q5,3,none⟩ (.slice aS lS cS)) (some q)∧CRd (v1.setCell ⟨q5,3,none⟩ (.slice aS lS cS)) q g N r1∧(v1.setCell ⟨q5,3,none⟩ (.slice aS lS cS)).heap[q2]? = some (.cells #[.int .i64 0,.int .i64 0,.int .i64 0,.slice none 0 0,.slice none 0 0] 52)∧(v1.setCell ⟨q5,3,none⟩ (.slice aS lS cS)).heap[q4]? = some (.cells #[.bool false,.bool false,.bool false,.bool true,.bool false] 114)∧(v1.setCell ⟨q5,3,none⟩ (.slice aS lS cS)).heap[q5]? = some (.cells #[.int .i64 op,.int .i64 0,.int .i64 0,.slice aS lS cS,.slice none 0 0] 52)):=⟨grown_intoR L.out.1 ks (by have:=PE.out;omega),(ks.block _ (lbk L.out.2.1) (by have:=PE.out;simp;omega)).trans L.out.2.1,(ks.block _ (lbk L.out.2.2.1) (by have:=PE.out;simp;omega)).trans L.out.2.2.1,(ks.block _ (lbk L.out.2.2.2.1) (by have:=PE.out;simp;omega)).trans L.out.2.2.2.1,hsm v1 q5 3 _ _ (.slice aS lS cS) L.out.2.2.2.2⟩
 have SY:Hid (SlG (v1.setCell ⟨q5,3,none⟩ (.slice aS lS cS)) 1 aS lS cS (encB xs) bS∧bS.Nodup∧∀ y ∈ bS,q5 < y):=⟨SX.out.1.kept ks (fun y hy=>by have:=SX.out.2.2 y hy;simp;omega),SX.out.2⟩;clear ks L SX;have L:Hid _:=L2.out;clear L2;go_upto_region 13 with fail;generalize (v1.setCell ⟨q5,3,none⟩ (.slice aS lS cS))=w1 at *;clear y0 y1 y2 y3 y4 f0 f1 f2 f3 f4;obtain ⟨⟨z0,z1,z2,z3,z4⟩,-⟩:=blk5 L.out.2.2.2.1;obtain ⟨⟨x0,x1,x2,x3,x4⟩,-⟩:=blkIns L.out.2.2.2.2;obtain ⟨⟨y0,y1,y2,y3,y4⟩,hfy⟩:=blkIns L.out.2.2.1;have f0:=hfy 0;have f1:=hfy 1;have f2:=hfy 2;have f3:=hfy 3;have f4:=hfy 4;clear hfy;obtain ⟨d2,k2⟩:=fillIns (.int .i64 op) (.int .i64 0) (.int .i64 0) (.slice aS lS cS) (.slice none 0 0) L.out.2.2.1;have FQ:Hid (_∧w.grownBy _ (some q)∧CRd _ q g N r1∧SlG _ 1 aS lS cS (encB xs) bS):=⟨d2,grown_intoR L.out.1 k2 (by have:=PE.out;omega),(k2.block _ (lbk L.out.2.1) (by have:=PE.out;simp;omega)).trans L.out.2.1,SY.out.1.kept k2 (fun y hy=>by have:=SY.out.2.2 y hy;have:=PE.out;simp;omega)⟩
 clear d2 k2 L;go_wp2
 (try simp only[Exit.inBlock,Exit.then])
 refine bodyPost_ret (results_cell_row (P:=Tryz.prog) Tryz.results67 _ _ q2 _ _ _ _ rfl FQ.out.1 Tryz.underlying52 rfl (by kernel_rfl)) rfl ?_;have hc:=HC.out
 have hR:insP (parI zs) p=(⟨op,0,0,xs,[]⟩,r1):=by
  rw[HI.out];subst hc;simp only[aP,bP,toP,litP];simp [HX.out,hasA]
 rw[hR]
 have FS2:∀ W',SlG W' 1 aS lS cS (encB xs) bS→SlG W' 1 aS xs.length cS (encB xs) bS:=fun W' h=>by rw[HLX.out];exact h
 have FS:=FS2 _ FQ.out.2.2.2;refine ⟨aS,cS,none,0,by simp only[HLX.out];rfl,BY.out,FQ.out.2.1,FQ.out.2.2.1,bS,by simpa using oneIns _ ⟨op,0,0,xs,[]⟩ FS (SlG.nil _ _ none 0),SY.out.2.1,fun y hy=>by have:=SY.out.2.2 y hy;have:=PE.out;omega⟩
theorem insAC (q g N:Nat) (zs:List Int) (p op p1:Int) (w:World) (hop:(parI zs).op p=(op,p1)) (hc:hasA op=true∧¬ op=1∧¬ op=21∧¬ op=22) (hB:Byq w q g N zs) (b:CRd w q g N p) (hF:OpsIn w) (hp:p≤30000) :
  Calls Tryz.prog 67 #[.pointer (some ⟨q,0,none⟩)] w fun e u=>InA w u q g N (insP (parI zs) p) e:=by
 have ga:=gal w (.cells #[.int .i64 0,.int .i64 0,.int .i64 0,.slice none 0 0,.slice none 0 0] 52) none;have HB:Hid (Byq w q g N zs):=hB;have C0:Hid _:=opC q g N zs p (w.alloc (.cells #[.int .i64 0,.int .i64 0,.int .i64 0,.slice none 0 0,.slice none 0 0] 52)) (hB.old ga) (CRd.old b ga) (hF.none ga) (by omega);have L0:Hid (w.grownBy (w.alloc (.cells #[.int .i64 0,.int .i64 0,.int .i64 0,.slice none 0 0,.slice none 0 0] 52)) none∧(w.alloc (.cells #[.int .i64 0,.int .i64 0,.int .i64 0,.slice none 0 0,.slice none 0 0] 52)).heap[w.heap.size]? = some (.cells #[.int .i64 0,.int .i64 0,.int .i64 0,.slice none 0 0,.slice none 0 0] 52)∧q < w.heap.size):=⟨ga,hnw w _,lbk b⟩
 have HI:Hid (insP (parI zs) p=(⟨op,(aP (parI zs) op p1).1,(bP (parI zs) op (aP (parI zs) op p1).2).1,(litP (parI zs) op (toP (parI zs) op (bP (parI zs) op (aP (parI zs) op p1).2).2).2).1,(toP (parI zs) op (bP (parI zs) op (aP (parI zs) op p1).2).2).1⟩,(litP (parI zs) op (toP (parI zs) op (bP (parI zs) op (aP (parI zs) op p1).2).2).2).2)):=by show _=_;unfold insP;rw[hop]
 have hq1:p1≤30000:=by
  have hz:=HB.out.2.2.1
  have h1:((parI zs).op p).2≤30000:=by
   have:=HB.out.2.1;have:=HB.out.2.2.2.1;simp only[parI]
   split
   ·
    simp
   ·
    simp only;split <;> omega
  rw[hop] at h1;exact h1
 have HC:Hid _:=hc;clear hB b ga hF hc;go_enter Tryz.func67,Tryz.ntmps67;go_wp2_with fail;generalize e2:w.heap.size=q2 at *;have PE0:Hid (w.heap.size=q2∧q < q2):=⟨e2,L0.out.2.2⟩;clear e2;refine Calls.mono C0.out ?_;rintro e u ⟨he,hg,hcd⟩;rw[hop] at he hcd;clear hop;simp only[] at he hcd;have LU:Hid (w.grownBy u (some q)∧CRd u q g N p1∧u.heap[q2]? = some (.cells #[.int .i64 0,.int .i64 0,.int .i64 0,.slice none 0 0,.slice none 0 0] 52)):=⟨gtr (wide_none L0.out.1 _) hg,hcd,(hg.block _ (lbk L0.out.2.1) (by have:=L0.out.2.2;simp;omega)).trans L0.out.2.1⟩;clear C0 L0 hg hcd;have hc:=HC.out
 have HF:Hid (opF op=#[.bool true,.bool false,.bool false,.bool false,.bool false]):=by
  show _=_
  have h21:¬ op=21:=hc.2.2.1;have h1:¬ op=1:=hc.2.1;have h22:¬ op=22:=hc.2.2.2
  have hk:opOk op=true:=by
   have:=hc.1;simp only[hasA,Bool.or_eq_true,dE9] at this;simp [opOk];omega
  have h2:¬ op=2:=fun h=>by rw[h] at hc;exact absurd hc.1 (by decide)
  unfold opF;simp [hk,hc.1,h21,h1,h22,h2]
 clear hc;rw[HF.out] at he;subst he;simp only[];have g4:=gal u (.cells #[.bool true,.bool false,.bool false,.bool false,.bool false] 114) none;have b4:=hnw u (.cells #[.bool true,.bool false,.bool false,.bool false,.bool false] 114);have g5:=gal (u.alloc (.cells #[.bool true,.bool false,.bool false,.bool false,.bool false] 114)) (.cells #[.int .i64 op,.int .i64 0,.int .i64 0,.slice none 0 0,.slice none 0 0] 52) none;have b5:=hnw (u.alloc (.cells #[.bool true,.bool false,.bool false,.bool false,.bool false] 114)) (.cells #[.int .i64 op,.int .i64 0,.int .i64 0,.slice none 0 0,.slice none 0 0] 52)
 have sz4:(u.alloc (.cells #[.bool true,.bool false,.bool false,.bool false,.bool false] 114)).heap.size=u.heap.size+1:=by simp
 rw[sz4] at b5;have LX:Hid (w.grownBy ((u.alloc (.cells #[.bool true,.bool false,.bool false,.bool false,.bool false] 114)).alloc (.cells #[.int .i64 op,.int .i64 0,.int .i64 0,.slice none 0 0,.slice none 0 0] 52)) (some q)∧CRd ((u.alloc (.cells #[.bool true,.bool false,.bool false,.bool false,.bool false] 114)).alloc (.cells #[.int .i64 op,.int .i64 0,.int .i64 0,.slice none 0 0,.slice none 0 0] 52)) q g N p1∧((u.alloc (.cells #[.bool true,.bool false,.bool false,.bool false,.bool false] 114)).alloc (.cells #[.int .i64 op,.int .i64 0,.int .i64 0,.slice none 0 0,.slice none 0 0] 52)).heap[q2]? = some (.cells #[.int .i64 0,.int .i64 0,.int .i64 0,.slice none 0 0,.slice none 0 0] 52)∧((u.alloc (.cells #[.bool true,.bool false,.bool false,.bool false,.bool false] 114)).alloc (.cells #[.int .i64 op,.int .i64 0,.int .i64 0,.slice none 0 0,.slice none 0 0] 52)).heap[u.heap.size]? = some (.cells #[.bool true,.bool false,.bool false,.bool false,.bool false] 114)∧((u.alloc (.cells #[.bool true,.bool false,.bool false,.bool false,.bool false] 114)).alloc (.cells #[.int .i64 op,.int .i64 0,.int .i64 0,.slice none 0 0,.slice none 0 0] 52)).heap[u.heap.size+1]? = some (.cells #[.int .i64 op,.int .i64 0,.int .i64 0,.slice none 0 0,.slice none 0 0] 52)):=⟨gtr LU.out.1 (wide_none (gtr g4 g5) _),CRd.old LU.out.2.1 (gtr g4 g5),((gtr g4 g5).block _ (lbk LU.out.2.2) (by simp)).trans LU.out.2.2,(g5.block _ (lbk b4) (by simp)).trans b4,b5⟩
 have PX:Hid (w.heap.size=q2∧q < q2∧q2 < u.heap.size∧u.heap.size < u.heap.size+1):=⟨PE0.out.1,PE0.out.2,lbk LU.out.2.2,by omega⟩;clear g4 b4 g5 b5 LU PE0;go_upto_block 0 with fail
 skip
 generalize ((u.alloc (.cells #[.bool true,.bool false,.bool false,.bool false,.bool false] 114)).alloc (.cells #[.int .i64 op,.int .i64 0,.int .i64 0,.slice none 0 0,.slice none 0 0] 52))=w0 at *;clear sz4;generalize u.heap.size+1=q5 at *;generalize u.heap.size=q4 at *;have PE:Hid _:=PX.out;clear PX;have L:Hid _:=LX.out;clear LX;obtain ⟨⟨z0,z1,z2,z3,z4⟩,-⟩:=blk5 L.out.2.2.2.1;have CC:Hid _:=numC q g N zs p1 w0 (HB.out.to L.out.1) L.out.2.1 (by have:=hq1;omega);go_wp2_with fail;refine Calls.mono CC.out ?_;rintro e v1 ⟨rfl,hg,hc⟩;obtain ⟨n1,r1,hn1⟩:∃ n r,getNum zs p1=(n,r):=⟨_,_,rfl⟩;have HN1:Hid (getNum zs p1=(n1,r1)):=hn1;have hb1:=getNum_bounds zs HB.out.2.2.1 p1;rw[hn1,HB.out.2.1] at hb1;have big1:=getNum_big zs p1;rw[hn1] at big1;rw[hn1] at hc;rw[hn1];clear hn1;simp only[] at hc hb1 big1 ⊢
 have nn1:0≤n1:=by
  rcases hb1 with h|h
  ·
   injection h with h1 h2;omega
  ·
   exact h.1
 have hq2:r1≤30000:=by
  have:=HB.out.2.2.2.1;rcases hb1 with h|h
  ·
   injection h with h1 h2;omega
  ·
   omega
 clear hb1;have L2:Hid (w.grownBy v1 (some q)∧CRd v1 q g N r1∧v1.heap[q2]? = some (.cells #[.int .i64 0,.int .i64 0,.int .i64 0,.slice none 0 0,.slice none 0 0] 52)∧v1.heap[q4]? = some (.cells #[.bool true,.bool false,.bool false,.bool false,.bool false] 114)∧v1.heap[q5]? = some (.cells #[.int .i64 op,.int .i64 0,.int .i64 0,.slice none 0 0,.slice none 0 0] 52)):=⟨gtr L.out.1 hg,hc,(hg.block _ (lbk L.out.2.2.1) (by have:=PE.out;simp;omega)).trans L.out.2.2.1,(hg.block _ (lbk L.out.2.2.2.1) (by have:=PE.out;simp;omega)).trans L.out.2.2.2.1,(hg.block _ (lbk L.out.2.2.2.2) (by have:=PE.out;simp;omega)).trans L.out.2.2.2.2⟩;clear L CC hg hc z0 z1 z2 z3 z4;have L:Hid _:=L2.out;clear L2;obtain ⟨⟨y0,y1,y2,y3,y4⟩,hfy⟩:=blk5 L.out.2.2.2.2;have f0:=hfy 0;have f1:=hfy 1;have f2:=hfy 2;have f3:=hfy 3;have f4:=hfy 4;clear hfy;have ks:=gsc v1 q5 1 (.int .i64 n1);have L2:Hid (w.grownBy (v1.setCell ⟨q5,1,none⟩ (.int .i64 n1)) (some q)∧CRd (v1.setCell ⟨q5,1,none⟩ (.int .i64 n1)) q g N r1∧(v1.setCell ⟨q5,1,none⟩ (.int .i64 n1)).heap[q2]? = some (.cells #[.int .i64 0,.int .i64 0,.int .i64 0,.slice none 0 0,.slice none 0 0] 52)∧(v1.setCell ⟨q5,1,none⟩ (.int .i64 n1)).heap[q4]? = some (.cells #[.bool true,.bool false,.bool false,.bool false,.bool false] 114)∧(v1.setCell ⟨q5,1,none⟩ (.int .i64 n1)).heap[q5]? = some (.cells #[.int .i64 op,.int .i64 n1,.int .i64 0,.slice none 0 0,.slice none 0 0] 52)):=⟨grown_intoR L.out.1 ks (by have:=PE.out;omega),(ks.block _ (lbk L.out.2.1) (by have:=PE.out;simp;omega)).trans L.out.2.1,(ks.block _ (lbk L.out.2.2.1) (by have:=PE.out;simp;omega)).trans L.out.2.2.1,(ks.block _ (lbk L.out.2.2.2.1) (by have:=PE.out;simp;omega)).trans L.out.2.2.2.1,hsm v1 q5 1 _ _ (.int .i64 n1) L.out.2.2.2.2⟩
 clear ks L;have L:Hid _:=L2.out;clear L2;go_upto_region 7 with fail;generalize (v1.setCell ⟨q5,1,none⟩ (.int .i64 n1))=w1 at *;clear y0 y1 y2 y3 y4 f0 f1 f2 f3 f4;obtain ⟨⟨z0,z1,z2,z3,z4⟩,-⟩:=blk5 L.out.2.2.2.1;obtain ⟨⟨x0,x1,x2,x3,x4⟩,-⟩:=blkIns L.out.2.2.2.2;obtain ⟨⟨y0,y1,y2,y3,y4⟩,hfy⟩:=blkIns L.out.2.2.1;have f0:=hfy 0;have f1:=hfy 1;have f2:=hfy 2;have f3:=hfy 3;have f4:=hfy 4;clear hfy;obtain ⟨d2,k2⟩:=fillIns (.int .i64 op) (.int .i64 n1) (.int .i64 0) (.slice none 0 0) (.slice none 0 0) L.out.2.2.1;have FQ:Hid (_∧w.grownBy _ (some q)∧CRd _ q g N r1):=⟨d2,grown_intoR L.out.1 k2 (by have:=PE.out;omega),(k2.block _ (lbk L.out.2.1) (by have:=PE.out;simp;omega)).trans L.out.2.1⟩;clear d2 k2 L;go_wp2
 (try simp only[Exit.inBlock,Exit.then])
 refine bodyPost_ret (results_cell_row (P:=Tryz.prog) Tryz.results67 _ _ q2 _ _ _ _ rfl FQ.out.1 Tryz.underlying52 rfl (by kernel_rfl)) rfl ?_;have hc:=HC.out
 have hR:insP (parI zs) p=(⟨op,n1,0,[],[]⟩,r1):=by
  rw[HI.out]
  have h2:¬ op=2:=fun h=>by rw[h] at hc;exact absurd hc.1 (by decide)
  simp only[aP,bP,toP,litP];simp [show (parI zs).nm 2147483647 p1=(n1,r1) from HN1.out,hc.1,hc.2.1,hc.2.2.1,hc.2.2.2,h2]
 rw[hR];refine ⟨none,0,none,0,rfl,fun z hz=>by simp at hz,FQ.out.2.1,FQ.out.2.2,[],oneIns _ ⟨op,n1,0,[],[]⟩ (SlG.nil _ _ _ _) (SlG.nil _ _ _ _),List.nodup_nil,fun y hy=>by simp at hy⟩
theorem insNoC (q g N:Nat) (zs:List Int) (p op p1:Int) (w:World) (hop:(parI zs).op p=(op,p1)) (hc:hasA op=false∧¬ op=2) (hB:Byq w q g N zs) (b:CRd w q g N p) (hF:OpsIn w) (hp:p≤30000) :
  Calls Tryz.prog 67 #[.pointer (some ⟨q,0,none⟩)] w fun e u=>InA w u q g N (insP (parI zs) p) e:=by
 have ga:=gal w (.cells #[.int .i64 0,.int .i64 0,.int .i64 0,.slice none 0 0,.slice none 0 0] 52) none;have HB:Hid (Byq w q g N zs):=hB;have C0:Hid _:=opC q g N zs p (w.alloc (.cells #[.int .i64 0,.int .i64 0,.int .i64 0,.slice none 0 0,.slice none 0 0] 52)) (hB.old ga) (CRd.old b ga) (hF.none ga) (by omega);have L0:Hid (w.grownBy (w.alloc (.cells #[.int .i64 0,.int .i64 0,.int .i64 0,.slice none 0 0,.slice none 0 0] 52)) none∧(w.alloc (.cells #[.int .i64 0,.int .i64 0,.int .i64 0,.slice none 0 0,.slice none 0 0] 52)).heap[w.heap.size]? = some (.cells #[.int .i64 0,.int .i64 0,.int .i64 0,.slice none 0 0,.slice none 0 0] 52)∧q < w.heap.size):=⟨ga,hnw w _,lbk b⟩
 have HI:Hid (insP (parI zs) p=(⟨op,(aP (parI zs) op p1).1,(bP (parI zs) op (aP (parI zs) op p1).2).1,(litP (parI zs) op (toP (parI zs) op (bP (parI zs) op (aP (parI zs) op p1).2).2).2).1,(toP (parI zs) op (bP (parI zs) op (aP (parI zs) op p1).2).2).1⟩,(litP (parI zs) op (toP (parI zs) op (bP (parI zs) op (aP (parI zs) op p1).2).2).2).2)):=by show _=_;unfold insP;rw[hop]
 have hq1:p1≤30000:=by
  have hz:=HB.out.2.2.1
  have h1:((parI zs).op p).2≤30000:=by
   have:=HB.out.2.1;have:=HB.out.2.2.2.1;simp only[parI]
   split
   ·
    simp
   ·
    simp only;split <;> omega
  rw[hop] at h1;exact h1
 have HC:Hid _:=hc;clear hB b ga hF hc;go_enter Tryz.func67,Tryz.ntmps67;go_wp2_with fail;generalize e2:w.heap.size=q2 at *;have PE0:Hid (w.heap.size=q2∧q < q2):=⟨e2,L0.out.2.2⟩;clear e2;refine Calls.mono C0.out ?_;rintro e u ⟨he,hg,hcd⟩;rw[hop] at he hcd;clear hop;simp only[] at he hcd;have LU:Hid (w.grownBy u (some q)∧CRd u q g N p1∧u.heap[q2]? = some (.cells #[.int .i64 0,.int .i64 0,.int .i64 0,.slice none 0 0,.slice none 0 0] 52)):=⟨gtr (wide_none L0.out.1 _) hg,hcd,(hg.block _ (lbk L0.out.2.1) (by have:=L0.out.2.2;simp;omega)).trans L0.out.2.1⟩;clear C0 L0 hg hcd;have hc:=HC.out
 have HF:Hid (opF op=#[.bool false,.bool false,.bool false,.bool false,.bool false]):=by
  show _=_
  have h1:¬ op=1:=fun h=>by rw[h] at hc;exact absurd hc.1 (by decide)
  have h21:¬ op=21:=fun h=>by rw[h] at hc;exact absurd hc.1 (by decide)
  have h22:¬ op=22:=fun h=>by rw[h] at hc;exact absurd hc.1 (by decide)
  unfold opF;simp [hc.1,h21,h1,h22,hc.2]
 clear hc;rw[HF.out] at he;subst he;simp only[];have g4:=gal u (.cells #[.bool false,.bool false,.bool false,.bool false,.bool false] 114) none;have b4:=hnw u (.cells #[.bool false,.bool false,.bool false,.bool false,.bool false] 114);have g5:=gal (u.alloc (.cells #[.bool false,.bool false,.bool false,.bool false,.bool false] 114)) (.cells #[.int .i64 op,.int .i64 0,.int .i64 0,.slice none 0 0,.slice none 0 0] 52) none;have b5:=hnw (u.alloc (.cells #[.bool false,.bool false,.bool false,.bool false,.bool false] 114)) (.cells #[.int .i64 op,.int .i64 0,.int .i64 0,.slice none 0 0,.slice none 0 0] 52)
 have sz4:(u.alloc (.cells #[.bool false,.bool false,.bool false,.bool false,.bool false] 114)).heap.size=u.heap.size+1:=by simp
 rw[sz4] at b5;have LX:Hid (w.grownBy ((u.alloc (.cells #[.bool false,.bool false,.bool false,.bool false,.bool false] 114)).alloc (.cells #[.int .i64 op,.int .i64 0,.int .i64 0,.slice none 0 0,.slice none 0 0] 52)) (some q)∧CRd ((u.alloc (.cells #[.bool false,.bool false,.bool false,.bool false,.bool false] 114)).alloc (.cells #[.int .i64 op,.int .i64 0,.int .i64 0,.slice none 0 0,.slice none 0 0] 52)) q g N p1∧((u.alloc (.cells #[.bool false,.bool false,.bool false,.bool false,.bool false] 114)).alloc (.cells #[.int .i64 op,.int .i64 0,.int .i64 0,.slice none 0 0,.slice none 0 0] 52)).heap[q2]? = some (.cells #[.int .i64 0,.int .i64 0,.int .i64 0,.slice none 0 0,.slice none 0 0] 52)∧((u.alloc (.cells #[.bool false,.bool false,.bool false,.bool false,.bool false] 114)).alloc (.cells #[.int .i64 op,.int .i64 0,.int .i64 0,.slice none 0 0,.slice none 0 0] 52)).heap[u.heap.size]? = some (.cells #[.bool false,.bool false,.bool false,.bool false,.bool false] 114)∧((u.alloc (.cells #[.bool false,.bool false,.bool false,.bool false,.bool false] 114)).alloc (.cells #[.int .i64 op,.int .i64 0,.int .i64 0,.slice none 0 0,.slice none 0 0] 52)).heap[u.heap.size+1]? = some (.cells #[.int .i64 op,.int .i64 0,.int .i64 0,.slice none 0 0,.slice none 0 0] 52)):=⟨gtr LU.out.1 (wide_none (gtr g4 g5) _),CRd.old LU.out.2.1 (gtr g4 g5),((gtr g4 g5).block _ (lbk LU.out.2.2) (by simp)).trans LU.out.2.2,(g5.block _ (lbk b4) (by simp)).trans b4,b5⟩
 have PX:Hid (w.heap.size=q2∧q < q2∧q2 < u.heap.size∧u.heap.size < u.heap.size+1):=⟨PE0.out.1,PE0.out.2,lbk LU.out.2.2,by omega⟩;clear g4 b4 g5 b5 LU PE0;go_upto_block 0 with fail
 skip
 generalize ((u.alloc (.cells #[.bool false,.bool false,.bool false,.bool false,.bool false] 114)).alloc (.cells #[.int .i64 op,.int .i64 0,.int .i64 0,.slice none 0 0,.slice none 0 0] 52))=w0 at *;clear sz4;generalize u.heap.size+1=q5 at *;generalize u.heap.size=q4 at *;have PE:Hid _:=PX.out;clear PX;have L:Hid _:=LX.out;clear LX;obtain ⟨⟨z0,z1,z2,z3,z4⟩,-⟩:=blk5 L.out.2.2.2.1;obtain ⟨⟨x0,x1,x2,x3,x4⟩,-⟩:=blkIns L.out.2.2.2.2;obtain ⟨⟨y0,y1,y2,y3,y4⟩,hfy⟩:=blkIns L.out.2.2.1;have f0:=hfy 0;have f1:=hfy 1;have f2:=hfy 2;have f3:=hfy 3;have f4:=hfy 4;clear hfy;obtain ⟨d2,k2⟩:=fillIns (.int .i64 op) (.int .i64 0) (.int .i64 0) (.slice none 0 0) (.slice none 0 0) L.out.2.2.1;have FQ:Hid (_∧w.grownBy _ (some q)∧CRd _ q g N p1):=⟨d2,grown_intoR L.out.1 k2 (by have:=PE.out;omega),(k2.block _ (lbk L.out.2.1) (by have:=PE.out;simp;omega)).trans L.out.2.1⟩;clear d2 k2 L;go_wp2
 (try simp only[Exit.inBlock,Exit.then])
 refine bodyPost_ret (results_cell_row (P:=Tryz.prog) Tryz.results67 _ _ q2 _ _ _ _ rfl FQ.out.1 Tryz.underlying52 rfl (by kernel_rfl)) rfl ?_;have hc:=HC.out
 have hR:insP (parI zs) p=(⟨op,0,0,[],[]⟩,p1):=by
  rw[HI.out]
  have h1:¬ op=1:=fun h=>by rw[h] at hc;exact absurd hc.1 (by decide)
  have h21:¬ op=21:=fun h=>by rw[h] at hc;exact absurd hc.1 (by decide)
  have h22:¬ op=22:=fun h=>by rw[h] at hc;exact absurd hc.1 (by decide)
  simp only[aP,bP,toP,litP];simp [hc.1,h1,h21,h22,hc.2]
 rw[hR];refine ⟨none,0,none,0,rfl,fun z hz=>by simp at hz,FQ.out.2.1,FQ.out.2.2,[],oneIns _ ⟨op,0,0,[],[]⟩ (SlG.nil _ _ _ _) (SlG.nil _ _ _ _),List.nodup_nil,fun y hy=>by simp at hy⟩
theorem insC (q g N:Nat) (zs:List Int) (p:Int) (w:World) (hB:Byq w q g N zs) (b:CRd w q g N p) (hF:OpsIn w) (hp:p≤30000) :
  Calls Tryz.prog 67 #[.pointer (some ⟨q,0,none⟩)] w fun e u=>InA w u q g N (insP (parI zs) p) e:=by
 obtain ⟨op,p1,hop⟩:∃ op p1,(parI zs).op p=(op,p1):=⟨_,_,rfl⟩;by_cases h1:op=1
 ·
  exact insOneC q g N zs p op p1 w hop h1 hB b hF hp
 by_cases h21:op=21
 ·
  exact insConC q g N zs p op p1 w hop h21 hB b hF hp
 by_cases h22:op=22
 ·
  exact insCaseC q g N zs p op p1 w hop h22 hB b hF hp
 by_cases h2:op=2
 ·
  exact insLitC q g N zs p op p1 w hop h2 hB b hF hp
 by_cases hA:hasA op=true
 ·
  exact insAC q g N zs p op p1 w hop ⟨hA,h1,h21,h22⟩ hB b hF hp
 ·
  exact insNoC q g N zs p op p1 w hop ⟨by simpa using hA,h2⟩ hB b hF hp
end Go.Proofs.YtnmlbeefjjohfaaGreatDoor.By
