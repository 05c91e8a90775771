/-
  No statement is proved here.
-/
import Derived.Test.YtnmlbeefjjohfaaGreatDoorGO3AlsoSh
namespace Go.Proofs.YtnmlbeefjjohfaaGreatDoor.By
set_option maxRecDepth 100000
set_option maxHeartbeats 16000000
open Go.RowKit
set_option linter.unusedVariables false
set_option linter.unusedSimpArgs false
theorem specUnfT (n:Int) (w:World) (h0:0≤n) (h1:n≤2147483647):Calls Tryz.prog 32 #[.int .i64 n] w fun e u=>e = .returned (.int .i64 (unfV n))∧u=w:=by
 have hU:unfV n=if n % 2=1 then -((n+1) / 2) else n / 2:=by unfold unfV;rw[if_neg (by omega)]
 by_cases hm:n % 2=1
 ·
  have HU:Hid (unfV n = -((n+1) / 2)):=by show _=_;rw[hU,if_pos hm]
  clear hU
  have t1:n.tmod 2=1:=by rw[Int.tmod_eq_emod_of_nonneg h0];exact hm
  have t2:(-(n+1)).tdiv 2 = -((n+1) / 2):=by rw[Int.neg_tdiv,Int.tdiv_eq_ediv_of_nonneg (by omega)]
  go_enter Tryz.func32,Tryz.ntmps32;go_wp2;go_ret;refine ⟨?_,rfl⟩;rw[HU.out]
  first|rfl | (congr 2;omega)
 ·
  have HU:Hid (unfV n=n / 2):=by show _=_;rw[hU,if_neg hm]
  clear hU
  have t1:¬ n.tmod 2=1:=by rw[Int.tmod_eq_emod_of_nonneg h0];exact hm
  have t2:n.tdiv 2=n / 2:=Int.tdiv_eq_ediv_of_nonneg h0;go_enter Tryz.func32,Tryz.ntmps32;go_wp2;go_ret;refine ⟨?_,rfl⟩;rw[HU.out]
  first|rfl | (congr 2;omega)
def InSd (w u:World) (q g N:Nat) (R:RIns × Int) (e:Ending):Prop :=
 ∃ a1 c1 a2 c2,e = .returned (.agg #[.int .i64 R.1.op,.int .i64 R.1.a,.int .i64 R.1.b,.slice a1 R.1.lit.length c1,.slice a2 R.1.tos.length c2])∧Byt R.1.lit∧OwnS w u q g N R.2 [.int .i64 R.1.op,.int .i64 R.1.a,.int .i64 R.1.b,.slice a1 R.1.lit.length c1,.slice a2 R.1.tos.length c2] (encInss [R.1])
theorem insOutS (q g N:Nat) (zs:List Int) (p:Int) (w:World) (hout:p < 0∨(N:Int)≤p) (hB:Byq w q g N zs) (b:SCd w q g N p) :
  Calls Tryz.prog 15 #[.pointer (some ⟨q,0,none⟩)] w fun e u=>InSd w u q g N (insP (parS zs) p) e:=by
 have ga:=gal w (.cells #[.int .i64 0,.int .i64 0,.int .i64 0,.slice none 0 0,.slice none 0 0] 52) none;have gd:=grown_drew ga;have L1:Hid (w.grownBy (w.alloc (.cells #[.int .i64 0,.int .i64 0,.int .i64 0,.slice none 0 0,.slice none 0 0] 52)).drew none∧SCd (w.alloc (.cells #[.int .i64 0,.int .i64 0,.int .i64 0,.slice none 0 0,.slice none 0 0] 52)).drew q g N p∧(w.alloc (.cells #[.int .i64 0,.int .i64 0,.int .i64 0,.slice none 0 0,.slice none 0 0] 52)).drew.heap[w.heap.size]? = some (.cells #[.int .i64 0,.int .i64 0,.int .i64 0,.slice none 0 0,.slice none 0 0] 52)∧q < w.heap.size):=⟨gd,SCd.old b gd,hnw w _,lbk b⟩
 have hR:insP (parS zs) p=(⟨0,0,0,[],[]⟩,-1):=by
  have e0:(parS zs).op p=(0,-1):=by simp only[parS];rw[if_pos (by have:=hB.2.1;omega)]
  unfold insP;rw[e0];simp [aP,bP,toP,litP,hasA]
 have HE:Hid _:=hR;obtain ⟨⟨z0,z1⟩,h0,h3⟩:=two (SCd.old b ga);clear hB b ga gd hR;go_enter Tryz.func15,Tryz.ntmps15;go_wp2_with fail;generalize e2:w.heap.size=q2 at *;have PE:Hid (w.heap.size=q2):=e2;clear e2;refine wp_region_held_drew (S:=(fun u0=>u0.cell? ⟨q,0,none⟩=some (.slice (some ⟨g,0,none⟩) N N)∧u0.cell? ⟨q,1,none⟩=some (.int .i64 p))) (by kernel_rfl) (two L1.out.2.1).1 (fun hH=>?_);generalize (World.drew _)=u0 at *;simp only[sA9,lB,lC,Nat.reduceAdd,Array.replicate,List.replicate];have b1:=SCd.put L1.out.2.1 (-1);have ks:=gsc u0 q 1 (.int .i64 (-1));have e2:(u0.setCell ⟨q,1,none⟩ (.int .i64 (-1))).heap[q2]? = _:=(ks.block _ (lbk L1.out.2.2.1) (by have:=PE.out;have:=L1.out.2.2.2;simp;omega)).trans L1.out.2.2.1;obtain ⟨d2,k2⟩:=fillIns (.int .i64 0) (.int .i64 0) (.int .i64 0) (.slice none 0 0) (.slice none 0 0) e2;have FQ:Hid (_∧w.grownBy _ (some q)∧SCd _ q g N (-1)):=⟨d2,grown_intoR (gtr (wide_none L1.out.1 _) ks) k2 (by have:=PE.out;omega),(k2.block _ (lbk b1) (by have:=PE.out;have:=L1.out.2.2.2;simp;omega)).trans b1⟩
 obtain ⟨⟨y0,y1,y2,y3,y4⟩,hfy⟩:=blkIns e2;have f0:=hfy 0;have f1:=hfy 1;have f2:=hfy 2;have f3:=hfy 3;have f4:=hfy 4;have cq:=two L1.out.2.1;clear b1 ks e2 d2 k2 hfy;have QT:Hid _:=cq;clear cq;by_cases hneg:p < 0
 ·
  have hd:decide (p < 0)=true:=by simpa using hneg
  refine tk 0 ?_;refine tk 1 ?_;refine tk 2 ?_;refine tk 3 ?_;refine tk 4 ?_;refine tk 5 ?_;refine tks 6 ?_;refine tks 7 ?_;refine tks 8 ?_;refine tks 9 ?_;refine tks 10 ?_;refine tks 11 ?_;refine tks 12 ?_;refine tks 13 ?_;refine tks 14 ?_;refine tks 15 ?_;refine tk 16 ?_;refine wpAnyH_done (by kernel_rfl) ?_ _;obtain ⟨⟨z0,z1⟩,h0,h3⟩:=QT.out;go_wp2
  (try simp only[Exit.inBlock,Exit.then])
  refine bodyPost_ret (results_cell_row (P:=Tryz.prog) Tryz.results15 _ _ q2 _ _ _ _ rfl FQ.out.1 Tryz.underlying52 rfl (by kernel_rfl)) rfl ?_;rw[HE.out];exact ⟨none,0,none,0,rfl,fun z hz=>by simp at hz,FQ.out.2.1,FQ.out.2.2,[],oneIns _ ⟨0,0,0,[],[]⟩ (SlG.nil _ _ _ _) (SlG.nil _ _ _ _),List.nodup_nil,fun y hy=>by simp at hy⟩
 ·
  obtain ⟨pn,rfl⟩:∃ pn:Nat,p=(pn:Int):=⟨p.toNat,by omega⟩
  have hd:decide ((pn:Int) < 0)=false:=by simp
  have hd2:decide ((N:Int)≤pn)=true:=by simp;omega
  have hd3:(N:Int)≤pn:=by omega
  clear hout;refine tk 0 ?_;refine tk 1 ?_;refine tk 2 ?_;refine tk 3 ?_;refine tk 4 ?_;refine tk 5 ?_;refine tk 6 ?_;refine tk 7 ?_;refine tk 8 ?_;refine tk 9 ?_;refine tk 10 ?_;refine tk 11 ?_;refine tk 12 ?_;refine tk 13 ?_;refine tk 14 ?_;refine tk 15 ?_;refine tk 16 ?_;refine wpAnyH_done (by kernel_rfl) ?_ _;obtain ⟨⟨z0,z1⟩,h0,h3⟩:=QT.out;go_wp2
  (try simp only[Exit.inBlock,Exit.then])
  refine bodyPost_ret (results_cell_row (P:=Tryz.prog) Tryz.results15 _ _ q2 _ _ _ _ rfl FQ.out.1 Tryz.underlying52 rfl (by kernel_rfl)) rfl ?_;rw[HE.out];exact ⟨none,0,none,0,rfl,fun z hz=>by simp at hz,FQ.out.2.1,FQ.out.2.2,[],oneIns _ ⟨0,0,0,[],[]⟩ (SlG.nil _ _ _ _) (SlG.nil _ _ _ _),List.nodup_nil,fun y hy=>by simp at hy⟩
theorem insOneS (q g N:Nat) (zs:List Int) (pn:Nat) (z:Int) (w:World) (hz:zs[pn]?.getD 0=z) (hc:z=1) (hin:pn < N) (hB:Byq w q g N zs) (b:SCd w q g N pn) :
  Calls Tryz.prog 15 #[.pointer (some ⟨q,0,none⟩)] w fun e u=>InSd w u q g N (insP (parS zs) pn) e:=by
 have ga:=gal w (.cells #[.int .i64 0,.int .i64 0,.int .i64 0,.slice none 0 0,.slice none 0 0] 52) none;have gd:=grown_drew ga;have HB:Hid (Byq w q g N zs):=hB;have hN:N≤30000:=hB.2.2.2.1;have L1:Hid (w.grownBy (w.alloc (.cells #[.int .i64 0,.int .i64 0,.int .i64 0,.slice none 0 0,.slice none 0 0] 52)).drew none∧SCd (w.alloc (.cells #[.int .i64 0,.int .i64 0,.int .i64 0,.slice none 0 0,.slice none 0 0] 52)).drew q g N pn∧(w.alloc (.cells #[.int .i64 0,.int .i64 0,.int .i64 0,.slice none 0 0,.slice none 0 0] 52)).drew.heap[w.heap.size]? = some (.cells #[.int .i64 0,.int .i64 0,.int .i64 0,.slice none 0 0,.slice none 0 0] 52)∧q < w.heap.size):=⟨gd,SCd.old b gd,hnw w _,lbk b⟩;have hzb:=byt_get hB.2.2.1 pn;rw[hz] at hzb
 have HO:Hid ((parS zs).op pn=(z,(pn:Int)+1)):=by
  show _=_
  simp only[parS];rw[if_neg (by have:=hB.2.1;omega),List.getD_eq_getElem?_getD,Int.toNat_natCast,hz]
 have hck:=hB.1.cell pn (by have:=hB.2.1;omega);rw[List.getD_eq_getElem?_getD,hz] at hck
 have CK:Hid (∀ u,w.grownBy u none→u.cell? ⟨g,pn,none⟩=some (.int .u8 z)):=fun u hu=>hu.cell hck (by simp)
 have HC:Hid _:=hc;obtain ⟨⟨z0,z1⟩,h0,h3⟩:=two (SCd.old b ga)
 have hd:decide ((pn:Int) < 0)=false:=by simp
 have hd2:decide ((N:Int)≤pn)=false:=by simp;omega
 have hi1:(0:Int)≤pn:=by omega
 have hi2:(pn:Int) < N:=by omega
 clear hB b ga gd hck hz hc;go_enter Tryz.func15,Tryz.ntmps15;go_wp2_with fail;generalize e2:w.heap.size=q2 at *;have PE0:Hid (w.heap.size=q2):=e2;clear e2;refine wp_region_held_drew (S:=(fun u0=>u0.cell? ⟨q,0,none⟩=some (.slice (some ⟨g,0,none⟩) N N)∧u0.cell? ⟨q,1,none⟩=some (.int .i64 pn))) (by kernel_rfl) (two L1.out.2.1).1 (fun hH=>?_);generalize (World.drew _)=u0 at *;simp only[sA9,lB,lC,Nat.reduceAdd,Array.replicate,List.replicate];refine tk 0 ?_;refine tk 1 ?_;refine tk 2 ?_;refine tk 3 ?_;refine tk 4 ?_;refine tk 5 ?_;refine tk 6 ?_;refine tk 7 ?_;refine tk 8 ?_;refine tk 9 ?_;refine tk 10 ?_;refine tk 11 ?_;refine tk 12 ?_;refine tk 13 ?_;refine tk 14 ?_;refine tk 15 ?_;refine tk 16 ?_;refine wpAnyH_done (by kernel_rfl) ?_ _;clear hH z0 z1 h0 h3;obtain ⟨⟨z0,z1⟩,h0,h3⟩:=two L1.out.2.1;go_wp2_with fail;clear z0 z1 h0 h3;have gd2:u0.grownBy u0.drew none:=grown_drew (grf _ none);have L2:Hid (w.grownBy u0.drew none∧SCd u0.drew q g N pn∧u0.drew.heap[q2]? = some (.cells #[.int .i64 0,.int .i64 0,.int .i64 0,.slice none 0 0,.slice none 0 0] 52)∧q < q2):=⟨gtr L1.out.1 gd2,SCd.old L1.out.2.1 gd2,(gd2.block _ (lbk L1.out.2.2.1) (by simp)).trans L1.out.2.2.1,L1.out.2.2.2⟩
 have CK2:=CK.out _ L2.out.1;refine wp_region_held_drew (S:=(fun u0=>(u0.cell? ⟨q,0,none⟩=some (.slice (some ⟨g,0,none⟩) N N)∧u0.cell? ⟨q,1,none⟩=some (.int .i64 pn))∧u0.cell? ⟨g,pn,none⟩=some (.int .u8 z))) (by kernel_rfl) ⟨(two L2.out.2.1).1,CK2⟩ (fun hH=>?_);clear CK2 gd2 L1;generalize (World.drew _)=u1 at *;simp only[sA9,lB,lC,Nat.reduceAdd,Array.replicate,List.replicate];refine tk 0 ?_;refine tk 1 ?_;refine tk 2 ?_;refine tk 3 ?_;refine tk 4 ?_;refine tk 5 ?_;refine tk 6 ?_;refine tk 7 ?_;refine tk 8 ?_;refine tk 9 ?_;refine tk 10 ?_;refine tk 11 ?_;have ga:=gal u1 (.cells #[.int .i64 0,.int .i64 0,.int .i64 0,.slice none 0 0,.slice none 0 0] 52) none;have L3:Hid (w.grownBy (u1.alloc (.cells #[.int .i64 0,.int .i64 0,.int .i64 0,.slice none 0 0,.slice none 0 0] 52)) none∧SCd (u1.alloc (.cells #[.int .i64 0,.int .i64 0,.int .i64 0,.slice none 0 0,.slice none 0 0] 52)) q g N pn∧(u1.alloc (.cells #[.int .i64 0,.int .i64 0,.int .i64 0,.slice none 0 0,.slice none 0 0] 52)).heap[q2]? = some (.cells #[.int .i64 0,.int .i64 0,.int .i64 0,.slice none 0 0,.slice none 0 0] 52)∧(u1.alloc (.cells #[.int .i64 0,.int .i64 0,.int .i64 0,.slice none 0 0,.slice none 0 0] 52)).heap[u1.heap.size]? = some (.cells #[.int .i64 0,.int .i64 0,.int .i64 0,.slice none 0 0,.slice none 0 0] 52)∧q < q2∧q2 < u1.heap.size):=⟨gtr L2.out.1 ga,SCd.old L2.out.2.1 ga,(ga.block _ (lbk L2.out.2.2.1) (by simp)).trans L2.out.2.2.1,hnw u1 _,L2.out.2.2.2,lbk L2.out.2.2.1⟩
 refine rd 12 rfl (fun K hK=>?_);go_simp;refine hK.out _ _ ⟨(two L3.out.2.1).1,CK.out _ L3.out.1⟩ (fun hH2=>?_);clear hK K hH;have hH:=hH2;clear hH2 ga L2;simp only[Act.put,nA,nB,nC,nD,nE,nF];generalize u1.alloc (.cells #[.int .i64 0,.int .i64 0,.int .i64 0,.slice none 0 0,.slice none 0 0] 52)=v at *;generalize u1.heap.size=q3 at *;have hwk:IntKind.i64.wrap z=z:=IntWalk.i64_in _ (by omega)
 try rw[hwk]
 obtain ⟨dz,kz⟩:=fillIns (.int .i64 z) (.int .i64 0) (.int .i64 0) (.slice none 0 0) (.slice none 0 0) L3.out.2.2.2.1;obtain ⟨⟨y0,y1,y2,y3,y4⟩,hfy⟩:=blkIns L3.out.2.2.2.1;have f0:=hfy 0;have f1:=hfy 1;have f2:=hfy 2;have f3:=hfy 3;have f4:=hfy 4;have PE:Hid (w.heap.size=q2∧q < q2∧q2 < q3):=⟨PE0.out,L3.out.2.2.2.2.1,L3.out.2.2.2.2.2⟩;have L4:Hid (w.grownBy _ none∧SCd _ q g N pn∧_∧_):=⟨grown_into L3.out.1 kz (by have:=PE.out;omega),(kz.block _ (lbk L3.out.2.1) (by have:=PE.out;simp;omega)).trans L3.out.2.1,(kz.block _ (lbk L3.out.2.2.1) (by have:=PE.out;simp;omega)).trans L3.out.2.2.1,dz⟩;clear hfy dz kz L3 PE0;refine rd 13 rfl (fun K hK=>?_);go_simp;refine hK.out _ _ ⟨(two L4.out.2.1).1,CK.out _ L4.out.1⟩ (fun hH2=>?_);clear hK K hH;have hH:=hH2;clear hH2 y0 y1 y2 y3 y4 f0 f1 f2 f3 f4;simp only[Act.put,nA,nB,nC,nD,nE,nF];refine wpAnyH_done (by kernel_rfl) ?_ _;clear hH CK;generalize (((((v.setCell ⟨q3,0,none⟩ (.int .i64 z)).setCell ⟨q3,1,none⟩ (.int .i64 0)).setCell ⟨q3,2,none⟩ (.int .i64 0)).setCell ⟨q3,3,none⟩ (.slice none 0 0)).setCell ⟨q3,4,none⟩ (.slice none 0 0))=v2 at *
 have ks:=gsc v2 q 1 (.int .i64 ((pn:Int)+1));have b1:=SCd.put L4.out.2.1 ((pn:Int)+1);have L:Hid (w.grownBy (v2.setCell ⟨q,1,none⟩ (.int .i64 ((pn:Int)+1))) (some q)∧SCd (v2.setCell ⟨q,1,none⟩ (.int .i64 ((pn:Int)+1))) q g N ((pn:Int)+1)∧(v2.setCell ⟨q,1,none⟩ (.int .i64 ((pn:Int)+1))).heap[q2]? = some (.cells #[.int .i64 0,.int .i64 0,.int .i64 0,.slice none 0 0,.slice none 0 0] 52)∧(v2.setCell ⟨q,1,none⟩ (.int .i64 ((pn:Int)+1))).heap[q3]? = some (.cells #[.int .i64 z,.int .i64 0,.int .i64 0,.slice none 0 0,.slice none 0 0] 52)):=⟨gtr (wide_none L4.out.1 _) ks,b1,(ks.block _ (lbk L4.out.2.2.1) (by have:=PE.out;simp;omega)).trans L4.out.2.2.1,(ks.block _ (lbk L4.out.2.2.2) (by have:=PE.out;simp;omega)).trans L4.out.2.2.2⟩;obtain ⟨⟨z0,z1⟩,h0,h3⟩:=two L4.out.2.1;clear ks b1 L4;go_upto_region 6 with fail;clear z0 z1 h0 h3;generalize (v2.setCell ⟨q,1,none⟩ (.int .i64 ((pn:Int)+1)))=w0 at *
 obtain ⟨p1,hp1⟩:∃ p1,(pn:Int)+1=p1:=⟨_,rfl⟩;have HP1:Hid ((pn:Int)+1=p1):=hp1
 have hq1:p1≤N:=by omega
 rw[hp1] at L HO;clear hp1;obtain ⟨⟨x0,x1,x2,x3,x4⟩,-⟩:=blkIns L.out.2.2.2;have CP:Hid _:=l8partsT z w0
 have HPV:Hid (partV z=1):=by
  show _=_
  have hc:=HC.out;rw[hc];rfl
 go_wp2_with fail;refine Calls.mono CP.out ?_;rintro e vv ⟨rfl,hvv⟩;obtain rfl:w0=vv:=hvv.symm;rw[HPV.out];clear CP;simp only[];have CC:Hid _:=l8numT q g N zs 2147483647 p1 w0 (HB.out.to L.out.1) L.out.2.1 (by omega);go_wp2_with fail;refine Calls.mono CC.out ?_;rintro e v1 ⟨rfl,hg,hcd⟩;obtain ⟨n1,r1,hn⟩:∃ n r,(parS zs).nm 2147483647 p1=(n,r):=⟨_,_,rfl⟩;have HN1:Hid ((parS zs).nm 2147483647 p1=(n1,r1)):=hn;have hq2:=nmS_le HB.out.2.2.1 HB.out.2.1 2147483647 hq1;have hnn1:=nmS_nn HB.out.2.2.1 HB.out.2.1 2147483647 (by omega) p1;rw[hn] at hcd hq2 hnn1;rw[hn];clear hn;simp only[] at hcd hq2 hnn1 ⊢;have L2:Hid (w.grownBy v1 (some q)∧SCd v1 q g N r1∧v1.heap[q2]? = some (.cells #[.int .i64 0,.int .i64 0,.int .i64 0,.slice none 0 0,.slice none 0 0] 52)∧v1.heap[q3]? = some (.cells #[.int .i64 z,.int .i64 0,.int .i64 0,.slice none 0 0,.slice none 0 0] 52)):=⟨gtr L.out.1 hg,hcd,(hg.block _ (lbk L.out.2.2.1) (by have:=PE.out;simp;omega)).trans L.out.2.2.1,(hg.block _ (lbk L.out.2.2.2) (by have:=PE.out;simp;omega)).trans L.out.2.2.2⟩
 clear L CC hg hcd;have L:Hid _:=L2.out;clear L2;obtain ⟨⟨x0,x1,x2,x3,x4⟩,hfy⟩:=blkIns L.out.2.2.2;have f0:=hfy 0;have f1:=hfy 1;have f2:=hfy 2;have f3:=hfy 3;have f4:=hfy 4;clear hfy;have ks:=gsc v1 q3 1 (.int .i64 n1);have L2:Hid (w.grownBy (v1.setCell ⟨q3,1,none⟩ (.int .i64 n1)) (some q)∧SCd (v1.setCell ⟨q3,1,none⟩ (.int .i64 n1)) q g N r1∧(v1.setCell ⟨q3,1,none⟩ (.int .i64 n1)).heap[q2]? = some (.cells #[.int .i64 0,.int .i64 0,.int .i64 0,.slice none 0 0,.slice none 0 0] 52)∧(v1.setCell ⟨q3,1,none⟩ (.int .i64 n1)).heap[q3]? = some (.cells #[.int .i64 z,.int .i64 n1,.int .i64 0,.slice none 0 0,.slice none 0 0] 52)):=⟨grown_intoR L.out.1 ks (by have:=PE.out;omega),(ks.block _ (lbk L.out.2.1) (by have:=PE.out;simp;omega)).trans L.out.2.1,(ks.block _ (lbk L.out.2.2.1) (by have:=PE.out;simp;omega)).trans L.out.2.2.1,hsm v1 q3 1 _ _ (.int .i64 n1) L.out.2.2.2⟩;clear ks L;have L:Hid _:=L2.out
 clear L2;go_upto_region 9 with fail;generalize (v1.setCell ⟨q3,1,none⟩ (.int .i64 n1))=w1 at *;clear x0 x1 x2 x3 x4 f0 f1 f2 f3 f4;obtain ⟨⟨x0,x1,x2,x3,x4⟩,-⟩:=blkIns L.out.2.2.2
 have hz1:(z == 1)=true:=by rw[HC.out];rfl
 have CU:Hid _:=specUnfT n1 w1 hnn1.1 hnn1.2;go_wp2_with fail;refine Calls.mono CU.out ?_;rintro e vv ⟨rfl,hvv⟩;obtain rfl:w1=vv:=hvv.symm;clear CU hz1 x0 x1 x2 x3 x4;simp only[];obtain ⟨⟨x0,x1,x2,x3,x4⟩,hfy⟩:=blkIns L.out.2.2.2;have f1:=hfy 1;clear hfy;have ks:=gsc w1 q3 1 (.int .i64 (unfV n1));have L2:Hid (w.grownBy (w1.setCell ⟨q3,1,none⟩ (.int .i64 (unfV n1))) (some q)∧SCd (w1.setCell ⟨q3,1,none⟩ (.int .i64 (unfV n1))) q g N r1∧(w1.setCell ⟨q3,1,none⟩ (.int .i64 (unfV n1))).heap[q2]? = some (.cells #[.int .i64 0,.int .i64 0,.int .i64 0,.slice none 0 0,.slice none 0 0] 52)∧(w1.setCell ⟨q3,1,none⟩ (.int .i64 (unfV n1))).heap[q3]? = some (.cells #[.int .i64 z,.int .i64 (unfV n1),.int .i64 0,.slice none 0 0,.slice none 0 0] 52)):=⟨grown_intoR L.out.1 ks (by have:=PE.out;omega),(ks.block _ (lbk L.out.2.1) (by have:=PE.out;simp;omega)).trans L.out.2.1,(ks.block _ (lbk L.out.2.2.1) (by have:=PE.out;simp;omega)).trans L.out.2.2.1,hsm w1 q3 1 _ _ (.int .i64 (unfV n1)) L.out.2.2.2⟩
 clear ks L;have L:Hid _:=L2.out;clear L2;go_upto_region 25 with fail;generalize (w1.setCell ⟨q3,1,none⟩ (.int .i64 (unfV n1)))=wf at *;clear f1;clear x0 x1 x2 x3 x4;obtain ⟨⟨x0,x1,x2,x3,x4⟩,-⟩:=blkIns L.out.2.2.2;obtain ⟨⟨y0,y1,y2,y3,y4⟩,hfy⟩:=blkIns L.out.2.2.1;have f0:=hfy 0;have f1:=hfy 1;have f2:=hfy 2;have f3:=hfy 3;have f4:=hfy 4;clear hfy;obtain ⟨dz,kz⟩:=fillIns (.int .i64 z) (.int .i64 (unfV n1)) (.int .i64 0) (.slice none 0 0) (.slice none 0 0) L.out.2.2.1;have FQ:Hid (_∧w.grownBy _ (some q)∧SCd _ q g N r1):=⟨dz,grown_intoR L.out.1 kz (by have:=PE.out;omega),(kz.block _ (lbk L.out.2.1) (by have:=PE.out;simp;omega)).trans L.out.2.1⟩;clear dz kz L;go_wp2
 (try simp only[Exit.inBlock,Exit.then])
 refine bodyPost_ret (results_cell_row (P:=Tryz.prog) Tryz.results15 _ _ q2 _ _ _ _ rfl FQ.out.1 Tryz.underlying52 rfl (by kernel_rfl)) rfl ?_;have hc:=HC.out
 have hR:insP (parS zs) pn=(⟨z,unfV n1,0,[],[]⟩,r1):=by
  unfold insP;rw[HO.out];subst hc;simp only[aP,bP,toP,litP];simp [HN1.out]
 rw[hR];exact ⟨none,0,none,0,rfl,fun z hz=>by simp at hz,FQ.out.2.1,FQ.out.2.2,[],oneIns _ ⟨z,unfV n1,0,[],[]⟩ (SlG.nil _ _ _ _) (SlG.nil _ _ _ _),List.nodup_nil,fun y hy=>by simp at hy⟩
end Go.Proofs.YtnmlbeefjjohfaaGreatDoor.By
