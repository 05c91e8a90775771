/-
  No statement is proved here.
-/
import Derived.Test.YtnmlbeefjjohfaaGreatDoorSRbAlsoSh
namespace Go.Proofs.YtnmlbeefjjohfaaGreatDoor.By
set_option maxRecDepth 100000
set_option maxHeartbeats 16000000
open Go.RowKit
set_option linter.unusedVariables false
set_option linter.unusedSimpArgs false
theorem results_tcell {P:Program} {fn:Func} {p u:Tmp} {ty:TypeId} (h:fn.results=#[.tmp u,.cell p ty]) (tmps:Array Value) (w:World) (g:Nat) (t:TypeId) (cs:Array Value) (fr:Nat × Nat) (d:TypeDesc)
  (hp:tmps.getD p undef = .pointer (some ⟨g,0,none⟩)) (hg:w.heap[g]? = some (.cells cs t fr))
  (hu:P.underlying ty=some d) (hd:(match d with | .struct _ | .array _ _=>true|_=>false)=true) (hi:(P.info? ty).map (·.size)=some cs.size) :
  (results fn tmps).run P w = .ok (.tuple #[tmps.getD u undef,.agg cs]) w:=by
 have hp':tmps[p]?.getD undef = .pointer (some ⟨g,0,none⟩):=by simpa using hp
 simp [results,h,hp',asAddr,run_loadVar_row w g t ty cs fr d hg hu hd hi]
def opF (op:Int):Array Value:=#[.bool (opOk op && hasA op),.bool (opOk op && decide (op=1)),.bool (opOk op && decide (op=21)),.bool (opOk op && decide (op=2)),.bool (opOk op && decide (op=22))]
def OpA (w u:World) (q g N:Nat) (R:Int × Int) (e:Ending):Prop:=e = .returned (.tuple #[.int .i64 R.1,.agg (opF R.1)])∧w.grownBy u (some q)∧CRd u q g N R.2
theorem OpsIn.keep {w u:World} {q g N:Nat} {p:Int} (h:OpsIn w) (b:CRd w q g N p) (k:w.grownBy u (some q)):OpsIn u:=by
 obtain ⟨t,fr,h⟩:=h;refine ⟨t,fr,(k.block _ (lbk h) (fun e=>?_)).trans h⟩;injection e with e;subst e;rw[show w.heap[0]? = _ from b] at h;injection h with h;injection h with h1 h2;have:=congrArg Array.size h1;rw[opsA_size] at this;simp at this
theorem opC (q g N:Nat) (zs:List Int) (p:Int) (w:World) (hB:Byq w q g N zs) (b:CRd w q g N p) (hF:OpsIn w) (hp:p≤9223372036854775807) :
  Calls Tryz.prog 83 #[.pointer (some ⟨q,0,none⟩)] w fun e u=>OpA w u q g N ((parI zs).op p) e:=by
 have g0:=gal w (.cells #[.bool false,.bool false,.bool false,.bool false,.bool false] 114) none;have PQ:Hid (q < w.heap.size):=lbk b;have NB:Hid (N≤30000∧zs.length=N):=⟨hB.2.2.2.1,hB.2.1⟩;have gd:=grown_drew g0;have L1:Hid (w.grownBy (w.alloc (.cells #[.bool false,.bool false,.bool false,.bool false,.bool false] 114)).drew none∧CRd (w.alloc (.cells #[.bool false,.bool false,.bool false,.bool false,.bool false] 114)).drew q g N p∧(w.alloc (.cells #[.bool false,.bool false,.bool false,.bool false,.bool false] 114)).drew.heap[w.heap.size]? = some (.cells #[.bool false,.bool false,.bool false,.bool false,.bool false] 114)):=⟨gd,CRd.old b gd,hnw w _⟩;obtain ⟨⟨z0,z1⟩,h0,h3⟩:=two (CRd.old b g0);have HB:Hid _:=hB
 have HF:Hid (∀ u,w.grownBy u (some q)→OpsIn u):=fun u hu=>hF.keep b hu
 clear hB b g0 gd hF;by_cases hneg:p < 0
 ·
  have HE:Hid ((parI zs).op p=(0,-1)):=by show _=_;simp only[parI];rw[if_pos (.inl hneg)]
  go_enter Tryz.func83,Tryz.ntmps83;go_wp2_with fail;generalize e2:w.heap.size=q2 at *;have PE:Hid (w.heap.size=q2):=e2;clear e2;refine wp_region_held_drew (S:=(fun u0=>u0.cell? ⟨q,0,none⟩=some (.slice (some ⟨g,0,none⟩) N N)∧u0.cell? ⟨q,1,none⟩=some (.int .i64 p))) (by kernel_rfl) (two L1.out.2.1).1 (fun hH=>?_);generalize (World.drew _)=u0 at *;simp only[sA9,lB,lC,Nat.reduceAdd,Array.replicate,List.replicate]
  have hd:decide (p < 0)=true:=by simpa using hneg
  refine tk 0 ?_;refine tk 1 ?_;refine tk 2 ?_;refine tk 3 ?_;refine tk 4 ?_;refine tk 5 ?_;refine tks 6 ?_;refine tks 7 ?_;refine tks 8 ?_;refine tks 9 ?_;refine tks 10 ?_;refine tks 11 ?_;refine tks 12 ?_;refine tks 13 ?_;refine tks 14 ?_;refine tks 15 ?_;refine tk 16 ?_;refine wpAnyH_done (by kernel_rfl) ?_ _;have b1:=CRd.put L1.out.2.1 (-1);have ks:=gsc u0 q 1 (.int .i64 (-1));have e2:(u0.setCell ⟨q,1,none⟩ (.int .i64 (-1))).heap[q2]? = _:=(ks.block _ (lbk L1.out.2.2) (by have:=PE.out;have:=PQ.out;simp;omega)).trans L1.out.2.2;obtain ⟨d2,k2⟩:=fill5 (.bool false) (.bool false) (.bool false) (.bool false) (.bool false) e2;have FQ:Hid (_∧w.grownBy _ (some q)∧CRd _ q g N (-1)):=⟨d2,grown_intoR (gtr (wide_none L1.out.1 _) ks) k2 (by have:=PE.out;omega),(k2.block _ (lbk b1) (by have:=PE.out;have:=PQ.out;simp;omega)).trans b1⟩;obtain ⟨⟨z0,z1⟩,h0,h3⟩:=two L1.out.2.1;obtain ⟨⟨y0,y1,y2,y3,y4⟩,hfy⟩:=blk5 e2
  have f0:=hfy 0;have f1:=hfy 1;have f2:=hfy 2;have f3:=hfy 3;have f4:=hfy 4;clear b1 ks e2 d2 k2 hfy L1;go_wp2
  (try simp only[Exit.inBlock,Exit.then])
  refine bodyPost_ret (results_tcell (P:=Tryz.prog) Tryz.results83 _ _ q2 _ _ _ _ rfl FQ.out.1 Tryz.underlying114 rfl (by kernel_rfl)) rfl ?_;rw[HE.out];exact ⟨rfl,FQ.out.2⟩
 obtain ⟨pn,rfl⟩:∃ pn:Nat,p=(pn:Int):=⟨p.toNat,by omega⟩
 have hd:decide ((pn:Int) < 0)=false:=by simp
 by_cases hout:(N:Int)≤pn
 ·
  have HE:Hid ((parI zs).op pn=(0,-1)):=by show _=_;simp only[parI];rw[if_pos (.inr (by have:=NB.out.2;omega))]
  go_enter Tryz.func83,Tryz.ntmps83;go_wp2_with fail;generalize e2:w.heap.size=q2 at *;have PE:Hid (w.heap.size=q2):=e2;clear e2;refine wp_region_held_drew (S:=(fun u0=>u0.cell? ⟨q,0,none⟩=some (.slice (some ⟨g,0,none⟩) N N)∧u0.cell? ⟨q,1,none⟩=some (.int .i64 pn))) (by kernel_rfl) (two L1.out.2.1).1 (fun hH=>?_);generalize (World.drew _)=u0 at *;simp only[sA9,lB,lC,Nat.reduceAdd,Array.replicate,List.replicate]
  have hd2:decide ((N:Int)≤pn)=true:=by simpa using hout
  refine tk 0 ?_;refine tk 1 ?_;refine tk 2 ?_;refine tk 3 ?_;refine tk 4 ?_;refine tk 5 ?_;refine tk 6 ?_;refine tk 7 ?_;refine tk 8 ?_;refine tk 9 ?_;refine tk 10 ?_;refine tk 11 ?_;refine tk 12 ?_;refine tk 13 ?_;refine tk 14 ?_;refine tk 15 ?_;refine tk 16 ?_;refine wpAnyH_done (by kernel_rfl) ?_ _;have b1:=CRd.put L1.out.2.1 (-1);have ks:=gsc u0 q 1 (.int .i64 (-1));have e2:(u0.setCell ⟨q,1,none⟩ (.int .i64 (-1))).heap[q2]? = _:=(ks.block _ (lbk L1.out.2.2) (by have:=PE.out;have:=PQ.out;simp;omega)).trans L1.out.2.2;obtain ⟨d2,k2⟩:=fill5 (.bool false) (.bool false) (.bool false) (.bool false) (.bool false) e2;have FQ:Hid (_∧w.grownBy _ (some q)∧CRd _ q g N (-1)):=⟨d2,grown_intoR (gtr (wide_none L1.out.1 _) ks) k2 (by have:=PE.out;omega),(k2.block _ (lbk b1) (by have:=PE.out;have:=PQ.out;simp;omega)).trans b1⟩;obtain ⟨⟨z0,z1⟩,h0,h3⟩:=two L1.out.2.1;obtain ⟨⟨y0,y1,y2,y3,y4⟩,hfy⟩:=blk5 e2
  have f0:=hfy 0;have f1:=hfy 1;have f2:=hfy 2;have f3:=hfy 3;have f4:=hfy 4;clear b1 ks e2 d2 k2 hfy L1;go_wp2
  (try simp only[Exit.inBlock,Exit.then])
  refine bodyPost_ret (results_tcell (P:=Tryz.prog) Tryz.results83 _ _ q2 _ _ _ _ rfl FQ.out.1 Tryz.underlying114 rfl (by kernel_rfl)) rfl ?_;rw[HE.out];exact ⟨rfl,FQ.out.2⟩
 have hin:pn < N:=by omega
 have hN:N≤30000:=NB.out.1;have hz:=byt_get HB.out.2.2.1 pn;have hck:=HB.out.1.cell pn (by have:=NB.out.2;omega);rw[List.getD_eq_getElem?_getD] at hck;obtain ⟨z,hzz⟩:∃ z,zs[pn]?.getD 0=z:=⟨_,rfl⟩;rw[hzz] at hck hz
 have HE:Hid ((parI zs).op pn=(z,if z≤31 then (pn:Int)+1 else -1)):=by
  show _=_
  simp only[parI];rw[if_neg (by have:=NB.out.2;omega),List.getD_eq_getElem?_getD,Int.toNat_natCast,hzz]
 have CK:Hid (∀ u,w.grownBy u none→u.cell? ⟨g,pn,none⟩=some (.int .u8 z)):=fun u hu=>hu.cell hck (by simp)
 clear hck hzz;go_enter Tryz.func83,Tryz.ntmps83;go_wp2_with fail;generalize e2:w.heap.size=q2 at *;have PE:Hid (w.heap.size=q2):=e2;clear e2;refine wp_region_held_drew (S:=(fun u0=>u0.cell? ⟨q,0,none⟩=some (.slice (some ⟨g,0,none⟩) N N)∧u0.cell? ⟨q,1,none⟩=some (.int .i64 pn))) (by kernel_rfl) (two L1.out.2.1).1 (fun hH=>?_);generalize (World.drew _)=u0 at *;simp only[sA9,lB,lC,Nat.reduceAdd,Array.replicate,List.replicate]
 have hd2:decide ((N:Int)≤pn)=false:=by simpa using hout
 refine tk 0 ?_;refine tk 1 ?_;refine tk 2 ?_;refine tk 3 ?_;refine tk 4 ?_;refine tk 5 ?_;refine tk 6 ?_;refine tk 7 ?_;refine tk 8 ?_;refine tk 9 ?_;refine tk 10 ?_;refine tk 11 ?_;refine tk 12 ?_;refine tk 13 ?_;refine tk 14 ?_;refine tk 15 ?_;refine tk 16 ?_;refine wpAnyH_done (by kernel_rfl) ?_ _;clear hH z0 z1 h0 h3;obtain ⟨⟨z0,z1⟩,h0,h3⟩:=two L1.out.2.1;go_wp2_with fail;clear z0 z1 h0 h3;have gd2:u0.grownBy u0.drew none:=grown_drew (grf _ none);have L2:Hid (w.grownBy u0.drew none∧CRd u0.drew q g N pn∧u0.drew.heap[q2]? = some (.cells #[.bool false,.bool false,.bool false,.bool false,.bool false] 114)):=⟨gtr L1.out.1 gd2,CRd.old L1.out.2.1 gd2,(gd2.block _ (lbk L1.out.2.2) (by simp)).trans L1.out.2.2⟩;have CK2:=CK.out _ L2.out.1
 have hi1:(0:Int)≤pn:=by omega
 have hi2:(pn:Int) < N:=by omega
 refine wp_region_held_drew (S:=(fun u0=>(u0.cell? ⟨q,0,none⟩=some (.slice (some ⟨g,0,none⟩) N N)∧u0.cell? ⟨q,1,none⟩=some (.int .i64 pn))∧u0.cell? ⟨g,pn,none⟩=some (.int .u8 z))) (by kernel_rfl) ⟨(two L2.out.2.1).1,CK2⟩ (fun hH=>?_);clear CK2 gd2 L1;generalize (World.drew _)=u1 at *;simp only[sA9,lB,lC,Nat.reduceAdd,Array.replicate,List.replicate];refine tk 0 ?_;refine tk 1 ?_;refine tk 2 ?_;refine tk 3 ?_;refine tk 4 ?_;refine tk 5 ?_;refine tk 6 ?_;refine tk 7 ?_;refine tk 8 ?_;refine tk 9 ?_;refine tk 10 ?_;refine tk 11 ?_;refine wpAnyH_done (by kernel_rfl) ?_ _;have hwk:IntKind.i64.wrap z=z:=IntWalk.i64_in _ (by omega);rw[hwk];clear hH hwk;have b1:=CRd.put L2.out.2.1 ((pn:Int)+1);have ks:=gsc u1 q 1 (.int .i64 ((pn:Int)+1));have L3:Hid (w.grownBy (u1.setCell ⟨q,1,none⟩ (.int .i64 ((pn:Int)+1))) (some q)∧CRd (u1.setCell ⟨q,1,none⟩ (.int .i64 ((pn:Int)+1))) q g N ((pn:Int)+1)∧(u1.setCell ⟨q,1,none⟩ (.int .i64 ((pn:Int)+1))).heap[q2]? = some (.cells #[.bool false,.bool false,.bool false,.bool false,.bool false] 114)):=⟨gtr (wide_none L2.out.1 _) ks,b1,(ks.block _ (lbk L2.out.2.2) (by have:=PE.out;have:=PQ.out;simp;omega)).trans L2.out.2.2⟩
 have CF:Hid _:=formOfOpT z _ (HF.out _ L3.out.1);obtain ⟨⟨z0,z1⟩,h0,h3⟩:=two L2.out.2.1;clear b1 ks;go_wp2_with fail;refine Calls.mono CF.out ?_;rintro e u2 ⟨he,hg⟩;obtain ⟨x0,hx0⟩:∃ x,(opOk z && hasA z)=x:=⟨_,rfl⟩;obtain ⟨x1,hx1⟩:∃ x,(opOk z && decide (z=1))=x:=⟨_,rfl⟩;obtain ⟨x2,hx2⟩:∃ x,(opOk z && decide (z=21))=x:=⟨_,rfl⟩;obtain ⟨x3,hx3⟩:∃ x,(opOk z && decide (z=2))=x:=⟨_,rfl⟩;obtain ⟨x4,hx4⟩:∃ x,(opOk z && decide (z=22))=x:=⟨_,rfl⟩;obtain ⟨ok,hok⟩:∃ x,opOk z=x:=⟨_,rfl⟩
 have OX:Hid (opF z=#[.bool x0,.bool x1,.bool x2,.bool x3,.bool x4]):=by show _=_;unfold opF;rw[hx0,hx1,hx2,hx3,hx4]
 have OK:Hid (ok=true ↔ z≤31):=by show _ ↔ _;rw[← hok];simp [opOk];omega
 unfold FoO at he;rw[hx0,hx1,hx2,hx3,hx4,hok] at he;subst he;clear hx0 hx1 hx2 hx3 hx4 hok;have L4:Hid (w.grownBy u2 (some q)∧CRd u2 q g N ((pn:Int)+1)∧u2.heap[q2]? = some (.cells #[.bool false,.bool false,.bool false,.bool false,.bool false] 114)):=⟨gtr L3.out.1 (wide_none hg _),CRd.old L3.out.2.1 hg,(hg.block _ (lbk L3.out.2.2) (by simp)).trans L3.out.2.2⟩;clear CF hg L3 L2 z0 z1 h0 h3 CK HB HF;simp only[];have ga:=gal u2 (.cells #[.bool x0,.bool x1,.bool x2,.bool x3,.bool x4] 114) none;have ba:=hnw u2 (.cells #[.bool x0,.bool x1,.bool x2,.bool x3,.bool x4] 114);have L5:Hid (w.grownBy (u2.alloc (.cells #[.bool x0,.bool x1,.bool x2,.bool x3,.bool x4] 114)) (some q)∧CRd (u2.alloc (.cells #[.bool x0,.bool x1,.bool x2,.bool x3,.bool x4] 114)) q g N ((pn:Int)+1)∧(u2.alloc (.cells #[.bool x0,.bool x1,.bool x2,.bool x3,.bool x4] 114)).heap[q2]? = some (.cells #[.bool false,.bool false,.bool false,.bool false,.bool false] 114)∧(u2.alloc (.cells #[.bool x0,.bool x1,.bool x2,.bool x3,.bool x4] 114)).heap[u2.heap.size]? = some (.cells #[.bool x0,.bool x1,.bool x2,.bool x3,.bool x4] 114)∧q2 < u2.heap.size):=⟨gtr L4.out.1 (wide_none ga _),CRd.old L4.out.2.1 ga,(ga.block _ (lbk L4.out.2.2) (by simp)).trans L4.out.2.2,ba,lbk L4.out.2.2⟩
 clear ga ba L4;go_upto_region 7 with fail;generalize u2.alloc (.cells #[.bool x0,.bool x1,.bool x2,.bool x3,.bool x4] 114)=u3 at *;generalize u2.heap.size=q5 at *
 cases ok with
 | false =>
  have h31:¬ z≤31:=fun h=>by have:=OK.out.2 h;simp at this
  have HR:Hid ((parI zs).op pn=(z,-1)):=by show _=_;rw[HE.out,if_neg h31]
  have b1:=CRd.put L5.out.2.1 (-1);have ks:=gsc u3 q 1 (.int .i64 (-1));have L6:Hid (w.grownBy (u3.setCell ⟨q,1,none⟩ (.int .i64 (-1))) (some q)∧CRd (u3.setCell ⟨q,1,none⟩ (.int .i64 (-1))) q g N (-1)∧(u3.setCell ⟨q,1,none⟩ (.int .i64 (-1))).heap[q2]? = some (.cells #[.bool false,.bool false,.bool false,.bool false,.bool false] 114)∧(u3.setCell ⟨q,1,none⟩ (.int .i64 (-1))).heap[q5]? = some (.cells #[.bool x0,.bool x1,.bool x2,.bool x3,.bool x4] 114)∧q2 < q5):=⟨gtr L5.out.1 ks,b1,(ks.block _ (lbk L5.out.2.2.1) (by have:=PE.out;have:=PQ.out;simp;omega)).trans L5.out.2.2.1,(ks.block _ (lbk L5.out.2.2.2.1) (by have:=PE.out;have:=PQ.out;have:=L5.out.2.2.2.2;simp;omega)).trans L5.out.2.2.2.1,L5.out.2.2.2.2⟩;obtain ⟨⟨z0,z1⟩,h0,h3⟩:=two L5.out.2.1;clear b1 ks L5 HE h31 OK;go_wp2_with fail;generalize u3.setCell ⟨q,1,none⟩ (.int .i64 (-1))=u4 at *;clear z0 z1 h0 h3;have gd:=grown_drew (grf u4 none)
  have L7:Hid (w.grownBy u4.drew (some q)∧CRd u4.drew q g N _∧u4.drew.heap[q2]? = some (.cells #[.bool false,.bool false,.bool false,.bool false,.bool false] 114)∧u4.drew.heap[q5]? = some (.cells #[.bool x0,.bool x1,.bool x2,.bool x3,.bool x4] 114)∧q2 < q5):=⟨gtr L6.out.1 (wide_none gd _),CRd.old L6.out.2.1 gd,L6.out.2.2.1,L6.out.2.2.2.1,L6.out.2.2.2.2⟩;clear gd L6;refine wp_region_held_drew (S:=(fun u0=>u0.cell? ⟨q5,0,none⟩=some (.bool x0)∧u0.cell? ⟨q5,1,none⟩=some (.bool x1)∧u0.cell? ⟨q5,2,none⟩=some (.bool x2)∧u0.cell? ⟨q5,3,none⟩=some (.bool x3)∧u0.cell? ⟨q5,4,none⟩=some (.bool x4))) (by kernel_rfl) (blk5 L7.out.2.2.2.1).1 (fun hH=>?_);generalize (World.drew _)=u5 at *;obtain ⟨⟨y0,y1,y2,y3,y4⟩,hfy⟩:=blk5 L7.out.2.2.1;have f0:=hfy 0;have f1:=hfy 1;have f2:=hfy 2;have f3:=hfy 3;have f4:=hfy 4;obtain ⟨d2,k2⟩:=fill5 (.bool x0) (.bool x1) (.bool x2) (.bool x3) (.bool x4) L7.out.2.2.1;have FQ:Hid (_∧w.grownBy _ (some q)∧CRd _ q g N _∧_):=⟨d2,grown_intoR L7.out.1 k2 (by have:=PE.out;omega),(k2.block _ (lbk L7.out.2.1) (by have:=PE.out;have:=PQ.out;simp;omega)).trans L7.out.2.1,(k2.block _ (lbk L7.out.2.2.2.1) (by have:=L7.out.2.2.2.2;simp;omega)).trans L7.out.2.2.2.1⟩
  clear hfy d2 k2 L7;simp only[sA9,lB,lC,Nat.reduceAdd,Array.replicate,List.replicate];refine tk 0 ?_ (hS:=hH);refine tk 1 ?_ (hS:=hH);refine tk 2 ?_ (hS:=hH);refine rd 3 rfl (fun K hK=>?_);go_simp;refine hK.out _ _ (blk5 FQ.out.2.2.2).1 (fun hH2=>?_);clear hK K hH;have hH:=hH2;clear hH2 y0 y1 y2 y3 y4 f0 f1 f2 f3 f4;simp only[Act.put,nA,nB,nC,nD,nE,nF];refine wpAnyH_done (by kernel_rfl) ?_ _;clear hH;go_wp2
  (try simp only[Exit.inBlock,Exit.then])
  refine bodyPost_ret (results_tcell (P:=Tryz.prog) Tryz.results83 _ _ q2 _ _ _ _ rfl FQ.out.1 Tryz.underlying114 rfl (by kernel_rfl)) rfl ?_;rw[HR.out];refine ⟨?_,FQ.out.2.1,FQ.out.2.2.1⟩;rw[OX.out];rfl
 | true =>
  have h31:z≤31:=OK.out.1 rfl
  have HR:Hid ((parI zs).op pn=(z,(pn:Int)+1)):=by show _=_;rw[HE.out,if_pos h31]
  have L6:Hid _:=L5.out;clear L5 HE h31 OK;go_wp2_with fail;generalize u3=u4 at *;have gd:=grown_drew (grf u4 none);have L7:Hid (w.grownBy u4.drew (some q)∧CRd u4.drew q g N _∧u4.drew.heap[q2]? = some (.cells #[.bool false,.bool false,.bool false,.bool false,.bool false] 114)∧u4.drew.heap[q5]? = some (.cells #[.bool x0,.bool x1,.bool x2,.bool x3,.bool x4] 114)∧q2 < q5):=⟨gtr L6.out.1 (wide_none gd _),CRd.old L6.out.2.1 gd,L6.out.2.2.1,L6.out.2.2.2.1,L6.out.2.2.2.2⟩;clear gd L6;refine wp_region_held_drew (S:=(fun u0=>u0.cell? ⟨q5,0,none⟩=some (.bool x0)∧u0.cell? ⟨q5,1,none⟩=some (.bool x1)∧u0.cell? ⟨q5,2,none⟩=some (.bool x2)∧u0.cell? ⟨q5,3,none⟩=some (.bool x3)∧u0.cell? ⟨q5,4,none⟩=some (.bool x4))) (by kernel_rfl) (blk5 L7.out.2.2.2.1).1 (fun hH=>?_);generalize (World.drew _)=u5 at *;obtain ⟨⟨y0,y1,y2,y3,y4⟩,hfy⟩:=blk5 L7.out.2.2.1;have f0:=hfy 0;have f1:=hfy 1;have f2:=hfy 2;have f3:=hfy 3
  have f4:=hfy 4;obtain ⟨d2,k2⟩:=fill5 (.bool x0) (.bool x1) (.bool x2) (.bool x3) (.bool x4) L7.out.2.2.1;have FQ:Hid (_∧w.grownBy _ (some q)∧CRd _ q g N _∧_):=⟨d2,grown_intoR L7.out.1 k2 (by have:=PE.out;omega),(k2.block _ (lbk L7.out.2.1) (by have:=PE.out;have:=PQ.out;simp;omega)).trans L7.out.2.1,(k2.block _ (lbk L7.out.2.2.2.1) (by have:=L7.out.2.2.2.2;simp;omega)).trans L7.out.2.2.2.1⟩;clear hfy d2 k2 L7;simp only[sA9,lB,lC,Nat.reduceAdd,Array.replicate,List.replicate];refine tk 0 ?_ (hS:=hH);refine tk 1 ?_ (hS:=hH);refine tk 2 ?_ (hS:=hH);refine rd 3 rfl (fun K hK=>?_);go_simp;refine hK.out _ _ (blk5 FQ.out.2.2.2).1 (fun hH2=>?_);clear hK K hH;have hH:=hH2;clear hH2 y0 y1 y2 y3 y4 f0 f1 f2 f3 f4;simp only[Act.put,nA,nB,nC,nD,nE,nF];refine wpAnyH_done (by kernel_rfl) ?_ _;clear hH;go_wp2
  (try simp only[Exit.inBlock,Exit.then])
  refine bodyPost_ret (results_tcell (P:=Tryz.prog) Tryz.results83 _ _ q2 _ _ _ _ rfl FQ.out.1 Tryz.underlying114 rfl (by kernel_rfl)) rfl ?_;rw[HR.out];refine ⟨?_,FQ.out.2.1,FQ.out.2.2.1⟩;rw[OX.out];rfl
theorem numC1 (q g N:Nat) (zs:List Int) (p:Int) (w:World) (hB:Byq w q g N zs) (b:CRd w q g N p) (hp:p≤9223372036854775807) :
  Calls Tryz.prog 40 #[.pointer (some ⟨q,0,none⟩)] w fun e u=>e = .returned (.int .i64 ((parI zs).nm 0 p).1)∧Own1 w u q g N ((parI zs).nm 0 p).2 [.int .i64 ((parI zs).nm 0 p).1] (.num .i64 ((parI zs).nm 0 p).1 .nil) :=
 (numC q g N zs p w hB b hp).mono fun e u ⟨h1,h2,h3⟩=>⟨h1,h2,h3,[],⟨rfl,rfl⟩,List.nodup_nil,fun y hy=>by simp at hy⟩
theorem rlIntC (q g N:Nat) (zs:List Int) (p:Int) (w:World) (hB:Byq w q g N zs) (b:CRd w q g N p) (hp:p≤9223372036854775807) :
  Calls Tryz.prog 39 #[.pointer (some ⟨q,0,none⟩),.func (Fn.func 40) #[.pointer (some ⟨q,0,none⟩)] #[]] w fun e u=>RlA w u q g N 1 (encI (listP (parI zs) ((parI zs).nm 0) 0 p).1) (listP (parI zs) ((parI zs).nm 0) 0 p).1.length (listP (parI zs) ((parI zs).nm 0) 0 p).2 e:=by
 have HB:Hid (Byq w q g N zs):=hB;have CN:Hid _:=numC q g N zs p w hB b hp;have PQ:Hid (q < w.heap.size):=lbk b;have NB:Hid (N≤30000∧zs.length=N):=⟨hB.2.2.2.1,hB.2.1⟩;have hbb:=getNum_bounds zs hB.2.2.1 p;rw[hB.2.1] at hbb;have ADV:Hid (Adv N ((parI zs).nm 0)):=nm_adv hB.2.2.1 hB.2.1;clear hB b;obtain ⟨n,p1,hn⟩:∃ n p1,getNum zs p=(n,p1):=⟨_,_,rfl⟩
 have HL:Hid (listP (parI zs) ((parI zs).nm 0) 0 p=listN ((parI zs).nm 0) n.toNat p1):=by show _=_;unfold listP;simp [parI,hn]
 rw[hn] at hbb CN;simp only[] at hbb CN
 have hn0:0≤n:=by
  rcases hbb with h|h
  ·
   injection h with h1 h2;omega
  ·
   exact h.1
 have hp1:p1≤N:=by
  rcases hbb with h|h
  ·
   injection h with h1 h2;omega
  ·
   exact h.2.2
 clear hbb hn;go_enter Tryz.func39,Tryz.ntmps39;go_wp2_with fail;refine Calls.mono CN.out ?_;rintro e u0 ⟨rfl,hg,hc⟩;have L0:Hid (w.grownBy u0 (some q)∧CRd u0 q g N p1):=⟨hg,hc⟩;clear CN hg hc;simp only[];go_wp2
 go_loopw [5] (fun s5 wr=>∃ (j:Nat) (P:List (Int)) (pp:Int) (a:Option Addr) (c:Nat) (bs:List Nat),s5 = .slice a j c∧Hid (w.grownBy wr (some q)∧CRd wr q g N pp∧SlG wr 1 a j c (encI P) bs∧bs.Nodup∧(∀ y ∈ bs,w.heap.size≤y)∧(j=0→c=0∧a=none))∧P.length=j∧(j:Int)≤n∧Hid (listN ((parI zs).nm 0) n.toNat p1=(P++(listN ((parI zs).nm 0) (n.toNat - j) pp).1,(listN ((parI zs).nm 0) (n.toNat - j) pp).2))∧pp≤N∧Hid (pp < 0∨(0≤p1∧p1+j≤pp))) (fun s _=>n.toNat - (match s with | .slice _ l _=>l|_=>0))
 case atStart=>exact ⟨0,[],p1,none,0,[],rfl,⟨L0.out.1,L0.out.2,SlG.nil _ _ _ _,List.nodup_nil,fun y hy=>by simp at hy,fun _=>⟨rfl,rfl⟩⟩,rfl,by simpa using hn0,by show _=_;simp,hp1,by show _∨_;omega⟩
 case round =>
  obtain ⟨j,P,pp,a,c,bs,rfl,HR,hPl,hjn,HE,hpN,HP⟩:=hrel;clear L0;obtain ⟨⟨z0,z1⟩,h0,h3⟩:=two HR.out.2.1
  have hjb:(j:Int)≤2000000000∨2000000000 < (j:Int):=by omega
  by_cases hlt:(j:Int) < n
  ·
   by_cases hpp:0≤pp
   ·
    have hj3:j≤30000:=by have:=HP.out;have:=NB.out.1;omega
    have CO:Hid _:=numC1 q g N zs pp wr (HB.out.to HR.out.1) HR.out.2.1 (by have:=NB.out.1;omega);have HA:Hid _:=ADV.out pp hpp hpN;go_wp2_with fail;refine Calls.mono CO.out ?_;rintro e u ⟨rfl,hg1,hc1,bd,hv,hnd,hlo⟩;have hw0:=HR.out.1.size;have ga:=gal u (.cells #[.int .i64 ((parI zs).nm 0 pp).1] 3) none
    have hbl:∀ y ∈ bs,y < wr.heap.size:=fun y hy=>HR.out.2.2.1.lt y hy
    have OX:Hid (OwnG (u.alloc (.cells #[.int .i64 ((parI zs).nm 0 pp).1] 3)) (.num .i64 ((parI zs).nm 0 pp).1 .nil) u.heap.size 0 bd):=(hv.kept ga (fun _ _=>by simp)).own (cells_new (hnw u _));have AC:Hid (SlG (u.alloc (.cells #[.int .i64 ((parI zs).nm 0 pp).1] 3)) 1 a j c (encI P) bs∧bs.Nodup∧(∀ x ∈ bs,x ∉ bd)∧bd.Nodup∧(j=0→c=0∧a=none)):=⟨(HR.out.2.2.1.kept hg1 (fun y hy=>by have:=HR.out.2.2.2.2.1 y hy;have:=PQ.out;simp;omega)).old ga,HR.out.2.2.2.1,fun x hx hy=>by have:=hbl x hx;have:=hlo x hy;omega,hnd,HR.out.2.2.2.2.2⟩;have FR:Hid (w.grownBy (u.alloc (.cells #[.int .i64 ((parI zs).nm 0 pp).1] 3)) (some q)∧CRd (u.alloc (.cells #[.int .i64 ((parI zs).nm 0 pp).1] 3)) q g N (((parI zs).nm 0) pp).2∧(∀ y ∈ bs,w.heap.size≤y)∧(∀ y ∈ bd,w.heap.size≤y)∧w.heap.size≤(u.alloc (.cells #[.int .i64 ((parI zs).nm 0 pp).1] 3)).heap.size):=⟨gtr HR.out.1 (gtr hg1 (wide_none ga _)),CRd.old hc1 ga,HR.out.2.2.2.2.1,fun y hy=>by have:=hlo y hy;omega,by have:=hg1.size;have:=ga.size;omega⟩
    skip
    clear CO HR hg1 hc1 hv hnd hlo hw0 ga hbl z0 z1 h0 h3;obtain ⟨i0,hi,hz0,hz1,hz2⟩:=info_parts infoInt;go_wp2_with (at_builtin;go_must (refine wpList_pushG rfl (.tmp 20) (.tmp 23) 25 rfl 3 i0 _ Tryz.underlying25 hi hz0 1 hz1 (by rw[hz2];decide) rfl a j c _ bs rfl AC.out.1 AC.out.2.1 AC.out.2.2.2.2 (by omega) u.heap.size 0 rfl _ bd OX.out rfl AC.out.2.2.2.1 AC.out.2.2.1 ?_);intro a3 c3 bs3 u3 h1 h2 h3 h4)
    have hlow:∀ y ∈ bs3,w.heap.size≤y:=fun y hy=>by
     rcases h3 y hy with h|h|h
     ·
      exact FR.out.2.2.1 y h
     ·
      exact FR.out.2.2.2.1 y h
     ·
      have:=FR.out.2.2.2.2;omega
    have gq:=Tn.freshR FR.out.1 h4 FR.out.2.2.1;have hcq:CRd u3 q g N (((parI zs).nm 0) pp).2:=(h4.block _ (lbk FR.out.2.1) (fun hx=>by have:=FR.out.2.2.1 _ hx;have:=PQ.out;omega)).trans FR.out.2.1
    have hEn:(encI P).app (.num .i64 ((parI zs).nm 0 pp).1 .nil)=(encI (P++[(((parI zs).nm 0 pp).1)])):=by rw[encI_app];rfl
    rw[hEn] at h1;have RN:Hid (w.grownBy u3 (some q)∧CRd u3 q g N (((parI zs).nm 0) pp).2∧SlG u3 1 a3 (j+1) c3 (encI (P++[(((parI zs).nm 0 pp).1)])) bs3∧bs3.Nodup∧(∀ y ∈ bs3,w.heap.size≤y)∧(j+1=0→c3=0∧a3=none)):=⟨gq,hcq,h1,h2,hlow,fun h=>by omega⟩;clear AC OX FR h1 h2 h3 h4 hlow gq hcq hEn i0 hi hz0 hz1 hz2
    have HE2:Hid (listN ((parI zs).nm 0) n.toNat p1=((P++[(((parI zs).nm 0 pp).1)])++(listN ((parI zs).nm 0) (n.toNat - (j+1)) (((parI zs).nm 0) pp).2).1,(listN ((parI zs).nm 0) (n.toNat - (j+1)) (((parI zs).nm 0) pp).2).2)):=by
     show _=_
     rw[HE.out,show n.toNat - j=(n.toNat - (j+1))+1 by omega,listN_succ _ _ hpp,lD9];rfl
    have HP2:Hid ((((parI zs).nm 0) pp).2 < 0∨(0≤p1∧p1+(j+1:Nat)≤(((parI zs).nm 0) pp).2)):=by show _∨_;have:=HP.out;have:=HA.out;omega
    have hN2:(((parI zs).nm 0) pp).2≤N:=by have:=HA.out;omega
    go_roundw
    case rel=>exact ⟨j+1,P++[(((parI zs).nm 0 pp).1)],(((parI zs).nm 0) pp).2,a3,c3,bs3,rfl,RN,by simp [hPl],by omega,HE2,hN2,HP2⟩
    case measure=>simp;omega
   ·
    have HF:Hid (listP (parI zs) ((parI zs).nm 0) 0 p=(P,pp)):=by show _=_;rw[HL.out,HE.out,listN_neg _ _ (by omega)];simp
    clear HE HL;go_wp2;go_ret;rw[HF.out];exact ⟨a,c,bs,by rw[hPl];rfl,HR.out.1,HR.out.2.1,by rw[hPl];exact HR.out.2.2.1,HR.out.2.2.2.1,HR.out.2.2.2.2.1⟩
  ·
   have HF:Hid (listP (parI zs) ((parI zs).nm 0) 0 p=(P,pp)):=by show _=_;rw[HL.out,HE.out,show n.toNat - j=0 by omega];simp [listN]
   clear HE HL;go_wp2;go_ret;rw[HF.out];exact ⟨a,c,bs,by rw[hPl];rfl,HR.out.1,HR.out.2.1,by rw[hPl];exact HR.out.2.2.1,HR.out.2.2.2.1,HR.out.2.2.2.2.1⟩
end Go.Proofs.YtnmlbeefjjohfaaGreatDoor.By
