/-
  No statement is proved here.
-/
import Derived.Test.YtnmlbeefjjohfaaGreatDoorTxtAlsoSh
namespace Go.Proofs.YtnmlbeefjjohfaaGreatDoor.By
set_option maxRecDepth 100000
set_option maxHeartbeats 16000000
open Go.RowKit
set_option linter.unusedVariables false
set_option linter.unusedSimpArgs false
theorem textB_len (ts:List Int) (h:ts.length≤20):(textB ts).length≤40:=by
 unfold textB;have:=numB_len (ts.length:Int);rw[if_neg (by omega)];simp only[lA];omega
theorem txt0T (a:Option Addr) (l c:Nat) (ts:List Int) (u:World) (h:RdB u a l ts) (hl:ts.length≤20):Calls Tryz.prog 115 #[.slice none 0 0,.slice a l c] u fun e w'=>∃ g,e = .returned (.slice (some ⟨g,0,none⟩) (textB ts).length (textB ts).length)∧u.grownBy w' none∧Reads w' (some ⟨g,0,none⟩) (textB ts).length (textB ts):=by
 refine (implTxt none a 0 l 0 c [] ts u (reads_nil u) h.1 (by omega) (by have:=h.1.1;omega)).mono ?_;rintro e w' ⟨g,he,hg,_,hr⟩;rw[Nat.zero_add] at he hr;exact ⟨g,he,hg,by simpa using hr.reads' (n:=(textB ts).length) (by simp)⟩
def foldV (n:Int):Int:=if n < -1073741824 then -1 else if 1073741823 < n then -1 else if n < 0 then -2 * n - 1 else 2 * n
theorem implFoldT (n:Int) (w:World):Calls Tryz.prog 114 #[.int .i64 n] w fun e u=>e = .returned (.int .i64 (foldV n))∧w.grownBy u none:=by
 rcases (show n < -1073741824∨(-1073741824≤n∧n < 0)∨(0≤n∧n≤1073741823)∨1073741823 < n by omega) with h|⟨h,h'⟩|⟨h,h'⟩|h
 all_goals
  go_enter Tryz.func114,Tryz.ntmps114;go_wp2;go_ret;refine ⟨?_,grf _ _⟩;unfold foldV
 ·
  rw[if_pos h];rfl
 ·
  rw[if_neg (by omega),if_neg (by omega),if_pos (by omega)];rfl
 ·
  rw[if_neg (by omega),if_neg (by omega),if_neg (by omega)];rfl
 ·
  rw[if_neg (by omega),if_pos h];rfl
theorem specFoldT (n:Int) (w:World):Calls Tryz.prog 79 #[.int .i64 n] w fun e u=>e = .returned (.int .i64 (foldV n))∧w.grownBy u none:=by
 rcases (show n < -1073741824∨(-1073741824≤n∧n < 0)∨(0≤n∧n≤1073741823)∨1073741823 < n by omega) with h|⟨h,h'⟩|⟨h,h'⟩|h
 all_goals
  go_enter Tryz.func79,Tryz.ntmps79;go_wp2;go_ret;refine ⟨?_,grf _ _⟩;unfold foldV
 ·
  rw[if_pos h];rfl
 ·
  rw[if_neg (by omega),if_neg (by omega),if_pos (by omega)];rfl
 ·
  rw[if_neg (by omega),if_neg (by omega),if_neg (by omega)];rfl
 ·
  rw[if_neg (by omega),if_pos h];rfl
theorem num1T (B q:Nat) (v:Value) (zs:List Int) (z:Int) (w:World) (h:WrS B q w v zs) (hb:zs.length+5≤90000000) :
  Calls Tryz.prog 91 #[.pointer (some ⟨q,0,none⟩),.slice (some ⟨w.heap.size,0,none⟩) 1 1] (w.alloc (.cells #[.int .i64 z] 3)) fun e u=>e = .returned (.tuple #[])∧∃ v',WrS B q u v' (zs++numB z)∧FrQ B q w u:=by
 have ga:=gal w (.cells #[.int .i64 z] 3) none;have ba:=hnw w (.cells #[.int .i64 z] 3)
 have hq:q≠w.heap.size:=by have:=lbk h.box;omega
 refine (numsT B q v zs [z] (some ⟨w.heap.size,0,none⟩) 1 1 _ (h.grown ga) (fun u hu=>?_) (by omega)).mono ?_
 ·
  have b2:=hu.other _ _ _ _ ba (by decide) (fun e=>hq e.symm);refine ⟨⟨rfl,.inr ⟨_,_,rfl,fun i hi=>?_⟩⟩,by omega⟩
  obtain rfl:i=0:=by omega
  rw[cell_of_row u _ _ _ _ (0,0) b2];rfl
 ·
  rintro e u ⟨he,v',hw,hf⟩;exact ⟨he,v',by simpa [numsB] using hw,(FrQ.grown ga h.size).trans hf⟩
def insB (x:RIns):List Int:=x.op::((if x.op=1 then numB (foldV x.a) else if hasA x.op then numB x.a else [])++(if x.op=21 then numB x.b else [])++(if x.op=22 then numB (x.tos.length:Int)++numsB x.tos else [])++(if x.op=2 then textB x.lit else []))
structure InS (B q p3:Nat) (w u:World) (v:Value) (zs:List Int) (x:RIns) (a1:Option Addr) (l1 c1:Nat) (a2:Option Addr) (l2 c2:Nat):Prop where
 wr:WrS B q u v zs
 fr:FrQ B q w u
 box:u.heap[p3]? = some (Obj.cells #[.int .i64 x.op,.int .i64 x.a,.int .i64 x.b,.slice a1 l1 c1,.slice a2 l2 c2] 52)
theorem InS.go {B q p3:Nat} {w u u':World} {v v':Value} {zs zs':List Int} {x:RIns} {a1:Option Addr} {l1 c1:Nat} {a2:Option Addr} {l2 c2:Nat} (h:InS B q p3 w u v zs x a1 l1 c1 a2 l2 c2) (hw:WrS B q u' v' zs') (hf:FrQ B q u u') (hp:p3≠q):InS B q p3 w u' v' zs' x a1 l1 c1 a2 l2 c2 :=
 ⟨hw,h.fr.trans hf,hf.other _ _ _ _ h.box (by decide) hp⟩
theorem InS.gr {B q p3:Nat} {w u u':World} {v:Value} {zs:List Int} {x:RIns} {a1:Option Addr} {l1 c1:Nat} {a2:Option Addr} {l2 c2:Nat} (h:InS B q p3 w u v zs x a1 l1 c1 a2 l2 c2) (hg:u.grownBy u' none):InS B q p3 w u' v zs x a1 l1 c1 a2 l2 c2 :=
 ⟨h.wr.grown hg,h.fr.trans (FrQ.grown hg h.wr.size),(hg.block _ (lbk h.box) (by simp)).trans h.box⟩
theorem insWT (B q:Nat) (v:Value) (zs:List Int) (x:RIns) (a1:Option Addr) (l1 c1:Nat) (a2:Option Addr) (l2 c2:Nat) (w:World) (h:WrS B q w v zs) (hR:∀ u,FrQ B q w u→RdIns u x a1 l1 a2 l2∧OpsIn u) (hv:insV x=true) (hb:zs.length+1000≤90000000) :
  Calls Tryz.prog 105 #[.pointer (some ⟨q,0,none⟩),.agg #[.int .i64 x.op,.int .i64 x.a,.int .i64 x.b,.slice a1 l1 c1,.slice a2 l2 c2]] w fun e u=>e = .returned (.tuple #[])∧∃ v',WrS B q u v' (zs++insB x)∧FrQ B q w u:=by
 have g0:=gal w (.cells #[.int .i64 x.op,.int .i64 x.a,.int .i64 x.b,.slice a1 l1 c1,.slice a2 l2 c2] 52) none;have b0:=hnw w (.cells #[.int .i64 x.op,.int .i64 x.a,.int .i64 x.b,.slice a1 l1 c1,.slice a2 l2 c2] 52)
 have hq:q≠w.heap.size:=by have:=lbk h.box;omega
 have hop:0≤x.op∧x.op≤31:=by
  unfold insV at hv;simp only[opOk,bA9,dE9] at hv;exact hv.1.1.1.1
 have hto:x.op=22→x.tos.length≤5:=by
  intro e;unfold insV at hv;simp only[bA9] at hv;have:=hv.2;rw[e] at this;simp only[tV,decide_true,if_true,toV,bA9,dE9] at this;exact this.1.2
 have hli:x.op=2→x.lit.length≤20:=by
  intro e;unfold insV at hv;simp only[bA9] at hv;have:=hv.1.2;rw[e] at this;simp only[lV,decide_true,if_true,litV,bA9,dE9] at this;exact this.1
 have hw8:IntKind.u8.wrap x.op=x.op:=by unfold IntKind.wrap;simp [IntKind.min,IntKind.max,IntKind.signed,IntKind.bits];omega
 have L0:Hid (InS B q w.heap.size w (w.alloc (.cells #[.int .i64 x.op,.int .i64 x.a,.int .i64 x.b,.slice a1 l1 c1,.slice a2 l2 c2] 52)) v zs x a1 l1 c1 a2 l2 c2):=⟨h.grown g0,FrQ.grown g0 h.size,b0⟩;have HR:Hid (∀ u,FrQ B q w u→RdIns u x a1 l1 a2 l2∧OpsIn u):=hR;have HX:Hid ((x.op=22→x.tos.length≤5)∧(x.op=2→x.lit.length≤20)):=⟨hto,hli⟩
 have HOP:Hid (opOk x.op=true):=by show _=_;simp [opOk];omega
 clear h hR hv g0 b0 hto hli;go_enter Tryz.func105,Tryz.ntmps105;go_upto_region 1 with fail;generalize w.alloc (.cells #[.int .i64 x.op,.int .i64 x.a,.int .i64 x.b,.slice a1 l1 c1,.slice a2 l2 c2] 52)=w1 at *;generalize w.heap.size=p3 at *
 go_cut [] (fun wx=>∃ v1,Hid (InS B q p3 w wx v1 (zs++[x.op]) x a1 l1 c1 a2 l2 c2))
 case first=>as_aux_lemma =>
  obtain ⟨zs0,hzs⟩:∃ zs0,zs0=zs:=⟨_,rfl⟩;obtain ⟨v0,hv0⟩:∃ v0,v0=v:=⟨_,rfl⟩;have gd:=grown_drew (grf w1 none);obtain ⟨wr0,hwr0⟩:∃ u,u=w1.drew:=⟨_,rfl⟩
  have L1:Hid (InS B q p3 w wr0 v0 zs0 x a1 l1 c1 a2 l2 c2):=by rw[hwr0,hzs,hv0];exact L0.out.gr gd
  have HBD:Hid (zs0.length+1000≤90000000):=by rw[hzs];exact hb
  have SK:Hid (∀ u,FrQ B q wr0 u→(fun u:World=>u.cell? ⟨p3,0,none⟩=some (.int .i64 x.op)∧u.cell? ⟨p3,1,none⟩=some (.int .i64 x.a)∧u.cell? ⟨p3,2,none⟩=some (.int .i64 x.b)∧u.cell? ⟨p3,3,none⟩=some (.slice a1 l1 c1)∧u.cell? ⟨p3,4,none⟩=some (.slice a2 l2 c2)) u):=fun u hu=>(blkIns (hu.other _ _ _ _ L1.out.box (by decide) (fun e=>hq e.symm))).1
  have HZ:Hid (zs0=zs):=hzs;clear L0 gd hzs hv0;go_wp2_with fail;refine wp_region_held_drew (S:=(fun u:World=>u.cell? ⟨p3,0,none⟩=some (.int .i64 x.op)∧u.cell? ⟨p3,1,none⟩=some (.int .i64 x.a)∧u.cell? ⟨p3,2,none⟩=some (.int .i64 x.b)∧u.cell? ⟨p3,3,none⟩=some (.slice a1 l1 c1)∧u.cell? ⟨p3,4,none⟩=some (.slice a2 l2 c2))) (by kernel_rfl) (by rw[← hwr0];exact SK.out _ (FrQ.refl _ _ _)) (fun hH=>?_);rw[← hwr0] at hH ⊢;clear hwr0;simp only[sA9,lB,lC,Nat.reduceAdd,Array.replicate,List.replicate];refine tk 0 ?_;refine tk 1 ?_;refine tk 2 ?_;refine tk 3 ?_;refine tk 5 ?_;refine tk 6 ?_;refine tk 7 ?_;refine wpAnyH_ready (rs:=[4,8]) (by kernel_rfl) (by simp) ?_;refine AllReadyH.cons rfl (fun K hK=>?_) (AllReadyH.cons rfl (fun K hK=>?_) AllReadyH.nil)
  ·
   obtain ⟨cb,-⟩:=L1.out.wr.cell;go_simp;refine hK.out _ _ (SK.out _ (FrQ.refl _ _ _)) ?_;clear hK K hH;intro hH;simp only[Act.put,nA,nB,nC,nD,nE,nF];clear cb;refine rd 8 rfl (fun K hK=>?_);go_simp;have ga:=gal wr0 (.cells #[.int .u8 x.op] 5) none;have ba:=hnw wr0 (.cells #[.int .u8 x.op] 5);have AL:Hid (WrS B q (wr0.alloc (.cells #[.int .u8 x.op] 5)) v0 zs0∧Reads (wr0.alloc (.cells #[.int .u8 x.op] 5)) (some ⟨wr0.heap.size,0,none⟩) 1 [x.op]∧(some (⟨wr0.heap.size,0,none⟩:Addr)=none→1=0)∧FrQ B q wr0 (wr0.alloc (.cells #[.int .u8 x.op] 5))):=⟨L1.out.wr.grown ga,readsQ ba,(by intro h;cases h),FrQ.grown ga L1.out.wr.size⟩;clear ga ba;generalize wr0.alloc (.cells #[.int .u8 x.op] 5)=u1 at *;generalize wr0.heap.size=g at *;refine hK.out _ _ (SK.out _ AL.out.2.2.2) ?_;clear hK K hH;intro hH;simp only[Act.put,nA,nB,nC,nD,nE,nF];have AW:=AL.out;obtain ⟨i0,hi,hz0,hz1,hz2⟩:=info_parts info5;refine rd 9 rfl (fun K hK=>?_)
   refine step_ofQ rfl (wp_appQ _ _ 22 rfl B i0 (.int .u8 0) Tryz.underlying22 hi hz0 hz1 hz2 rfl _ _ _ rfl AW.1.own _ _ _ ([x.op]) rfl AW.2.1 AW.2.2.1 (by have:=AW.2.1.1;have:=HBD.out;omega) AW.1.size ?_);intro v2 u2 o2 g2 n2;have nv2:v2≠.slice none 0 0:=n2 AW.1.nn
   have o2':OwnQ B u2 v2 (zs0.length+([x.op]).length) (zs0++([x.op])):=by rw[AW.2.1.1];exact o2
   obtain ⟨g9,cp9,rfl⟩:=o2'.form nv2;obtain ⟨bx,fr,w2,f2⟩:=AW.1.next o2' g2 nv2
   have cb:u2.cell? ⟨q,0,none⟩=some v0:=by rw[cell_of_row u2 q 0 _ _ (0,0) bx];rfl
   have fz:=frozen_of_row u2 q 0 _ _ bx;have AM:Hid (WrS B q (u2.setCell ⟨q,0,none⟩ (.slice (some ⟨g9,0,none⟩) (zs0.length+([x.op]).length) cp9)) (.slice (some ⟨g9,0,none⟩) (zs0.length+([x.op]).length) cp9) (zs0++([x.op]))∧FrQ B q wr0 (u2.setCell ⟨q,0,none⟩ (.slice (some ⟨g9,0,none⟩) (zs0.length+([x.op]).length) cp9))):=⟨w2,AW.2.2.2.trans f2⟩;have S1:Hid ((fun u:World=>u.cell? ⟨p3,0,none⟩=some (.int .i64 x.op)∧u.cell? ⟨p3,1,none⟩=some (.int .i64 x.a)∧u.cell? ⟨p3,2,none⟩=some (.int .i64 x.b)∧u.cell? ⟨p3,3,none⟩=some (.slice a1 l1 c1)∧u.cell? ⟨p3,4,none⟩=some (.slice a2 l2 c2)) u2):=SK.out _ (AW.2.2.2.trans fr.q);have S2:Hid ((fun u:World=>u.cell? ⟨p3,0,none⟩=some (.int .i64 x.op)∧u.cell? ⟨p3,1,none⟩=some (.int .i64 x.a)∧u.cell? ⟨p3,2,none⟩=some (.int .i64 x.b)∧u.cell? ⟨p3,3,none⟩=some (.slice a1 l1 c1)∧u.cell? ⟨p3,4,none⟩=some (.slice a2 l2 c2)) (u2.setCell ⟨q,0,none⟩ (.slice (some ⟨g9,0,none⟩) (zs0.length+([x.op]).length) cp9))):=SK.out _ AM.out.2
   clear AL AW o2 o2' g2 n2 nv2 bx fr w2 f2 hi hz0 hz1 hz2 i0;refine hK.out _ _ S1.out ?_;clear hK K hH;intro hH;simp only[Act.put,nA,nB,nC,nD,nE,nF];refine tk 10 ?_;refine tk 11 ?_;refine rd 12 rfl (fun K hK=>?_);go_simp;refine hK.out _ _ S2.out (fun hH2=>?_);clear hK K hH hH2 S1 S2 cb fz;simp only[Act.put,nA,nB,nC,nD,nE,nF];refine wpAnyH_done (by kernel_rfl) ?_ _;go_wp2;go_meet
   case rel=>exact ⟨_,by have e:=HZ.out;subst e;exact L1.out.go AM.out.1 AM.out.2 (fun e=>hq e.symm)⟩
  ·
   go_simp;have ga:=gal wr0 (.cells #[.int .u8 x.op] 5) none;have ba:=hnw wr0 (.cells #[.int .u8 x.op] 5);have AL:Hid (WrS B q (wr0.alloc (.cells #[.int .u8 x.op] 5)) v0 zs0∧Reads (wr0.alloc (.cells #[.int .u8 x.op] 5)) (some ⟨wr0.heap.size,0,none⟩) 1 [x.op]∧(some (⟨wr0.heap.size,0,none⟩:Addr)=none→1=0)∧FrQ B q wr0 (wr0.alloc (.cells #[.int .u8 x.op] 5))):=⟨L1.out.wr.grown ga,readsQ ba,(by intro h;cases h),FrQ.grown ga L1.out.wr.size⟩;clear ga ba;generalize wr0.alloc (.cells #[.int .u8 x.op] 5)=u1 at *;generalize wr0.heap.size=g at *;refine hK.out _ _ (SK.out _ AL.out.2.2.2) ?_;clear hK K hH;intro hH;simp only[Act.put,nA,nB,nC,nD,nE,nF];obtain ⟨cb,-⟩:=AL.out.1.cell;refine rd 4 rfl (fun K hK=>?_);go_simp;refine hK.out _ _ (SK.out _ AL.out.2.2.2) ?_;clear hK K hH;intro hH;simp only[Act.put,nA,nB,nC,nD,nE,nF];clear cb;have AW:=AL.out;obtain ⟨i0,hi,hz0,hz1,hz2⟩:=info_parts info5;refine rd 9 rfl (fun K hK=>?_)
   refine step_ofQ rfl (wp_appQ _ _ 22 rfl B i0 (.int .u8 0) Tryz.underlying22 hi hz0 hz1 hz2 rfl _ _ _ rfl AW.1.own _ _ _ ([x.op]) rfl AW.2.1 AW.2.2.1 (by have:=AW.2.1.1;have:=HBD.out;omega) AW.1.size ?_);intro v2 u2 o2 g2 n2;have nv2:v2≠.slice none 0 0:=n2 AW.1.nn
   have o2':OwnQ B u2 v2 (zs0.length+([x.op]).length) (zs0++([x.op])):=by rw[AW.2.1.1];exact o2
   obtain ⟨g9,cp9,rfl⟩:=o2'.form nv2;obtain ⟨bx,fr,w2,f2⟩:=AW.1.next o2' g2 nv2
   have cb:u2.cell? ⟨q,0,none⟩=some v0:=by rw[cell_of_row u2 q 0 _ _ (0,0) bx];rfl
   have fz:=frozen_of_row u2 q 0 _ _ bx;have AM:Hid (WrS B q (u2.setCell ⟨q,0,none⟩ (.slice (some ⟨g9,0,none⟩) (zs0.length+([x.op]).length) cp9)) (.slice (some ⟨g9,0,none⟩) (zs0.length+([x.op]).length) cp9) (zs0++([x.op]))∧FrQ B q wr0 (u2.setCell ⟨q,0,none⟩ (.slice (some ⟨g9,0,none⟩) (zs0.length+([x.op]).length) cp9))):=⟨w2,AW.2.2.2.trans f2⟩;have S1:Hid ((fun u:World=>u.cell? ⟨p3,0,none⟩=some (.int .i64 x.op)∧u.cell? ⟨p3,1,none⟩=some (.int .i64 x.a)∧u.cell? ⟨p3,2,none⟩=some (.int .i64 x.b)∧u.cell? ⟨p3,3,none⟩=some (.slice a1 l1 c1)∧u.cell? ⟨p3,4,none⟩=some (.slice a2 l2 c2)) u2):=SK.out _ (AW.2.2.2.trans fr.q);have S2:Hid ((fun u:World=>u.cell? ⟨p3,0,none⟩=some (.int .i64 x.op)∧u.cell? ⟨p3,1,none⟩=some (.int .i64 x.a)∧u.cell? ⟨p3,2,none⟩=some (.int .i64 x.b)∧u.cell? ⟨p3,3,none⟩=some (.slice a1 l1 c1)∧u.cell? ⟨p3,4,none⟩=some (.slice a2 l2 c2)) (u2.setCell ⟨q,0,none⟩ (.slice (some ⟨g9,0,none⟩) (zs0.length+([x.op]).length) cp9))):=SK.out _ AM.out.2
   clear AL AW o2 o2' g2 n2 nv2 bx fr w2 f2 hi hz0 hz1 hz2 i0;refine hK.out _ _ S1.out ?_;clear hK K hH;intro hH;simp only[Act.put,nA,nB,nC,nD,nE,nF];refine tk 10 ?_;refine tk 11 ?_;refine rd 12 rfl (fun K hK=>?_);go_simp;refine hK.out _ _ S2.out (fun hH2=>?_);clear hK K hH hH2 S1 S2 cb fz;simp only[Act.put,nA,nB,nC,nD,nE,nF];refine wpAnyH_done (by kernel_rfl) ?_ _;go_wp2;go_meet
   case rel=>exact ⟨_,by have e:=HZ.out;subst e;exact L1.out.go AM.out.1 AM.out.2 (fun e=>hq e.symm)⟩
 case rest =>
 obtain ⟨v1,L1⟩:=hcut;clear L0;generalize wc=u0 at *;have C0:Hid _:=formOfOpT x.op u0 (HR.out _ L1.out.fr).2;obtain ⟨⟨y0,y1,y2,y3,y4⟩,-⟩:=blkIns L1.out.box;go_wp2_with fail;refine Calls.mono C0.out ?_;rintro e u1 ⟨he,hg⟩;unfold FoO at he;rw[HOP.out] at he;simp only[Bool.true_and] at he;subst he;have L2:Hid (InS B q p3 w u1 v1 (zs++[x.op]) x a1 l1 c1 a2 l2 c2):=L1.out.gr hg;clear C0 L1 hg y0 y1 y2 y3 y4;simp only[];by_cases h1:x.op=1
 ·
  skip
  have e0:hasA x.op=true:=by rw[h1];rfl
  have e1:decide (x.op=1)=true:=by simp [h1]
  have e2:decide (x.op=21)=false:=by simp [h1]
  have e3:decide (x.op=2)=false:=by simp [h1]
  have e4:decide (x.op=22)=false:=by simp [h1]
  rw[e0,e1,e2,e3,e4]
  have HI:Hid (insB x=x.op::numB (foldV x.a)):=by
   show _=_
   unfold insB;simp only[dE9,decide_eq_false_iff_not] at e1 e2 e3 e4;simp [e0,e1,e2,e3,e4,show hasA 21=true from rfl,show hasA 22=true from rfl,show hasA 2=false from rfl]
  clear e0 e1 e2 e3 e4;have ga:=gal u1 (.cells #[.bool true,.bool true,.bool false,.bool false,.bool false] 114) none;have ba:=hnw u1 (.cells #[.bool true,.bool true,.bool false,.bool false,.bool false] 114)
  have hp4:u1.heap.size≠q:=by have:=lbk L2.out.wr.box;omega
  have L3:Hid (InS B q p3 w _ v1 (zs++[x.op]) x a1 l1 c1 a2 l2 c2):=L2.out.gr ga;have F3:Hid _:=ba;clear ga ba L2;obtain ⟨⟨z0,z1,z2,z3,z4⟩,-⟩:=blk5 F3.out;obtain ⟨⟨y0,y1,y2,y3,y4⟩,-⟩:=blkIns L3.out.box;go_upto_region 3 with fail;generalize u1.alloc (.cells #[.bool true,.bool true,.bool false,.bool false,.bool false] 114)=ua3 at *;generalize u1.heap.size=p4 at *;have CF:Hid _:=implFoldT x.a ua3;go_wp2_with fail;refine Calls.mono CF.out ?_;rintro e uf ⟨he,hg⟩;subst he;have L3f:Hid (InS B q p3 w uf v1 (zs++[x.op]) x a1 l1 c1 a2 l2 c2):=L3.out.gr hg;have F3f:Hid (uf.heap[p4]? = some (Obj.cells #[.bool true,.bool true,.bool false,.bool false,.bool false] 114)):=(hg.block _ (lbk F3.out) (by simp)).trans F3.out;clear CF hg L3 F3 z0 z1 z2 z3 z4 y0 y1 y2 y3 y4;have L3:=L3f;have F3:=F3f;clear L3f F3f;generalize uf=ua3b at *;obtain ⟨⟨z0,z1,z2,z3,z4⟩,-⟩:=blk5 F3.out;obtain ⟨⟨y0,y1,y2,y3,y4⟩,-⟩:=blkIns L3.out.box
  simp only[];have CN0:Hid _:=num1T B q _ _ (foldV x.a) ua3b L3.out.wr (by have:=hb;simp only[lA,lB,lC];have:=numB_len x.a;have:=numB_len (foldV x.a);have:=numB_len x.b;have:=numB_len (l2:Int);omega);go_wp2_with fail;refine Calls.mono CN0.out ?_;rintro e ua4 ⟨he,vv0,hw,hf⟩;subst he;have L4:Hid (InS B q p3 w ua4 vv0 ((zs++[x.op])++numB (foldV x.a)) x a1 l1 c1 a2 l2 c2):=L3.out.go hw hf (fun e=>hq e.symm);have F4:Hid (ua4.heap[p4]? = some (Obj.cells #[.bool true,.bool true,.bool false,.bool false,.bool false] 114)):=hf.other _ _ _ _ F3.out (by decide) hp4;clear CN0 hw hf L3 F3 z0 z1 z2 z3 z4 y0 y1 y2 y3 y4;obtain ⟨⟨z0,z1,z2,z3,z4⟩,-⟩:=blk5 F4.out;obtain ⟨⟨y0,y1,y2,y3,y4⟩,-⟩:=blkIns L4.out.box;simp only[];go_wp2
  (try simp only[Exit.inBlock,Exit.then])
  refine bodyPost_end (results_noneQ (P:=Tryz.prog) Tryz.results105 _ _) rfl ?_;refine ⟨rfl,vv0,?_,L4.out.fr⟩;have e:=L4.out.wr;rw[HI.out];simpa [lD9] using e
 by_cases h21:x.op=21
 ·
  skip
  have e0:hasA x.op=true:=by rw[h21];rfl
  have e1:decide (x.op=1)=false:=by simp [h21]
  have e2:decide (x.op=21)=true:=by simp [h21]
  have e3:decide (x.op=2)=false:=by simp [h21]
  have e4:decide (x.op=22)=false:=by simp [h21]
  rw[e0,e1,e2,e3,e4]
  have HI:Hid (insB x=x.op::(numB x.a++numB x.b)):=by
   show _=_
   unfold insB;simp only[dE9,decide_eq_false_iff_not] at e1 e2 e3 e4;simp [e0,e1,e2,e3,e4,show hasA 21=true from rfl,show hasA 22=true from rfl,show hasA 2=false from rfl]
  clear e0 e1 e2 e3 e4;have ga:=gal u1 (.cells #[.bool true,.bool false,.bool true,.bool false,.bool false] 114) none;have ba:=hnw u1 (.cells #[.bool true,.bool false,.bool true,.bool false,.bool false] 114)
  have hp4:u1.heap.size≠q:=by have:=lbk L2.out.wr.box;omega
  have L3:Hid (InS B q p3 w _ v1 (zs++[x.op]) x a1 l1 c1 a2 l2 c2):=L2.out.gr ga;have F3:Hid _:=ba;clear ga ba L2;obtain ⟨⟨z0,z1,z2,z3,z4⟩,-⟩:=blk5 F3.out;obtain ⟨⟨y0,y1,y2,y3,y4⟩,-⟩:=blkIns L3.out.box;go_upto_region 3 with fail;generalize u1.alloc (.cells #[.bool true,.bool false,.bool true,.bool false,.bool false] 114)=ua3 at *;generalize u1.heap.size=p4 at *;have CN0:Hid _:=num1T B q _ _ (x.a) ua3 L3.out.wr (by have:=hb;simp only[lA,lB,lC];have:=numB_len x.a;have:=numB_len (foldV x.a);have:=numB_len x.b;have:=numB_len (l2:Int);omega);go_wp2_with fail;refine Calls.mono CN0.out ?_;rintro e ua4 ⟨he,vv0,hw,hf⟩;subst he;have L4:Hid (InS B q p3 w ua4 vv0 ((zs++[x.op])++numB (x.a)) x a1 l1 c1 a2 l2 c2):=L3.out.go hw hf (fun e=>hq e.symm);have F4:Hid (ua4.heap[p4]? = some (Obj.cells #[.bool true,.bool false,.bool true,.bool false,.bool false] 114)):=hf.other _ _ _ _ F3.out (by decide) hp4;clear CN0 hw hf L3 F3 z0 z1 z2 z3 z4 y0 y1 y2 y3 y4
  obtain ⟨⟨z0,z1,z2,z3,z4⟩,-⟩:=blk5 F4.out;obtain ⟨⟨y0,y1,y2,y3,y4⟩,-⟩:=blkIns L4.out.box;simp only[];have CN1:Hid _:=num1T B q _ _ (x.b) ua4 L4.out.wr (by have:=hb;simp only[lA,lB,lC];have:=numB_len x.a;have:=numB_len (foldV x.a);have:=numB_len x.b;have:=numB_len (l2:Int);omega);go_wp2_with fail;refine Calls.mono CN1.out ?_;rintro e ua5 ⟨he,vv1,hw,hf⟩;subst he;have L5:Hid (InS B q p3 w ua5 vv1 (((zs++[x.op])++numB (x.a))++numB (x.b)) x a1 l1 c1 a2 l2 c2):=L4.out.go hw hf (fun e=>hq e.symm);have F5:Hid (ua5.heap[p4]? = some (Obj.cells #[.bool true,.bool false,.bool true,.bool false,.bool false] 114)):=hf.other _ _ _ _ F4.out (by decide) hp4;clear CN1 hw hf L4 F4 z0 z1 z2 z3 z4 y0 y1 y2 y3 y4;obtain ⟨⟨z0,z1,z2,z3,z4⟩,-⟩:=blk5 F5.out;obtain ⟨⟨y0,y1,y2,y3,y4⟩,-⟩:=blkIns L5.out.box;simp only[];go_wp2
  (try simp only[Exit.inBlock,Exit.then])
  refine bodyPost_end (results_noneQ (P:=Tryz.prog) Tryz.results105 _ _) rfl ?_;refine ⟨rfl,vv1,?_,L5.out.fr⟩;have e:=L5.out.wr;rw[HI.out];simpa [lD9] using e
 by_cases h22:x.op=22
 ·
  have ht:=HX.out.1 h22;have hm2:x.tos.length=l2:=(HR.out _ L2.out.fr).1.2.1.1
  have e0:hasA x.op=true:=by rw[h22];rfl
  have e1:decide (x.op=1)=false:=by simp [h22]
  have e2:decide (x.op=21)=false:=by simp [h22]
  have e3:decide (x.op=2)=false:=by simp [h22]
  have e4:decide (x.op=22)=true:=by simp [h22]
  rw[e0,e1,e2,e3,e4]
  have HI:Hid (insB x=x.op::(numB x.a++(numB (l2:Int)++numsB x.tos))):=by
   show _=_
   unfold insB;simp only[dE9,decide_eq_false_iff_not] at e1 e2 e3 e4;simp [e0,e1,e2,e3,e4,hm2,show hasA 21=true from rfl,show hasA 22=true from rfl,show hasA 2=false from rfl]
  clear e0 e1 e2 e3 e4;have ga:=gal u1 (.cells #[.bool true,.bool false,.bool false,.bool false,.bool true] 114) none;have ba:=hnw u1 (.cells #[.bool true,.bool false,.bool false,.bool false,.bool true] 114)
  have hp4:u1.heap.size≠q:=by have:=lbk L2.out.wr.box;omega
  have L3:Hid (InS B q p3 w _ v1 (zs++[x.op]) x a1 l1 c1 a2 l2 c2):=L2.out.gr ga;have F3:Hid _:=ba;clear ga ba L2;obtain ⟨⟨z0,z1,z2,z3,z4⟩,-⟩:=blk5 F3.out;obtain ⟨⟨y0,y1,y2,y3,y4⟩,-⟩:=blkIns L3.out.box;go_upto_region 3 with fail;generalize u1.alloc (.cells #[.bool true,.bool false,.bool false,.bool false,.bool true] 114)=ua3 at *;generalize u1.heap.size=p4 at *;have CN0:Hid _:=num1T B q _ _ (x.a) ua3 L3.out.wr (by have:=hb;simp only[lA,lB,lC];have:=numB_len x.a;have:=numB_len (foldV x.a);have:=numB_len x.b;have:=numB_len (l2:Int);omega);go_wp2_with fail;refine Calls.mono CN0.out ?_;rintro e ua4 ⟨he,vv0,hw,hf⟩;subst he;have L4:Hid (InS B q p3 w ua4 vv0 ((zs++[x.op])++numB (x.a)) x a1 l1 c1 a2 l2 c2):=L3.out.go hw hf (fun e=>hq e.symm);have F4:Hid (ua4.heap[p4]? = some (Obj.cells #[.bool true,.bool false,.bool false,.bool false,.bool true] 114)):=hf.other _ _ _ _ F3.out (by decide) hp4;clear CN0 hw hf L3 F3 z0 z1 z2 z3 z4 y0 y1 y2 y3 y4
  obtain ⟨⟨z0,z1,z2,z3,z4⟩,-⟩:=blk5 F4.out;obtain ⟨⟨y0,y1,y2,y3,y4⟩,-⟩:=blkIns L4.out.box;simp only[];have CN1:Hid _:=num1T B q _ _ (((l2:Nat):Int)) ua4 L4.out.wr (by have:=hb;simp only[lA,lB,lC];have:=numB_len x.a;have:=numB_len (foldV x.a);have:=numB_len x.b;have:=numB_len (l2:Int);omega);go_wp2_with fail;refine Calls.mono CN1.out ?_;rintro e ua5 ⟨he,vv1,hw,hf⟩;subst he;have L5:Hid (InS B q p3 w ua5 vv1 (((zs++[x.op])++numB (x.a))++numB (((l2:Nat):Int))) x a1 l1 c1 a2 l2 c2):=L4.out.go hw hf (fun e=>hq e.symm);have F5:Hid (ua5.heap[p4]? = some (Obj.cells #[.bool true,.bool false,.bool false,.bool false,.bool true] 114)):=hf.other _ _ _ _ F4.out (by decide) hp4;clear CN1 hw hf L4 F4 z0 z1 z2 z3 z4 y0 y1 y2 y3 y4;obtain ⟨⟨z0,z1,z2,z3,z4⟩,-⟩:=blk5 F5.out;obtain ⟨⟨y0,y1,y2,y3,y4⟩,-⟩:=blkIns L5.out.box;simp only[];have CN2:Hid _:=numsT B q _ _ x.tos a2 l2 c2 ua5 L5.out.wr (fun v hv=>(HR.out _ (L5.out.fr.trans hv)).1.2) (by have:=numB_len x.a;have:=numB_len (l2:Int);have:=ht;have:=hb;simp only[lA,lB,lC];omega)
  go_wp2_with fail;refine Calls.mono CN2.out ?_;rintro e ua6 ⟨he,vv2,hw,hf⟩;subst he;have L6:Hid (InS B q p3 w ua6 vv2 ((((zs++[x.op])++numB (x.a))++numB (((l2:Nat):Int)))++numsB x.tos) x a1 l1 c1 a2 l2 c2):=L5.out.go hw hf (fun e=>hq e.symm);have F6:Hid (ua6.heap[p4]? = some (Obj.cells #[.bool true,.bool false,.bool false,.bool false,.bool true] 114)):=hf.other _ _ _ _ F5.out (by decide) hp4;clear CN2 hw hf L5 F5 z0 z1 z2 z3 z4 y0 y1 y2 y3 y4;obtain ⟨⟨z0,z1,z2,z3,z4⟩,-⟩:=blk5 F6.out;obtain ⟨⟨y0,y1,y2,y3,y4⟩,-⟩:=blkIns L6.out.box;simp only[];go_wp2
  (try simp only[Exit.inBlock,Exit.then])
  refine bodyPost_end (results_noneQ (P:=Tryz.prog) Tryz.results105 _ _) rfl ?_;refine ⟨rfl,vv2,?_,L6.out.fr⟩;have e:=L6.out.wr;rw[HI.out];simpa [lD9] using e
 by_cases h2:x.op=2
 ·
  have hlt:=HX.out.2 h2
  have e0:hasA x.op=false:=by rw[h2];rfl
  have e1:decide (x.op=1)=false:=by simp [h2]
  have e2:decide (x.op=21)=false:=by simp [h2]
  have e3:decide (x.op=2)=true:=by simp [h2]
  have e4:decide (x.op=22)=false:=by simp [h2]
  rw[e0,e1,e2,e3,e4]
  have HI:Hid (insB x=x.op::textB x.lit):=by
   show _=_
   unfold insB;simp only[dE9,decide_eq_false_iff_not] at e1 e2 e3 e4;simp [e0,e1,e2,e3,e4,show hasA 21=true from rfl,show hasA 22=true from rfl,show hasA 2=false from rfl]
  clear e0 e1 e2 e3 e4;have ga:=gal u1 (.cells #[.bool false,.bool false,.bool false,.bool true,.bool false] 114) none;have ba:=hnw u1 (.cells #[.bool false,.bool false,.bool false,.bool true,.bool false] 114)
  have hp4:u1.heap.size≠q:=by have:=lbk L2.out.wr.box;omega
  have L3:Hid (InS B q p3 w _ v1 (zs++[x.op]) x a1 l1 c1 a2 l2 c2):=L2.out.gr ga;have F3:Hid _:=ba;clear ga ba L2;obtain ⟨⟨z0,z1,z2,z3,z4⟩,-⟩:=blk5 F3.out;obtain ⟨⟨y0,y1,y2,y3,y4⟩,-⟩:=blkIns L3.out.box;go_upto_region 3 with fail;generalize u1.alloc (.cells #[.bool false,.bool false,.bool false,.bool true,.bool false] 114)=ua3 at *;generalize u1.heap.size=p4 at *;go_upto_region 13 with fail;have gd:=grown_drew (grf ua3 none);obtain ⟨zs0,hzs⟩:∃ zs0,zs0=zs++[x.op]:=⟨_,rfl⟩;obtain ⟨v0,hv0⟩:∃ v0,v0=v1:=⟨_,rfl⟩;obtain ⟨wr0,hwr0⟩:∃ u,u=ua3.drew:=⟨_,rfl⟩
  have L1:Hid (InS B q p3 w wr0 v0 zs0 x a1 l1 c1 a2 l2 c2):=by rw[hwr0,hzs,hv0];exact L3.out.gr gd
  have hTl:=textB_len x.lit hlt;have HBD:Hid (zs0.length+1000≤90000000+1∧(textB x.lit).length≤40):=⟨by rw[hzs];simp only[lA,lB,lC];omega,hTl⟩
  have SK:Hid (∀ u,FrQ B q wr0 u→(fun u:World=>u.cell? ⟨p3,0,none⟩=some (.int .i64 x.op)∧u.cell? ⟨p3,1,none⟩=some (.int .i64 x.a)∧u.cell? ⟨p3,2,none⟩=some (.int .i64 x.b)∧u.cell? ⟨p3,3,none⟩=some (.slice a1 l1 c1)∧u.cell? ⟨p3,4,none⟩=some (.slice a2 l2 c2)) u):=fun u hu=>(blkIns (hu.other _ _ _ _ L1.out.box (by decide) (fun e=>hq e.symm))).1
  have HZ:Hid (zs0=zs++[x.op]):=hzs
  have CC:Hid (∀ u,FrQ B q w u→_):=fun u hu=>txt0T a1 l1 c1 x.lit u ((HR.out u hu).1.1) hlt
  clear L3 F3 gd hzs hv0 z0 z1 z2 z3 z4 y0 y1 y2 y3 y4 hTl;refine wp_region_held_drew (S:=(fun u:World=>u.cell? ⟨p3,0,none⟩=some (.int .i64 x.op)∧u.cell? ⟨p3,1,none⟩=some (.int .i64 x.a)∧u.cell? ⟨p3,2,none⟩=some (.int .i64 x.b)∧u.cell? ⟨p3,3,none⟩=some (.slice a1 l1 c1)∧u.cell? ⟨p3,4,none⟩=some (.slice a2 l2 c2))) (by kernel_rfl) (by rw[← hwr0];exact SK.out _ (FrQ.refl _ _ _)) (fun hH=>?_);rw[← hwr0] at hH ⊢;clear hwr0;simp only[sA9,lB,lC,Nat.reduceAdd,Array.replicate,List.replicate];refine tk 0 ?_;refine tk 1 ?_;refine tk 2 ?_;refine tk 3 ?_;refine tk 5 ?_;refine tk 6 ?_;refine wpAnyH_ready (rs:=[4,7]) (by kernel_rfl) (by simp) ?_;refine AllReadyH.cons rfl (fun K hK=>?_) (AllReadyH.cons rfl (fun K hK=>?_) AllReadyH.nil)
  ·
   obtain ⟨cb,-⟩:=L1.out.wr.cell;go_simp;refine hK.out _ _ (SK.out _ (FrQ.refl _ _ _)) ?_;clear hK K hH;intro hH;simp only[Act.put,nA,nB,nC,nD,nE,nF];clear cb;refine rd 7 rfl (fun K hK=>?_);go_simp;refine Calls.mono (CC.out wr0 L1.out.fr) ?_;rintro e u1 ⟨g,he,hg,hr⟩;subst he;have AL:Hid (WrS B q u1 v0 zs0∧Reads u1 (some ⟨g,0,none⟩) (textB x.lit).length (textB x.lit)∧(some (⟨g,0,none⟩:Addr)=none→(textB x.lit).length=0)∧FrQ B q wr0 u1):=⟨L1.out.wr.grown hg,hr,(by intro h;cases h),FrQ.grown hg L1.out.wr.size⟩;clear CC hg hr;refine hK.out _ _ (SK.out _ AL.out.2.2.2) ?_;clear hK K hH;intro hH;simp only[Act.put,nA,nB,nC,nD,nE,nF];have AW:=AL.out;obtain ⟨i0,hi,hz0,hz1,hz2⟩:=info_parts info5;refine rd 8 rfl (fun K hK=>?_);refine step_ofQ rfl (wp_appQ _ _ 22 rfl B i0 (.int .u8 0) Tryz.underlying22 hi hz0 hz1 hz2 rfl _ _ _ rfl AW.1.own _ _ _ (textB x.lit) rfl AW.2.1 AW.2.2.1 (by have:=AW.2.1.1;have:=HBD.out;omega) AW.1.size ?_)
   intro v2 u2 o2 g2 n2;have nv2:v2≠.slice none 0 0:=n2 AW.1.nn
   have o2':OwnQ B u2 v2 (zs0.length+(textB x.lit).length) (zs0++(textB x.lit)):=by rw[AW.2.1.1];exact o2
   obtain ⟨g9,cp9,rfl⟩:=o2'.form nv2;obtain ⟨bx,fr,w2,f2⟩:=AW.1.next o2' g2 nv2
   have cb:u2.cell? ⟨q,0,none⟩=some v0:=by rw[cell_of_row u2 q 0 _ _ (0,0) bx];rfl
   have fz:=frozen_of_row u2 q 0 _ _ bx;have AM:Hid (WrS B q (u2.setCell ⟨q,0,none⟩ (.slice (some ⟨g9,0,none⟩) (zs0.length+(textB x.lit).length) cp9)) (.slice (some ⟨g9,0,none⟩) (zs0.length+(textB x.lit).length) cp9) (zs0++(textB x.lit))∧FrQ B q wr0 (u2.setCell ⟨q,0,none⟩ (.slice (some ⟨g9,0,none⟩) (zs0.length+(textB x.lit).length) cp9))):=⟨w2,AW.2.2.2.trans f2⟩;have S1:Hid ((fun u:World=>u.cell? ⟨p3,0,none⟩=some (.int .i64 x.op)∧u.cell? ⟨p3,1,none⟩=some (.int .i64 x.a)∧u.cell? ⟨p3,2,none⟩=some (.int .i64 x.b)∧u.cell? ⟨p3,3,none⟩=some (.slice a1 l1 c1)∧u.cell? ⟨p3,4,none⟩=some (.slice a2 l2 c2)) u2):=SK.out _ (AW.2.2.2.trans fr.q);have S2:Hid ((fun u:World=>u.cell? ⟨p3,0,none⟩=some (.int .i64 x.op)∧u.cell? ⟨p3,1,none⟩=some (.int .i64 x.a)∧u.cell? ⟨p3,2,none⟩=some (.int .i64 x.b)∧u.cell? ⟨p3,3,none⟩=some (.slice a1 l1 c1)∧u.cell? ⟨p3,4,none⟩=some (.slice a2 l2 c2)) (u2.setCell ⟨q,0,none⟩ (.slice (some ⟨g9,0,none⟩) (zs0.length+(textB x.lit).length) cp9))):=SK.out _ AM.out.2
   clear AL AW o2 o2' g2 n2 nv2 bx fr w2 f2 hi hz0 hz1 hz2 i0;refine hK.out _ _ S1.out ?_;clear hK K hH;intro hH;simp only[Act.put,nA,nB,nC,nD,nE,nF];refine tk 9 ?_;refine tk 10 ?_;refine rd 11 rfl (fun K hK=>?_);go_simp;refine hK.out _ _ S2.out (fun hH2=>?_);clear hK K hH hH2 S1 S2 cb fz;simp only[Act.put,nA,nB,nC,nD,nE,nF];refine wpAnyH_done (by kernel_rfl) ?_ _;go_wp2
   (try simp only[Exit.inBlock,Exit.then])
   refine bodyPost_end (results_noneQ (P:=Tryz.prog) Tryz.results105 _ _) rfl ?_;have e:=AM.out.1;have e2:=HZ.out
   have e3:zs0++textB x.lit=zs++insB x:=by rw[HI.out,e2];simp [lD9]
   rw[e3] at e;have f:=L1.out.fr.trans AM.out.2
   first|exact ⟨rfl,_,e,f⟩|exact ⟨rfl,⟨_,e⟩,f⟩
  ·
   go_simp;refine Calls.mono (CC.out wr0 L1.out.fr) ?_;rintro e u1 ⟨g,he,hg,hr⟩;subst he;have AL:Hid (WrS B q u1 v0 zs0∧Reads u1 (some ⟨g,0,none⟩) (textB x.lit).length (textB x.lit)∧(some (⟨g,0,none⟩:Addr)=none→(textB x.lit).length=0)∧FrQ B q wr0 u1):=⟨L1.out.wr.grown hg,hr,(by intro h;cases h),FrQ.grown hg L1.out.wr.size⟩;clear CC hg hr;refine hK.out _ _ (SK.out _ AL.out.2.2.2) ?_;clear hK K hH;intro hH;simp only[Act.put,nA,nB,nC,nD,nE,nF];obtain ⟨cb,-⟩:=AL.out.1.cell;refine rd 4 rfl (fun K hK=>?_);go_simp;refine hK.out _ _ (SK.out _ AL.out.2.2.2) ?_;clear hK K hH;intro hH;simp only[Act.put,nA,nB,nC,nD,nE,nF];clear cb;have AW:=AL.out;obtain ⟨i0,hi,hz0,hz1,hz2⟩:=info_parts info5;refine rd 8 rfl (fun K hK=>?_);refine step_ofQ rfl (wp_appQ _ _ 22 rfl B i0 (.int .u8 0) Tryz.underlying22 hi hz0 hz1 hz2 rfl _ _ _ rfl AW.1.own _ _ _ (textB x.lit) rfl AW.2.1 AW.2.2.1 (by have:=AW.2.1.1;have:=HBD.out;omega) AW.1.size ?_)
   intro v2 u2 o2 g2 n2;have nv2:v2≠.slice none 0 0:=n2 AW.1.nn
   have o2':OwnQ B u2 v2 (zs0.length+(textB x.lit).length) (zs0++(textB x.lit)):=by rw[AW.2.1.1];exact o2
   obtain ⟨g9,cp9,rfl⟩:=o2'.form nv2;obtain ⟨bx,fr,w2,f2⟩:=AW.1.next o2' g2 nv2
   have cb:u2.cell? ⟨q,0,none⟩=some v0:=by rw[cell_of_row u2 q 0 _ _ (0,0) bx];rfl
   have fz:=frozen_of_row u2 q 0 _ _ bx;have AM:Hid (WrS B q (u2.setCell ⟨q,0,none⟩ (.slice (some ⟨g9,0,none⟩) (zs0.length+(textB x.lit).length) cp9)) (.slice (some ⟨g9,0,none⟩) (zs0.length+(textB x.lit).length) cp9) (zs0++(textB x.lit))∧FrQ B q wr0 (u2.setCell ⟨q,0,none⟩ (.slice (some ⟨g9,0,none⟩) (zs0.length+(textB x.lit).length) cp9))):=⟨w2,AW.2.2.2.trans f2⟩;have S1:Hid ((fun u:World=>u.cell? ⟨p3,0,none⟩=some (.int .i64 x.op)∧u.cell? ⟨p3,1,none⟩=some (.int .i64 x.a)∧u.cell? ⟨p3,2,none⟩=some (.int .i64 x.b)∧u.cell? ⟨p3,3,none⟩=some (.slice a1 l1 c1)∧u.cell? ⟨p3,4,none⟩=some (.slice a2 l2 c2)) u2):=SK.out _ (AW.2.2.2.trans fr.q);have S2:Hid ((fun u:World=>u.cell? ⟨p3,0,none⟩=some (.int .i64 x.op)∧u.cell? ⟨p3,1,none⟩=some (.int .i64 x.a)∧u.cell? ⟨p3,2,none⟩=some (.int .i64 x.b)∧u.cell? ⟨p3,3,none⟩=some (.slice a1 l1 c1)∧u.cell? ⟨p3,4,none⟩=some (.slice a2 l2 c2)) (u2.setCell ⟨q,0,none⟩ (.slice (some ⟨g9,0,none⟩) (zs0.length+(textB x.lit).length) cp9))):=SK.out _ AM.out.2
   clear AL AW o2 o2' g2 n2 nv2 bx fr w2 f2 hi hz0 hz1 hz2 i0;refine hK.out _ _ S1.out ?_;clear hK K hH;intro hH;simp only[Act.put,nA,nB,nC,nD,nE,nF];refine tk 9 ?_;refine tk 10 ?_;refine rd 11 rfl (fun K hK=>?_);go_simp;refine hK.out _ _ S2.out (fun hH2=>?_);clear hK K hH hH2 S1 S2 cb fz;simp only[Act.put,nA,nB,nC,nD,nE,nF];refine wpAnyH_done (by kernel_rfl) ?_ _;go_wp2
   (try simp only[Exit.inBlock,Exit.then])
   refine bodyPost_end (results_noneQ (P:=Tryz.prog) Tryz.results105 _ _) rfl ?_;have e:=AM.out.1;have e2:=HZ.out
   have e3:zs0++textB x.lit=zs++insB x:=by rw[HI.out,e2];simp [lD9]
   rw[e3] at e;have f:=L1.out.fr.trans AM.out.2
   first|exact ⟨rfl,_,e,f⟩|exact ⟨rfl,⟨_,e⟩,f⟩
 cases ha:hasA x.op with
 | true =>
  have e0:hasA x.op=true:=ha
  have e1:decide (x.op=1)=false:=by simp [h1]
  have e2:decide (x.op=21)=false:=by simp [h21]
  have e3:decide (x.op=2)=false:=by simp [h2]
  have e4:decide (x.op=22)=false:=by simp [h22]
  rw[e1,e2,e3,e4]
  have HI:Hid (insB x=x.op::numB x.a):=by
   show _=_
   unfold insB;simp only[dE9,decide_eq_false_iff_not] at e1 e2 e3 e4;simp [e0,e1,e2,e3,e4,show hasA 21=true from rfl,show hasA 22=true from rfl,show hasA 2=false from rfl]
  clear e0 e1 e2 e3 e4;have ga:=gal u1 (.cells #[.bool true,.bool false,.bool false,.bool false,.bool false] 114) none;have ba:=hnw u1 (.cells #[.bool true,.bool false,.bool false,.bool false,.bool false] 114)
  have hp4:u1.heap.size≠q:=by have:=lbk L2.out.wr.box;omega
  have L3:Hid (InS B q p3 w _ v1 (zs++[x.op]) x a1 l1 c1 a2 l2 c2):=L2.out.gr ga;have F3:Hid _:=ba;clear ga ba L2;obtain ⟨⟨z0,z1,z2,z3,z4⟩,-⟩:=blk5 F3.out;obtain ⟨⟨y0,y1,y2,y3,y4⟩,-⟩:=blkIns L3.out.box;go_upto_region 3 with fail;generalize u1.alloc (.cells #[.bool true,.bool false,.bool false,.bool false,.bool false] 114)=ua3 at *;generalize u1.heap.size=p4 at *;have CN0:Hid _:=num1T B q _ _ (x.a) ua3 L3.out.wr (by have:=hb;simp only[lA,lB,lC];have:=numB_len x.a;have:=numB_len (foldV x.a);have:=numB_len x.b;have:=numB_len (l2:Int);omega);go_wp2_with fail;refine Calls.mono CN0.out ?_;rintro e ua4 ⟨he,vv0,hw,hf⟩;subst he;have L4:Hid (InS B q p3 w ua4 vv0 ((zs++[x.op])++numB (x.a)) x a1 l1 c1 a2 l2 c2):=L3.out.go hw hf (fun e=>hq e.symm);have F4:Hid (ua4.heap[p4]? = some (Obj.cells #[.bool true,.bool false,.bool false,.bool false,.bool false] 114)):=hf.other _ _ _ _ F3.out (by decide) hp4;clear CN0 hw hf L3 F3 z0 z1 z2 z3 z4 y0 y1 y2 y3 y4
  obtain ⟨⟨z0,z1,z2,z3,z4⟩,-⟩:=blk5 F4.out;obtain ⟨⟨y0,y1,y2,y3,y4⟩,-⟩:=blkIns L4.out.box;simp only[];go_wp2
  (try simp only[Exit.inBlock,Exit.then])
  refine bodyPost_end (results_noneQ (P:=Tryz.prog) Tryz.results105 _ _) rfl ?_;refine ⟨rfl,vv0,?_,L4.out.fr⟩;have e:=L4.out.wr;rw[HI.out];simpa [lD9] using e
 | false =>
  have e0:hasA x.op=false:=ha
  have e1:decide (x.op=1)=false:=by simp [h1]
  have e2:decide (x.op=21)=false:=by simp [h21]
  have e3:decide (x.op=2)=false:=by simp [h2]
  have e4:decide (x.op=22)=false:=by simp [h22]
  rw[e1,e2,e3,e4]
  have HI:Hid (insB x=[x.op]):=by
   show _=_
   unfold insB;simp only[dE9,decide_eq_false_iff_not] at e1 e2 e3 e4;simp [e0,e1,e2,e3,e4,show hasA 21=true from rfl,show hasA 22=true from rfl,show hasA 2=false from rfl]
  clear e0 e1 e2 e3 e4;have ga:=gal u1 (.cells #[.bool false,.bool false,.bool false,.bool false,.bool false] 114) none;have ba:=hnw u1 (.cells #[.bool false,.bool false,.bool false,.bool false,.bool false] 114)
  have hp4:u1.heap.size≠q:=by have:=lbk L2.out.wr.box;omega
  have L3:Hid (InS B q p3 w _ v1 (zs++[x.op]) x a1 l1 c1 a2 l2 c2):=L2.out.gr ga;have F3:Hid _:=ba;clear ga ba L2;obtain ⟨⟨z0,z1,z2,z3,z4⟩,-⟩:=blk5 F3.out;obtain ⟨⟨y0,y1,y2,y3,y4⟩,-⟩:=blkIns L3.out.box;go_upto_region 3 with fail;generalize u1.alloc (.cells #[.bool false,.bool false,.bool false,.bool false,.bool false] 114)=ua3 at *;generalize u1.heap.size=p4 at *;go_wp2
  (try simp only[Exit.inBlock,Exit.then])
  refine bodyPost_end (results_noneQ (P:=Tryz.prog) Tryz.results105 _ _) rfl ?_;refine ⟨rfl,v1,?_,L3.out.fr⟩;have e:=L3.out.wr;rw[HI.out];simpa [lD9] using e
end Go.Proofs.YtnmlbeefjjohfaaGreatDoor.By
