/-
  No statement is proved here.
-/
import Derived.Test.YtnmlbeefjjohfaaGreatDoorQCSh
namespace Go.Proofs.YtnmlbeefjjohfaaGreatDoor.By
set_option maxRecDepth 100000
set_option maxHeartbeats 16000000
open Go.RowKit
set_option linter.unusedVariables false
set_option linter.unusedSimpArgs false
theorem typ2T (B q:Nat) (v:Value) (zs:List Int) (k1 n1 k2 n2:Int) (d1 d2:F) (a2:Option Addr) (l2 c2:Nat) (a3:Option Addr) (l3 c3:Nat) (w:World) (h:WrS B q w v zs) (hR:∀ u,FrQ B q w u→SlF u a2 l2 d1∧SlF u a3 l3 d2) (hb:zs.length+1320≤90000000) :
  Calls Tryz.prog 92 #[.pointer (some ⟨q,0,none⟩),.slice (some ⟨w.heap.size,0,none⟩) 2 2] (w.alloc (.cells #[.int .i64 k1,.int .i64 n1,.slice a2 l2 c2,.int .i64 k2,.int .i64 n2,.slice a3 l3 c3] 46)) fun e u=>e = .returned (.tuple #[])∧∃ v',WrS B q u v' (zs++(bytesV k1 n1 d1++bytesV k2 n2 d2))∧FrQ B q w u:=by
 have ga:=gal w (.cells #[.int .i64 k1,.int .i64 n1,.slice a2 l2 c2,.int .i64 k2,.int .i64 n2,.slice a3 l3 c3] 46) none;have ba:=hnw w (.cells #[.int .i64 k1,.int .i64 n1,.slice a2 l2 c2,.int .i64 k2,.int .i64 n2,.slice a3 l3 c3] 46)
 have hq:q≠w.heap.size:=by have:=lbk h.box;omega
 refine (typesT B q v zs (.cons k1 n1 d1 (.cons k2 n2 d2 .nil)) (some ⟨w.heap.size,0,none⟩) 2 2 _ (h.grown ga) (fun u hu=>?_) (by omega)).mono ?_
 ·
  have b2:=hu.other _ _ _ _ ba (by decide) (fun e=>hq e.symm)
  have cc:=fun j=>cell_of_row u w.heap.size j _ _ (0,0) b2
  obtain ⟨h1,h2⟩:=hR u ((FrQ.grown ga h.size).trans hu);exact ⟨rfl,by omega,.inr ⟨_,_,rfl,InF.mk ((cc 0).trans rfl) ((cc 1).trans rfl) ((cc 2).trans rfl) h1 (InF.mk ((cc 3).trans rfl) ((cc 4).trans rfl) ((cc 5).trans rfl) h2 trivial)⟩⟩
 ·
  rintro e u ⟨he,v',hw,hf⟩;exact ⟨he,v',by simpa [tysB] using hw,(FrQ.grown ga h.size).trans hf⟩
theorem cle_below {W0 u:World} (h:Below W0.heap.size W0 u):CLe W0 u:=fun p v hv=>by rw[h.cell (p:=p) (block_lt_of_cell hv)];exact hv
theorem OpsIn.below {W0 u:World} (h:OpsIn W0) (k:Below W0.heap.size W0 u):OpsIn u:=by
 obtain ⟨t,fr,h⟩:=h;exact ⟨t,fr,(k.block _ (lbk h)).trans h⟩
def codeB:List RIns→List Int
 | []=>[]
 | x::r=>insB x++codeB r
theorem codeB_app (a b:List RIns):codeB (a++b)=codeB a++codeB b:=by
 induction a with
 | nil=>rfl
 | cons x r ih=>simp [codeB,ih]
theorem ins_facts {x:RIns} (hv:insV x=true):(0≤x.op∧x.op≤31)∧(x.op=22→x.tos.length≤5)∧(x.op=2→x.lit.length≤20):=by
 unfold insV at hv;simp only[opOk,bA9,dE9] at hv;refine ⟨hv.1.1.1.1,fun e=>?_,fun e=>?_⟩
 ·
  have:=hv.2;rw[e] at this;simp only[tV,decide_true,if_true,toV,bA9,dE9] at this;exact this.1.2
 ·
  have:=hv.1.2;rw[e] at this;simp only[lV,decide_true,if_true,litV,bA9,dE9] at this;exact this.1
theorem insB_len {x:RIns} (hv:insV x=true):(insB x).length≤100:=by
 obtain ⟨-,h1,h2⟩:=ins_facts hv;unfold insB;have q1:=numB_len (foldV x.a);have q2:=numB_len x.a;have q3:=numB_len x.b;have q4:=numB_len (x.tos.length:Int);have q5:=numsB_len x.tos
 have e1:(if x.op=1 then numB (foldV x.a) else if hasA x.op then numB x.a else []).length≤5:=by
  split
  ·
   omega
  ·
   split
   ·
    omega
   ·
    simp
 have e2:(if x.op=21 then numB x.b else []).length≤5:=by
  split
  ·
   omega
  ·
   simp
 have e3:(if x.op=22 then numB (x.tos.length:Int)++numsB x.tos else []).length≤30:=by
  split
  ·
   rename_i h;have:=h1 h;simp only[lA];omega
  ·
   simp
 have e4:(if x.op=2 then textB x.lit else []).length≤40:=by
  split
  ·
   rename_i h;exact textB_len _ (h2 h)
  ·
   simp
 simp only[lB,lA];omega
theorem codeB_len:∀ (l:List RIns),(l.any fun x=>!insV x)=false→(codeB l).length≤100 * l.length
 | [],_=>by simp [codeB]
 | x::r,h=>by
  simp only[List.any_cons,Bool.or_eq_false_iff,Bool.not_eq_false'] at h;have:=insB_len h.1;have:=codeB_len r h.2;simp only[codeB,lA,lB];omega
def blockB (x:RBlock):List Int:=numB (x.env.len:Int)++(tysB x.env++((bytesV x.argk x.argn x.argf++bytesV x.resk x.resn x.resf)++(numB (x.locs.len:Int)++(tysB x.locs++(numB (x.code.length:Int)++codeB x.code)))))
structure BkS (B q p3:Nat) (w u:World) (v:Value) (zs:List Int) (x:RBlock) (a1:Option Addr) (l1 c1:Nat) (a2:Option Addr) (l2 c2:Nat) (a3:Option Addr) (l3 c3:Nat) (a4:Option Addr) (l4 c4:Nat) (a5:Option Addr) (l5 c5:Nat):Prop where
 wr:WrS B q u v zs
 fr:FrQ B q w u
 box:u.heap[p3]? = some (Obj.cells #[.slice a1 l1 c1,.int .i64 x.argk,.int .i64 x.argn,.slice a2 l2 c2,.int .i64 x.resk,.int .i64 x.resn,.slice a3 l3 c3,.slice a4 l4 c4,.slice a5 l5 c5] 49)
theorem BkS.go {B q p3:Nat} {w u u':World} {v v':Value} {zs zs':List Int} {x:RBlock} {a1 a2 a3 a4 a5:Option Addr} {l1 c1 l2 c2 l3 c3 l4 c4 l5 c5:Nat} (h:BkS B q p3 w u v zs x a1 l1 c1 a2 l2 c2 a3 l3 c3 a4 l4 c4 a5 l5 c5) (hw:WrS B q u' v' zs') (hf:FrQ B q u u') (hp:p3≠q):BkS B q p3 w u' v' zs' x a1 l1 c1 a2 l2 c2 a3 l3 c3 a4 l4 c4 a5 l5 c5 :=
 ⟨hw,h.fr.trans hf,hf.other _ _ _ _ h.box (by decide) hp⟩
theorem blockWT (B q:Nat) (v:Value) (zs:List Int) (x:RBlock) (a1:Option Addr) (l1 c1:Nat) (a2:Option Addr) (l2 c2:Nat) (a3:Option Addr) (l3 c3:Nat) (a4:Option Addr) (l4 c4:Nat) (a5:Option Addr) (l5 c5:Nat) (M:Nat) (W0 w:World) (hB:B=W0.heap.size) (h:WrS B q w v zs) (hbl:Below W0.heap.size W0 w) (h0:RdBlock W0 x a1 l1 a2 l2 a3 l3 a4 l4 a5 l5) (hO:OpsIn W0) (hv:blockV M x=true) (hb:zs.length+200000≤90000000) :
  Calls Tryz.prog 93 #[.pointer (some ⟨q,0,none⟩),.agg #[.slice a1 l1 c1,.int .i64 x.argk,.int .i64 x.argn,.slice a2 l2 c2,.int .i64 x.resk,.int .i64 x.resn,.slice a3 l3 c3,.slice a4 l4 c4,.slice a5 l5 c5]] w fun e u=>e = .returned (.tuple #[])∧∃ v',WrS B q u v' (zs++blockB x)∧FrQ B q w u:=by
 have g0:=gal w (.cells #[.slice a1 l1 c1,.int .i64 x.argk,.int .i64 x.argn,.slice a2 l2 c2,.int .i64 x.resk,.int .i64 x.resn,.slice a3 l3 c3,.slice a4 l4 c4,.slice a5 l5 c5] 49) none;have b0:=hnw w (.cells #[.slice a1 l1 c1,.int .i64 x.argk,.int .i64 x.argn,.slice a2 l2 c2,.int .i64 x.resk,.int .i64 x.resn,.slice a3 l3 c3,.slice a4 l4 c4,.slice a5 l5 c5] 49)
 have hq:w.heap.size≠q:=by have:=lbk h.box;omega
 have hr0:=h0
 have BLW:Hid (∀ u,FrQ B q w u→Below W0.heap.size W0 u):=fun u hu=>hbl.trans (by rw[← hB];exact hu.below)
 have hR:∀ u,FrQ B q w u→RdBlock u x a1 l1 a2 l2 a3 l3 a4 l4 a5 l5∧OpsIn u:=fun u hu=>⟨h0.le (cle_below (BLW.out u hu)),hO.below (BLW.out u hu)⟩
 have e1:x.env.len=l1:=hr0.1.1;have e4:x.locs.len=l4:=hr0.2.2.2.1.1;have e5:x.code.length=l5:=hr0.2.2.2.2.1;have m1:=hr0.1.2.1;have m4:=hr0.2.2.2.1.2.1;have m5:=hr0.2.2.2.2.2.1;unfold blockV at hv;simp only[bA9,dE9,Bool.not_eq_true'] at hv;obtain ⟨⟨⟨⟨n1,n4⟩,n5⟩,n6⟩,-,hall⟩:=hv;have hs1:=tysB_len x.env;have hs4:=tysB_len x.locs;have hs2:=bytesV_len x.argk x.argn x.argf;have hs3:=bytesV_len x.resk x.resn x.resf;have hs5:=codeB_len x.code hall;have hnA:=numB_len (l1:Int);have hnB:=numB_len (l4:Int);have hnC:=numB_len (l5:Int);rw[e1] at n1 hs1;rw[e4] at n4 hs4;rw[e5] at n5 n6 hs5;have L0:Hid (BkS B q w.heap.size w (w.alloc (.cells #[.slice a1 l1 c1,.int .i64 x.argk,.int .i64 x.argn,.slice a2 l2 c2,.int .i64 x.resk,.int .i64 x.resn,.slice a3 l3 c3,.slice a4 l4 c4,.slice a5 l5 c5] 49)) v zs x a1 l1 c1 a2 l2 c2 a3 l3 c3 a4 l4 c4 a5 l5 c5):=⟨h.grown g0,FrQ.grown g0 h.size,b0⟩;have HR:Hid (∀ u,FrQ B q w u→RdBlock u x a1 l1 a2 l2 a3 l3 a4 l4 a5 l5∧OpsIn u):=hR
 have HALL:Hid ((x.code.any fun x=>!insV x)=false):=hall
 have HBB:Hid (blockB x=numB (l1:Int)++(tysB x.env++((bytesV x.argk x.argn x.argf++bytesV x.resk x.resn x.resf)++(numB (l4:Int)++(tysB x.locs++(numB (l5:Int)++codeB x.code)))))):=by show _=_;unfold blockB;rw[e1,e4,e5]
 have H0:Hid (RdBlock W0 x a1 l1 a2 l2 a3 l3 a4 l4 a5 l5∧OpsIn W0):=⟨h0,hO⟩;clear h hR hr0 g0 b0 hall e1 e4 h0 hO hbl;obtain ⟨⟨y0,y1,y2,y3,y4,y5,y6,y7,y8⟩,-⟩:=blkBlock L0.out.box;go_enter Tryz.func93,Tryz.ntmps93;go_upto_region 1 with fail;generalize w.alloc (.cells #[.slice a1 l1 c1,.int .i64 x.argk,.int .i64 x.argn,.slice a2 l2 c2,.int .i64 x.resk,.int .i64 x.resn,.slice a3 l3 c3,.slice a4 l4 c4,.slice a5 l5 c5] 49)=v0 at *;generalize w.heap.size=p3 at *;have C0:Hid _:=num1T B q _ _ ((l1:Nat):Int) v0 L0.out.wr (by (try simp only[lA]);omega);go_wp2_with fail;refine Calls.mono C0.out ?_;rintro e v1 ⟨he,vv0,hw,hf⟩;subst he;have L1:Hid (BkS B q p3 w v1 vv0 (zs++numB (l1:Int)) x a1 l1 c1 a2 l2 c2 a3 l3 c3 a4 l4 c4 a5 l5 c5):=L0.out.go hw hf hq;clear C0 hw hf L0 y0 y1 y2 y3 y4 y5 y6 y7 y8;obtain ⟨⟨y0,y1,y2,y3,y4,y5,y6,y7,y8⟩,-⟩:=blkBlock L1.out.box;simp only[];have C1:Hid _:=typesT B q _ _ x.env a1 l1 c1 v1 L1.out.wr (fun u hu=>(HR.out u (L1.out.fr.trans hu)).1.1) (by (try simp only[lA]);omega)
 go_wp2_with fail;refine Calls.mono C1.out ?_;rintro e v2 ⟨he,vv1,hw,hf⟩;subst he;have L2:Hid (BkS B q p3 w v2 vv1 ((zs++numB (l1:Int))++tysB x.env) x a1 l1 c1 a2 l2 c2 a3 l3 c3 a4 l4 c4 a5 l5 c5):=L1.out.go hw hf hq;clear C1 hw hf L1 y0 y1 y2 y3 y4 y5 y6 y7 y8;obtain ⟨⟨y0,y1,y2,y3,y4,y5,y6,y7,y8⟩,-⟩:=blkBlock L2.out.box;simp only[];have C2:Hid _:=typ2T B q _ _ x.argk x.argn x.resk x.resn x.argf x.resf a2 l2 c2 a3 l3 c3 v2 L2.out.wr (fun u hu=>⟨(HR.out u (L2.out.fr.trans hu)).1.2.1,(HR.out u (L2.out.fr.trans hu)).1.2.2.1⟩) (by (try simp only[lA]);omega);go_wp2_with fail;refine Calls.mono C2.out ?_;rintro e v3 ⟨he,vv2,hw,hf⟩;subst he;have L3:Hid (BkS B q p3 w v3 vv2 (((zs++numB (l1:Int))++tysB x.env)++(bytesV x.argk x.argn x.argf++bytesV x.resk x.resn x.resf)) x a1 l1 c1 a2 l2 c2 a3 l3 c3 a4 l4 c4 a5 l5 c5):=L2.out.go hw hf hq;clear C2 hw hf L2 y0 y1 y2 y3 y4 y5 y6 y7 y8;obtain ⟨⟨y0,y1,y2,y3,y4,y5,y6,y7,y8⟩,-⟩:=blkBlock L3.out.box
 simp only[];have C3:Hid _:=num1T B q _ _ ((l4:Nat):Int) v3 L3.out.wr (by (try simp only[lA]);omega);go_wp2_with fail;refine Calls.mono C3.out ?_;rintro e v4 ⟨he,vv3,hw,hf⟩;subst he;have L4:Hid (BkS B q p3 w v4 vv3 ((((zs++numB (l1:Int))++tysB x.env)++(bytesV x.argk x.argn x.argf++bytesV x.resk x.resn x.resf))++numB (l4:Int)) x a1 l1 c1 a2 l2 c2 a3 l3 c3 a4 l4 c4 a5 l5 c5):=L3.out.go hw hf hq;clear C3 hw hf L3 y0 y1 y2 y3 y4 y5 y6 y7 y8;obtain ⟨⟨y0,y1,y2,y3,y4,y5,y6,y7,y8⟩,-⟩:=blkBlock L4.out.box;simp only[];have C4:Hid _:=typesT B q _ _ x.locs a4 l4 c4 v4 L4.out.wr (fun u hu=>(HR.out u (L4.out.fr.trans hu)).1.2.2.2.1) (by (try simp only[lA]);omega);go_wp2_with fail;refine Calls.mono C4.out ?_;rintro e v5 ⟨he,vv4,hw,hf⟩;subst he;have L5:Hid (BkS B q p3 w v5 vv4 (((((zs++numB (l1:Int))++tysB x.env)++(bytesV x.argk x.argn x.argf++bytesV x.resk x.resn x.resf))++numB (l4:Int))++tysB x.locs) x a1 l1 c1 a2 l2 c2 a3 l3 c3 a4 l4 c4 a5 l5 c5):=L4.out.go hw hf hq
 clear C4 hw hf L4 y0 y1 y2 y3 y4 y5 y6 y7 y8;obtain ⟨⟨y0,y1,y2,y3,y4,y5,y6,y7,y8⟩,-⟩:=blkBlock L5.out.box;simp only[];have C5:Hid _:=num1T B q _ _ ((l5:Nat):Int) v5 L5.out.wr (by (try simp only[lA]);omega);go_wp2_with fail;refine Calls.mono C5.out ?_;rintro e v6 ⟨he,vv5,hw,hf⟩;subst he;have L6:Hid (BkS B q p3 w v6 vv5 ((((((zs++numB (l1:Int))++tysB x.env)++(bytesV x.argk x.argn x.argf++bytesV x.resk x.resn x.resf))++numB (l4:Int))++tysB x.locs)++numB (l5:Int)) x a1 l1 c1 a2 l2 c2 a3 l3 c3 a4 l4 c4 a5 l5 c5):=L5.out.go hw hf hq;clear C5 hw hf L5 y0 y1 y2 y3 y4 y5 y6 y7 y8;obtain ⟨⟨y0,y1,y2,y3,y4,y5,y6,y7,y8⟩,-⟩:=blkBlock L6.out.box;simp only[];obtain ⟨zz,hzz⟩:∃ zz,zz=((((((zs++numB (l1:Int))++tysB x.env)++(bytesV x.argk x.argn x.argf++bytesV x.resk x.resn x.resf))++numB (l4:Int))++tysB x.locs)++numB (l5:Int)):=⟨_,rfl⟩
 have HZZ:Hid (zz++codeB x.code=zs++blockB x):=by show _=_;rw[hzz,HBB.out];simp only[lD9]
 have hzl:zz.length+100 * l5+1000≤90000000:=by rw[hzz];simp only[lA];omega
 have L9:Hid (BkS B q p3 w v6 vv5 zz x a1 l1 c1 a2 l2 c2 a3 l3 c3 a4 l4 c4 a5 l5 c5):=by rw[hzz];exact L6.out
 clear L6 HBB hzz hs1 hs2 hs3 hs4 hs5 hnA hnB hnC;generalize v6=v9 at *;generalize vv5=vv9 at *
 obtain ⟨b,ob,rfl,hin0⟩:∃ b ob,a5=some ⟨b,ob,none⟩∧InIns W0 W0 x.code b ob:=by
  rcases H0.out.1.2.2.2.2.2.2 with h|h
  ·
   omega
  ·
   exact h
 have IN:Hid (InIns W0 W0 x.code b ob):=hin0;clear hin0;go_wp2
 go_loopw [42] (fun i wr=>∃ (j:Nat) (pre R:List RIns) (v1:Value),j≤l5∧i = .int .i64 j∧pre.length=j∧R.length+j=l5∧Hid (WrS B q wr v1 (zz++codeB pre)∧FrQ B q w wr∧pre++R=x.code∧InIns W0 W0 R b (ob+j * 5))) (fun i _=>l5 - (intOf i).toNat)
 case atStart=>exact ⟨0,[],x.code,vv9,Nat.zero_le _,rfl,rfl,by omega,by simpa [codeB] using L9.out.wr,L9.out.fr,rfl,by simpa using IN.out⟩
 case round =>
  clear L9;obtain ⟨j,pre,R,v1,hj,rfl,hpl,hRl,HQ⟩:=hrel;by_cases hlt:j < l5
  ·
   obtain ⟨y,R',rfl⟩:∃ x R',R=x::R':=by
    cases R with
    | nil=>simp at hRl;omega
    | cons x R'=>exact ⟨x,R',rfl⟩
   obtain ⟨hW,hF,hcs,⟨⟨e1,f1,g1,e2,f2,g2,⟨k0,k1,k2,k3,k4⟩,hd⟩,hR2⟩⟩:=HQ.out;rw[show ob+j * 5+5=ob+(j+1) * 5 by omega] at hR2;simp only[lB] at hRl;have cl:=cle_below (BLW.out _ hF);have k0:=cl _ _ k0;have k1:=cl _ _ k1;have k2:=cl _ _ k2;have k3:=cl _ _ k3;have k4:=cl _ _ k4
   have hy:insV y=true:=by
    have:=HALL.out;rw[← hcs] at this;simp only[List.any_append,List.any_cons,Bool.or_eq_false_iff,Bool.not_eq_false'] at this;exact this.2.1
   have hpre:(pre.any fun x=>!insV x)=false:=by
    have:=HALL.out;rw[← hcs] at this;simp only[List.any_append,Bool.or_eq_false_iff] at this;exact this.1
   have hcl:=codeB_len pre hpre;have ga:=gal wr (.cells #[.int .i64 y.op,.int .i64 y.a,.int .i64 y.b,.slice e1 f1 g1,.slice e2 f2 g2] 52) none
   have CC:Hid _:=insWT B q v1 (zz++codeB pre) y e1 f1 g1 e2 f2 g2 (wr.alloc (.cells #[.int .i64 y.op,.int .i64 y.a,.int .i64 y.b,.slice e1 f1 g1,.slice e2 f2 g2] 52)) (hW.grown ga) (fun u hu=>by
    have bl:=BLW.out u (hF.trans ((FrQ.grown ga hW.size).trans hu))
    exact ⟨hd.le (cle_below bl),H0.out.2.below bl⟩) hy (by simp only[lA];omega)
   obtain ⟨⟨z0,z1,z2,z3,z4⟩,-⟩:=blkIns (hnw wr (.cells #[.int .i64 y.op,.int .i64 y.a,.int .i64 y.b,.slice e1 f1 g1,.slice e2 f2 g2] 52));have FX:Hid (FrQ B q w (wr.alloc (.cells #[.int .i64 y.op,.int .i64 y.a,.int .i64 y.b,.slice e1 f1 g1,.slice e2 f2 g2] 52))∧(pre++[y])++R' = x.code∧InIns W0 W0 R' b (ob+(j+1) * 5)∧(zz++codeB pre)++insB y=zz++codeB (pre++[y])):=⟨hF.trans (FrQ.grown ga hW.size),by rw[lD9];exact hcs,hR2,by rw[codeB_app];simp [codeB,lD9]⟩;clear hW hF hcs hd hR2 cl ga HQ IN hpre hcl hy;go_wp2_with fail;refine Calls.mono CC.out ?_;rintro e u ⟨he,v2,hw,hf⟩;subst he;have FY:Hid (WrS B q u v2 (zz++codeB (pre++[y]))∧FrQ B q w u):=⟨by rw[← FX.out.2.2.2];exact hw,FX.out.1.trans hf⟩;clear CC hw hf k0 k1 k2 k3 k4 z0 z1 z2 z3 z4;simp only[];go_wp2;go_roundw
   case rel=>exact ⟨j+1,pre++[y],R',v2,by omega,by go_num,by simp [hpl],by omega,FY.out.1,FY.out.2,FX.out.2.1,FX.out.2.2.1⟩
   case measure=>simp [intOf];omega
  ·
   obtain rfl:j=l5:=by omega
   obtain rfl:R=[]:=lz0 (by omega);obtain ⟨hW,hF,hcs,-⟩:=HQ.out;rw[List.append_nil] at hcs;have FQ:Hid (WrS B q wr v1 (zs++blockB x)∧FrQ B q w wr):=⟨by rw[← HZZ.out,← hcs];exact hW,hF⟩;clear hW hF hcs HQ;go_wp2
   (try simp only[Exit.inBlock,Exit.then])
   refine bodyPost_end (results_noneQ (P:=Tryz.prog) Tryz.results93 _ _) rfl ?_
   first|exact ⟨rfl,v1,FQ.out.1,FQ.out.2⟩|exact ⟨rfl,⟨v1,FQ.out.1⟩,FQ.out.2⟩
def conB (f:F):List Int:=numB (f.len:Int)++tysB f
def consB:List F→List Int
 | []=>[]
 | f::r=>conB f++consB r
def layB (x:RLayout):List Int:=numB (x.cons.length:Int)++consB x.cons
def laysB:List RLayout→List Int
 | []=>[]
 | x::r=>layB x++laysB r
def blksB:List RBlock→List Int
 | []=>[]
 | x::r=>blockB x++blksB r
def progB (x:RProg):List Int:=numB (x.lays.length:Int)++(laysB x.lays++(numB (x.caps.length:Int)++(numsB x.caps++(numB (x.blks.length:Int)++blksB x.blks))))
theorem consB_app (a b:List F):consB (a++b)=consB a++consB b:=by
 induction a with
 | nil=>rfl
 | cons x r ih=>simp [consB,ih]
theorem laysB_app (a b:List RLayout):laysB (a++b)=laysB a++laysB b:=by
 induction a with
 | nil=>rfl
 | cons x r ih=>simp [laysB,ih]
theorem blksB_app (a b:List RBlock):blksB (a++b)=blksB a++blksB b:=by
 induction a with
 | nil=>rfl
 | cons x r ih=>simp [blksB,ih]
theorem conB_len {M:Nat} {f:F} (h:conV M f=true):(conB f).length≤1985:=by
 simp only[conV,bA9,dE9] at h;have:=numB_len (f.len:Int);have:=tysB_len f;simp only[conB,lA];omega
theorem consB_len {M:Nat}:∀ (l:List F),l.all (conV M)=true→(consB l).length≤1985 * l.length
 | [],_=>by simp [consB]
 | f::r,h=>by
  simp only[List.all_cons,bA9] at h;have:=conB_len h.1;have:=consB_len r h.2;simp only[consB,lA,lB];omega
theorem layB_len {M:Nat} {x:RLayout} (h:layV M x=true):(layB x).length≤9930:=by
 simp only[layV,bA9,dE9] at h;have:=numB_len (x.cons.length:Int);have:=consB_len x.cons h.2;simp only[layB,lA];omega
theorem laysB_len {M:Nat}:∀ (l:List RLayout),l.all (layV M)=true→(laysB l).length≤9930 * l.length
 | [],_=>by simp [laysB]
 | f::r,h=>by
  simp only[List.all_cons,bA9] at h;have:=layB_len h.1;have:=laysB_len r h.2;simp only[laysB,lA,lB];omega
theorem blockB_len {M:Nat} {x:RBlock} (h:blockV M x=true):(blockB x).length≤200000:=by
 unfold blockV at h;simp only[bA9,dE9,Bool.not_eq_true'] at h;obtain ⟨⟨⟨⟨n1,n4⟩,n5⟩,n6⟩,-,hall⟩:=h;have hs1:=tysB_len x.env;have hs4:=tysB_len x.locs;have hs2:=bytesV_len x.argk x.argn x.argf;have hs3:=bytesV_len x.resk x.resn x.resf;have hs5:=codeB_len x.code hall;have hnA:=numB_len (x.env.len:Int);have hnB:=numB_len (x.locs.len:Int);have hnC:=numB_len (x.code.length:Int);simp only[blockB,lA];omega
theorem blksB_len {M:Nat}:∀ (l:List RBlock),(l.any fun b=>!blockV M b)=false→(blksB l).length≤200000 * l.length
 | [],_=>by simp [blksB]
 | x::r,h=>by
  simp only[List.any_cons,Bool.or_eq_false_iff,Bool.not_eq_false'] at h;have:=blockB_len h.1;have:=blksB_len r h.2;simp only[blksB,lA,lB];omega
theorem capsR_len:∀ (zs:List Int) (p:Int),capsR false p zs=true→0≤p→p≤4→(zs.length:Int)≤4 - p
 | [],p,_,hp,hq=>by simp;omega
 | z::r,p,h,hp,hq=>by
  simp only[capsR,bA9,Bool.or_eq_true,dE9,Bool.false_eq_true,false_or] at h;have:=capsR_len r z h.2 (by omega) (by omega);simp only[lB];omega
theorem capsV_len {zs:List Int} (h:capsV zs=true):zs.length≤5:=by
 cases zs with
 | nil=>simp
 | cons z r =>
  simp only[capsV,capsR,bA9,Bool.or_eq_true,dE9,true_or,and_true] at h;have:=capsR_len r z h.2 (by omega) (by omega);simp only[lB];omega
structure PgS (B q p3:Nat) (w u:World) (v:Value) (zs:List Int) (a1:Option Addr) (l1 c1:Nat) (a2:Option Addr) (l2 c2:Nat) (a3:Option Addr) (l3 c3:Nat):Prop where
 wr:WrS B q u v zs
 fr:FrQ B q w u
 box:u.heap[p3]? = some (Obj.cells #[.slice a1 l1 c1,.slice a2 l2 c2,.slice a3 l3 c3] 27)
theorem PgS.go {B q p3:Nat} {w u u':World} {v v':Value} {zs zs':List Int} {a1 a2 a3:Option Addr} {l1 c1 l2 c2 l3 c3:Nat} (h:PgS B q p3 w u v zs a1 l1 c1 a2 l2 c2 a3 l3 c3) (hw:WrS B q u' v' zs') (hf:FrQ B q u u') (hp:p3≠q):PgS B q p3 w u' v' zs' a1 l1 c1 a2 l2 c2 a3 l3 c3 :=
 ⟨hw,h.fr.trans hf,hf.other _ _ _ _ h.box (by decide) hp⟩
theorem programWT (B q:Nat) (v:Value) (zs:List Int) (x:RProg) (a1:Option Addr) (l1 c1:Nat) (a2:Option Addr) (l2 c2:Nat) (a3:Option Addr) (l3 c3:Nat) (W0 w:World) (hB:B=W0.heap.size) (h:WrS B q w v zs) (hbl:Below W0.heap.size W0 w) (h0:RdProg W0 x a1 l1 a2 l2 a3 l3) (hO:OpsIn W0) (hv:standsV x=true) (hb:zs.length+31000000≤90000000) :
  Calls Tryz.prog 69 #[.pointer (some ⟨q,0,none⟩),.agg #[.slice a1 l1 c1,.slice a2 l2 c2,.slice a3 l3 c3]] w fun e u=>e = .returned (.tuple #[])∧∃ v',WrS B q u v' (zs++progB x)∧FrQ B q w u:=by
 have g0:=gal w (.cells #[.slice a1 l1 c1,.slice a2 l2 c2,.slice a3 l3 c3] 27) none;have b0:=hnw w (.cells #[.slice a1 l1 c1,.slice a2 l2 c2,.slice a3 l3 c3] 27)
 have hq:w.heap.size≠q:=by have:=lbk h.box;omega
 have BLW:Hid (∀ u,FrQ B q w u→Below W0.heap.size W0 u):=fun u hu=>hbl.trans (by rw[← hB];exact hu.below)
 have e1:x.lays.length=l1:=h0.1.1;have e2:x.blks.length=l2:=h0.2.1.1;have e3:x.caps.length=l3:=h0.2.2.1.1;have m1:=h0.1.2.1;have m2:=h0.2.1.2.1;have m3:=h0.2.2.2;unfold standsV laysV at hv;simp only[bA9,dE9,Bool.not_eq_true'] at hv;obtain ⟨⟨n1,n2⟩,⟨⟨n3,hlay⟩,hcap⟩,hblk⟩:=hv;rw[e1] at n3 hlay hblk;rw[e2] at n1 n2;have n5:=capsV_len hcap;rw[e3] at n5;have hnA:=numB_len (l1:Int);have hnB:=numB_len (l2:Int);have hnC:=numB_len (l3:Int);have hs1:=laysB_len x.lays hlay;have hs3:=numsB_len x.caps;rw[e1] at hs1;rw[e3] at hs3;have L0:Hid (PgS B q w.heap.size w (w.alloc (.cells #[.slice a1 l1 c1,.slice a2 l2 c2,.slice a3 l3 c3] 27)) v zs a1 l1 c1 a2 l2 c2 a3 l3 c3):=⟨h.grown g0,FrQ.grown g0 h.size,b0⟩;have H0:Hid (RdProg W0 x a1 l1 a2 l2 a3 l3∧OpsIn W0):=⟨h0,hO⟩;have HLAY:Hid (x.lays.all (layV l1)=true):=hlay;have HBLK:Hid ((x.blks.any fun b=>!blockV l1 b)=false):=hblk
 have HPB:Hid (progB x=numB (l1:Int)++(laysB x.lays++(numB (l3:Int)++(numsB x.caps++(numB (l2:Int)++blksB x.blks))))):=by show _=_;unfold progB;rw[e1,e2,e3]
 clear h h0 hO hbl g0 b0 hlay hblk hcap e3;obtain ⟨⟨y0,y1,y2⟩,-⟩:=blkProg L0.out.box;go_enter Tryz.func69,Tryz.ntmps69;go_upto_region 1 with fail;generalize w.alloc (.cells #[.slice a1 l1 c1,.slice a2 l2 c2,.slice a3 l3 c3] 27)=v0 at *;generalize w.heap.size=p3 at *;have C0:Hid _:=num1T B q _ _ ((l1:Nat):Int) v0 L0.out.wr (by omega);go_wp2_with fail;refine Calls.mono C0.out ?_;rintro e v1 ⟨he,vv0,hw,hf⟩;subst he;have L1:Hid (PgS B q p3 w v1 vv0 (zs++numB (l1:Int)) a1 l1 c1 a2 l2 c2 a3 l3 c3):=L0.out.go hw hf hq;clear C0 hw hf L0 y0 y1 y2;obtain ⟨⟨y0,y1,y2⟩,-⟩:=blkProg L1.out.box;simp only[];obtain ⟨zz,hzz⟩:∃ zz,zz=zs++numB (l1:Int):=⟨_,rfl⟩;rw[← hzz] at L1
 have hzl:zz.length+30900000≤90000000:=by rw[hzz];simp only[lA];omega
 have HLY:Hid (∀ b ob,a1=some ⟨b,ob,none⟩→0 < l1→InLayout W0 W0 x.lays b ob):=fun b ob e hp=>by
  rcases H0.out.1.1.cases with ⟨h,_⟩|⟨b',ob',h,hi,_⟩
  ·
   omega
  ·
   rw[e] at h;injection h with h;injection h with h1 h2;subst h1 h2;exact hi
 have HLA:Hid (0 < l1→∃ b ob,a1=some ⟨b,ob,none⟩):=fun hp=>by
  rcases H0.out.1.1.cases with ⟨h,_⟩|⟨b',ob',h,hi,_⟩
  ·
   omega
  ·
   exact ⟨b',ob',h⟩
 have HBY:Hid (∀ b ob,a2=some ⟨b,ob,none⟩→0 < l2→InBlock W0 W0 x.blks b ob):=fun b ob e hp=>by
  rcases H0.out.1.2.1.cases with ⟨h,_⟩|⟨b',ob',h,hi,_⟩
  ·
   omega
  ·
   rw[e] at h;injection h with h;injection h with h1 h2;subst h1 h2;exact hi
 have HBA:Hid (0 < l2→∃ b ob,a2=some ⟨b,ob,none⟩):=fun hp=>by
  rcases H0.out.1.2.1.cases with ⟨h,_⟩|⟨b',ob',h,hi,_⟩
  ·
   omega
  ·
   exact ⟨b',ob',h⟩
 go_wp2
 go_loopw [19] (fun i wr=>∃ (j:Nat) (pre R:List RLayout) (v2:Value),j≤l1∧i = .int .i64 j∧pre.length=j∧R.length+j=l1∧Hid (PgS B q p3 w wr v2 (zz++laysB pre) a1 l1 c1 a2 l2 c2 a3 l3 c3∧pre++R=x.lays∧∀ b ob,a1=some ⟨b,ob,none⟩→0 < l1→InLayout W0 W0 R b (ob+j * 1))) (fun i _=>l1 - (intOf i).toNat)
 case atStart=>exact ⟨0,[],x.lays,vv0,Nat.zero_le _,rfl,rfl,by omega,by simpa [laysB] using L1.out,rfl,fun b ob e hp=>by simpa using HLY.out b ob e hp⟩
 case round =>
  clear L1 y0 y1 y2;obtain ⟨j,pre,R,v2,hj,rfl,hpl,hRl,HQ⟩:=hrel;by_cases hlt:j < l1
  ·
   obtain ⟨y,R',rfl⟩:∃ x R',R=x::R':=by
    cases R with
    | nil=>simp at hRl;omega
    | cons x R'=>exact ⟨x,R',rfl⟩
   obtain ⟨b,ob,rfl⟩:=HLA.out (by omega);obtain ⟨hP,hcs,hin⟩:=HQ.out;obtain ⟨⟨e1',f1,g1,k0,hd⟩,hR2⟩:=hin b ob rfl (by omega);have hd':SlTys W0 e1' f1 y.cons:=hd;rw[show ob+j * 1+1=ob+(j+1) * 1 by omega] at hR2;simp only[lB] at hRl;have k0:=cle_below (BLW.out _ hP.fr) _ _ k0;simp only[Nat.mul_one] at k0
   have hally:layV l1 y=true∧pre.all (layV l1)=true:=by
    have:=HLAY.out;rw[← hcs] at this;simp only[List.all_append,List.all_cons,bA9] at this;exact ⟨this.2.1,this.1⟩
   have hpre:=laysB_len pre hally.2;have hyy:=hally.1;simp only[layV,bA9,dE9] at hyy;obtain ⟨⟨hc1,hc5⟩,hcons⟩:=hyy;have hcl:=hd'.1;rw[hcl] at hc1 hc5;have hcm:=hd'.2.1
   obtain ⟨b1,o1,rfl,hin1⟩:∃ b1 o1,e1' = some ⟨b1,o1,none⟩∧InTys W0 W0 y.cons b1 o1:=by
    rcases hd'.2.2 with h|h
    ·
     omega
    ·
     exact h
   have ga:=gal wr (.cells #[.slice (some ⟨b1,o1,none⟩) f1 g1] 42) none;have ba:=hnw wr (.cells #[.slice (some ⟨b1,o1,none⟩) f1 g1] 42)
   have hp5:wr.heap.size≠q:=by have:=lbk hP.wr.box;omega
   have M0:Hid (PgS B q p3 w (wr.alloc (.cells #[.slice (some ⟨b1,o1,none⟩) f1 g1] 42)) v2 (zz++laysB pre) (some ⟨b,ob,none⟩) l1 c1 a2 l2 c2 a3 l3 c3∧(wr.alloc (.cells #[.slice (some ⟨b1,o1,none⟩) f1 g1] 42)).heap[wr.heap.size]? = some (Obj.cells #[.slice (some ⟨b1,o1,none⟩) f1 g1] 42)):=⟨hP.go (hP.wr.grown ga) (FrQ.grown ga hP.wr.size) hq,ba⟩;have FX:Hid ((pre++[y])++R' = x.lays∧(∀ b' ob',some (⟨b,ob,none⟩:Addr)=some ⟨b',ob',none⟩→0 < l1→InLayout W0 W0 R' b' (ob' + (j+1) * 1))∧(zz++laysB pre)++(numB (f1:Int)++consB y.cons)=zz++laysB (pre++[y])):=⟨by rw[lD9];exact hcs,fun b' ob' e _=>by injection e with e;injection e with h1 h2;subst h1 h2;exact hR2,by rw[laysB_app];simp [laysB,layB,hcl,lD9]⟩;have I1:Hid (InTys W0 W0 y.cons b1 o1∧y.cons.all (conV l1)=true):=⟨hin1,hcons⟩;obtain x0:=(blkLayout ba).1;have hnf:=numB_len (f1:Int);clear hP hcs hin hd hd' hR2 HQ ga ba hin1 hcons hally;go_upto_region 5 with fail
   clear k0;generalize wr.alloc (.cells #[.slice (some ⟨b1,o1,none⟩) f1 g1] 42)=t0 at *;generalize wr.heap.size=p5 at *;have C1:Hid _:=num1T B q _ _ ((f1:Nat):Int) t0 M0.out.1.wr (by simp only[lA];omega);go_wp2_with fail;refine Calls.mono C1.out ?_;rintro e t1 ⟨he,v3,hw,hf⟩;subst he;have M1:Hid (PgS B q p3 w t1 v3 ((zz++laysB pre)++numB (f1:Int)) (some ⟨b,ob,none⟩) l1 c1 a2 l2 c2 a3 l3 c3∧t1.heap[p5]? = some (Obj.cells #[.slice (some ⟨b1,o1,none⟩) f1 g1] 42)):=⟨M0.out.1.go hw hf hq,hf.other _ _ _ _ M0.out.2 (by decide) hp5⟩;clear C1 hw hf M0 x0;obtain x0:=(blkLayout M1.out.2).1;obtain ⟨zy,hzy⟩:∃ zy,zy=(zz++laysB pre)++numB (f1:Int):=⟨_,rfl⟩;rw[← hzy] at M1
   have hzyl:zy.length+10000≤90000000:=by rw[hzy];simp only[lA];omega
   have HZY:Hid (zy++consB y.cons=zz++laysB (pre++[y])):=by show _=_;rw[hzy,← FX.out.2.2];simp only[lD9]
   clear hzy;simp only[];go_wp2
   go_loopw [32] (fun i ww=>∃ (m:Nat) (P2 Q:List F) (v4:Value),m≤f1∧i = .int .i64 m∧P2.length=m∧Q.length+m=f1∧Hid (PgS B q p3 w ww v4 (zy++consB P2) (some ⟨b,ob,none⟩) l1 c1 a2 l2 c2 a3 l3 c3∧P2++Q=y.cons∧InTys W0 W0 Q b1 (o1+m * 1))) (fun i _=>f1 - (intOf i).toNat)
   case atStart=>exact ⟨0,[],y.cons,v3,Nat.zero_le _,rfl,rfl,by omega,by simpa [consB] using M1.out.1,rfl,by simpa using I1.out.1⟩
   case round =>
    clear M1 x0;obtain ⟨m,P2,Q,v4,hm,rfl,hml,hQl,HQ2⟩:=hrel;by_cases hlt2:m < f1
    ·
     obtain ⟨f,Q',rfl⟩:∃ x R',Q=x::R':=by
      cases Q with
      | nil=>simp at hQl;omega
      | cons x R'=>exact ⟨x,R',rfl⟩
     obtain ⟨hP,hcs,⟨⟨e2',f2,g2,k0,hd⟩,hQ2⟩⟩:=HQ2.out;rw[show o1+m * 1+1=o1+(m+1) * 1 by omega] at hQ2;simp only[lB] at hQl;have k0:=cle_below (BLW.out _ hP.fr) _ _ k0;simp only[Nat.mul_one] at k0
     have hallf:conV l1 f=true∧P2.all (conV l1)=true:=by
      have:=I1.out.2;rw[← hcs] at this;simp only[List.all_append,List.all_cons,bA9] at this;exact ⟨this.2.1,this.1⟩
     have hpre2:=consB_len P2 hallf.2;have hff:=hallf.1;simp only[conV,bA9,dE9] at hff;have hfl:=hd.1;have hfm:=hd.2.1;have hf3:=hff.1;rw[hfl] at hf3;have hnf2:=numB_len (f2:Int);have FY:Hid ((P2++[f])++Q' = y.cons∧InTys W0 W0 Q' b1 (o1+(m+1) * 1)∧(zy++consB P2)++(numB (f2:Int)++tysB f)=zy++consB (P2++[f])∧SlF W0 e2' f2 f):=⟨by rw[lD9];exact hcs,hQ2,by rw[consB_app];simp [consB,conB,hfl,lD9],hd⟩;have N0:Hid (PgS B q p3 w wr v4 (zy++consB P2) (some ⟨b,ob,none⟩) l1 c1 a2 l2 c2 a3 l3 c3):=hP;clear hP hcs hd hQ2 HQ2 hallf hff;have C2:Hid _:=num1T B q _ _ ((f2:Nat):Int) wr N0.out.wr (by simp only[lA];omega);go_wp2_with fail;refine Calls.mono C2.out ?_;rintro e t2 ⟨he,v5,hw,hf⟩;subst he;have N1:Hid (PgS B q p3 w t2 v5 ((zy++consB P2)++numB (f2:Int)) (some ⟨b,ob,none⟩) l1 c1 a2 l2 c2 a3 l3 c3):=N0.out.go hw hf hq;clear C2 hw hf N0 k0;simp only[];have C3:Hid _:=typesT B q _ _ f e2' f2 g2 t2 N1.out.wr (fun u hu=>FY.out.2.2.2.le (cle_below (BLW.out u (N1.out.fr.trans hu)))) (by simp only[lA];omega)
     go_wp2_with fail;refine Calls.mono C3.out ?_;rintro e t3 ⟨he,v6,hw,hf⟩;subst he
     have N2:Hid (PgS B q p3 w t3 v6 (zy++consB (P2++[f])) (some ⟨b,ob,none⟩) l1 c1 a2 l2 c2 a3 l3 c3):=by
      have:=N1.out.go hw hf hq;rw[lD9,FY.out.2.2.1] at this;exact this
     clear C3 hw hf N1;simp only[];go_wp2;go_roundw
     case rel=>exact ⟨m+1,P2++[f],Q',v6,by omega,by go_num,by simp [hml],by omega,N2.out,FY.out.1,FY.out.2.1⟩
     case measure=>simp [intOf];omega
    ·
     obtain rfl:m=f1:=by omega
     obtain rfl:Q=[]:=lz0 (by omega);obtain ⟨hP,hcs,-⟩:=HQ2.out;rw[List.append_nil] at hcs
     have FZ:Hid (PgS B q p3 w wr v4 (zz++laysB (pre++[y])) (some ⟨b,ob,none⟩) l1 c1 a2 l2 c2 a3 l3 c3):=by rw[← HZY.out,← hcs];exact hP
     clear hP hcs HQ2;go_wp2;go_roundw
     case rel=>exact ⟨j+1,pre++[y],R',v4,by omega,by go_num,by simp [hpl],by omega,FZ.out,FX.out.1,FX.out.2.1⟩
     case measure=>simp [intOf];omega
  ·
   obtain rfl:j=l1:=by omega
   obtain rfl:R=[]:=lz0 (by omega);obtain ⟨hP,hcs,-⟩:=HQ.out;rw[List.append_nil] at hcs;have hpl':pre.length=j:=hpl;rw[hcs] at hP;have K0:Hid (PgS B q p3 w wr v2 (zz++laysB x.lays) a1 j c1 a2 l2 c2 a3 l3 c3):=hP;clear hP HQ hcs hpl hpl';obtain ⟨⟨y0,y1,y2⟩,-⟩:=blkProg K0.out.box;have D0:Hid _:=num1T B q _ _ ((l3:Nat):Int) wr K0.out.wr (by simp only[lA];omega);go_wp2_with fail;refine Calls.mono D0.out ?_;rintro e s1 ⟨he,x1,hw,hf⟩;subst he;have K1:Hid (PgS B q p3 w s1 x1 ((zz++laysB x.lays)++numB (l3:Int)) a1 j c1 a2 l2 c2 a3 l3 c3):=K0.out.go hw hf hq;clear D0 hw hf K0 y0 y1 y2;obtain ⟨⟨y0,y1,y2⟩,-⟩:=blkProg K1.out.box;simp only[];have D1:Hid _:=numsT B q _ _ x.caps a3 l3 c3 s1 K1.out.wr (fun u hu=>H0.out.1.2.2.le (cle_below (BLW.out u (K1.out.fr.trans hu)))) (by simp only[lA];omega);go_wp2_with fail;refine Calls.mono D1.out ?_;rintro e s2 ⟨he,x2,hw,hf⟩;subst he;have K2:Hid (PgS B q p3 w s2 x2 (((zz++laysB x.lays)++numB (l3:Int))++numsB x.caps) a1 j c1 a2 l2 c2 a3 l3 c3):=K1.out.go hw hf hq
   clear D1 hw hf K1 y0 y1 y2;obtain ⟨⟨y0,y1,y2⟩,-⟩:=blkProg K2.out.box;simp only[];have D2:Hid _:=num1T B q _ _ ((l2:Nat):Int) s2 K2.out.wr (by simp only[lA];omega);go_wp2_with fail;refine Calls.mono D2.out ?_;rintro e s3 ⟨he,x3,hw,hf⟩;subst he;have K3:Hid (PgS B q p3 w s3 x3 ((((zz++laysB x.lays)++numB (l3:Int))++numsB x.caps)++numB (l2:Int)) a1 j c1 a2 l2 c2 a3 l3 c3):=K2.out.go hw hf hq;clear D2 hw hf K2 y0 y1 y2;obtain ⟨⟨y0,y1,y2⟩,-⟩:=blkProg K3.out.box;simp only[];obtain ⟨zt,hzt⟩:∃ zt,zt=((((zz++laysB x.lays)++numB (l3:Int))++numsB x.caps)++numB (l2:Int)):=⟨_,rfl⟩;rw[← hzt] at K3
   have hztl:zt.length+30200000≤90000000:=by rw[hzt];simp only[lA];rw[hzz];simp only[lA];omega
   have HZT:Hid (zt++blksB x.blks=zs++progB x):=by show _=_;rw[hzt,hzz,HPB.out];simp only[lD9]
   clear hzt HPB;go_wp2
   go_loopw [65] (fun i ww=>∃ (m:Nat) (P2 Q:List RBlock) (v4:Value),m≤l2∧i = .int .i64 m∧P2.length=m∧Q.length+m=l2∧Hid (PgS B q p3 w ww v4 (zt++blksB P2) a1 j c1 a2 l2 c2 a3 l3 c3∧P2++Q=x.blks∧∀ b ob,a2=some ⟨b,ob,none⟩→0 < l2→InBlock W0 W0 Q b (ob+m * 9))) (fun i _=>l2 - (intOf i).toNat)
   case atStart=>exact ⟨0,[],x.blks,x3,Nat.zero_le _,rfl,rfl,by omega,by simpa [blksB] using K3.out,rfl,fun b ob e hp=>by simpa using HBY.out b ob e hp⟩
   case round =>
    clear K3 y0 y1 y2;obtain ⟨m,P2,Q,v4,hm,rfl,hml,hQl,HQ2⟩:=hrel;by_cases hlt2:m < l2
    ·
     obtain ⟨y,Q',rfl⟩:∃ x R',Q=x::R':=by
      cases Q with
      | nil=>simp at hQl;omega
      | cons x R'=>exact ⟨x,R',rfl⟩
     obtain ⟨b,ob,rfl⟩:=HBA.out (by omega);obtain ⟨hP,hcs,hin⟩:=HQ2.out;obtain ⟨⟨e1',f1,g1,e2',f2,g2,e3',f3,g3,e4',f4,g4,e5',f5,g5,⟨k0,k1,k2,k3,k4,k5,k6,k7,k8⟩,hd⟩,hQ2⟩:=hin b ob rfl (by omega);rw[show ob+m * 9+9=ob+(m+1) * 9 by omega] at hQ2;simp only[lB] at hQl;have cl:=cle_below (BLW.out _ hP.fr);have k0:=cl _ _ k0;have k1:=cl _ _ k1;have k2:=cl _ _ k2;have k3:=cl _ _ k3;have k4:=cl _ _ k4;have k5:=cl _ _ k5;have k6:=cl _ _ k6;have k7:=cl _ _ k7;have k8:=cl _ _ k8
     have hally:blockV j y=true∧(P2.any fun b=>!blockV j b)=false:=by
      have:=HBLK.out;rw[← hcs] at this;simp only[List.any_append,List.any_cons,Bool.or_eq_false_iff,Bool.not_eq_false'] at this;exact ⟨this.2.1,this.1⟩
     have hpre2:=blksB_len P2 hally.2;have ga:=gal wr (.cells #[.slice e1' f1 g1,.int .i64 y.argk,.int .i64 y.argn,.slice e2' f2 g2,.int .i64 y.resk,.int .i64 y.resn,.slice e3' f3 g3,.slice e4' f4 g4,.slice e5' f5 g5] 49) none;have CC:Hid _:=blockWT B q v4 (zt++blksB P2) y e1' f1 g1 e2' f2 g2 e3' f3 g3 e4' f4 g4 e5' f5 g5 j W0 (wr.alloc (.cells #[.slice e1' f1 g1,.int .i64 y.argk,.int .i64 y.argn,.slice e2' f2 g2,.int .i64 y.resk,.int .i64 y.resn,.slice e3' f3 g3,.slice e4' f4 g4,.slice e5' f5 g5] 49)) hB (hP.wr.grown ga) ((BLW.out _ hP.fr).trans (by rw[← hB];exact (FrQ.grown (q:=q) ga hP.wr.size).below)) hd H0.out.2 hally.1 (by simp only[lA];omega);obtain ⟨⟨z0,z1,z2,z3,z4,z5,z6,z7,z8⟩,-⟩:=blkBlock (hnw wr (.cells #[.slice e1' f1 g1,.int .i64 y.argk,.int .i64 y.argn,.slice e2' f2 g2,.int .i64 y.resk,.int .i64 y.resn,.slice e3' f3 g3,.slice e4' f4 g4,.slice e5' f5 g5] 49));have N0:Hid (PgS B q p3 w (wr.alloc (.cells #[.slice e1' f1 g1,.int .i64 y.argk,.int .i64 y.argn,.slice e2' f2 g2,.int .i64 y.resk,.int .i64 y.resn,.slice e3' f3 g3,.slice e4' f4 g4,.slice e5' f5 g5] 49)) v4 (zt++blksB P2) a1 j c1 (some ⟨b,ob,none⟩) l2 c2 a3 l3 c3):=hP.go (hP.wr.grown ga) (FrQ.grown ga hP.wr.size) hq
     have FX:Hid ((P2++[y])++Q' = x.blks∧(∀ b' ob',some (⟨b,ob,none⟩:Addr)=some ⟨b',ob',none⟩→0 < l2→InBlock W0 W0 Q' b' (ob' + (m+1) * 9))∧(zt++blksB P2)++blockB y=zt++blksB (P2++[y])):=⟨by rw[lD9];exact hcs,fun b' ob' e _=>by injection e with e;injection e with h1 h2;subst h1 h2;exact hQ2,by rw[blksB_app];simp [blksB,lD9]⟩;clear hP hcs hin hd hQ2 HQ2 cl ga hally;go_wp2_with fail;refine Calls.mono CC.out ?_;rintro e t3 ⟨he,v6,hw,hf⟩;subst he
     have N2:Hid (PgS B q p3 w t3 v6 (zt++blksB (P2++[y])) a1 j c1 (some ⟨b,ob,none⟩) l2 c2 a3 l3 c3):=by rw[← FX.out.2.2];exact N0.out.go hw hf hq
     clear CC hw hf N0 k0 k1 k2 k3 k4 k5 k6 k7 k8 z0 z1 z2 z3 z4 z5 z6 z7 z8;simp only[];go_wp2;go_roundw
     case rel=>exact ⟨m+1,P2++[y],Q',v6,by omega,by go_num,by simp [hml],by omega,N2.out,FX.out.1,FX.out.2.1⟩
     case measure=>simp [intOf];omega
    ·
     obtain rfl:m=l2:=by omega
     obtain rfl:Q=[]:=lz0 (by omega);obtain ⟨hP,hcs,-⟩:=HQ2.out;rw[List.append_nil] at hcs;rw[hcs] at hP;have FQ:Hid (WrS B q wr v4 (zs++progB x)∧FrQ B q w wr):=⟨by rw[← HZT.out];exact hP.wr,hP.fr⟩;clear hP hcs HQ2;go_wp2
     (try simp only[Exit.inBlock,Exit.then])
     refine bodyPost_end (results_noneQ (P:=Tryz.prog) Tryz.results69 _ _) rfl ?_
     first|exact ⟨rfl,v4,FQ.out.1,FQ.out.2⟩|exact ⟨rfl,⟨v4,FQ.out.1⟩,FQ.out.2⟩
end Go.Proofs.YtnmlbeefjjohfaaGreatDoor.By
