/-
  No statement is proved here.
-/
import Derived.Test.YtnmlbeefjjohfaaGreatDoorICbAlsoSh
import Derived.Test.YtnmlbeefjjohfaaGreatDoorPAAlsoSh
namespace Go.Proofs.YtnmlbeefjjohfaaGreatDoor.By
set_option maxRecDepth 100000
set_option maxHeartbeats 16000000
open Go.RowKit
set_option linter.unusedVariables false
set_option linter.unusedSimpArgs false
theorem isNoInsT (x:RIns) (a1:Option Addr) (l1 c1:Nat) (a2:Option Addr) (l2 c2:Nat) (w:World) (h:RdIns w x a1 l1 a2 l2) (hF:OpsIn w) :
  Calls Tryz.prog 102 #[.agg #[.int .i64 x.op,.int .i64 x.a,.int .i64 x.b,.slice a1 l1 c1,.slice a2 l2 c2]] w fun e u=>e = .returned (.bool (!insV x))∧w.grownBy u none:=by
 have g0:=gal w (.cells #[.int .i64 x.op,.int .i64 x.a,.int .i64 x.b,.slice a1 l1 c1,.slice a2 l2 c2] 52) none;have b0:=hnw w (.cells #[.int .i64 x.op,.int .i64 x.a,.int .i64 x.b,.slice a1 l1 c1,.slice a2 l2 c2] 52);have C0:Hid _:=implInsT x a1 l1 c1 a2 l2 c2 (w.alloc (.cells #[.int .i64 x.op,.int .i64 x.a,.int .i64 x.b,.slice a1 l1 c1,.slice a2 l2 c2] 52)) (h.none g0) (hF.none g0);have G0:Hid _:=g0;obtain ⟨⟨y0,y1,y2,y3,y4⟩,-⟩:=blkIns b0;clear h hF g0 b0;go_enter Tryz.func102,Tryz.ntmps102;go_wp2_with fail;refine Calls.mono C0.out ?_;rintro e u ⟨he,hg⟩;subst he;have G1:Hid (w.grownBy u none):=gtr G0.out hg;clear C0 hg G0 y0 y1 y2 y3 y4;simp only[];go_wp2;go_ret;exact ⟨rfl,G1.out⟩
theorem indexNn (xs:List RIns) (a:Option Addr) (l c:Nat) (w:World) (h:SlIns w a l xs) (hC:OpsIn w) :
  Calls Tryz.prog 108 #[.slice a l c,.func (.func 102) #[] #[]] w fun e u=>(∃ r:Int,e = .returned (.int .i64 r)∧AtP (xs.any fun x=>!insV x) r)∧w.grownBy u none:=by
 have hl:=h.2.1;have hfl:=h.1;rcases h.cases with ⟨rfl,rfl⟩|⟨b,o,rfl,hin,hpos⟩
 ·
  go_enter Tryz.func108,Tryz.ntmps108;go_wp2;refine wp_loop_rounds 1 ?_;rw[rounds_succ];go_wp2;go_ret;exact ⟨⟨-1,rfl,by unfold AtP;exact rfl⟩,grf _ _⟩
 have IN:Hid (InIns w w xs b o):=hin;have HC:Hid (OpsIn w):=hC;clear hin h hC;go_enter Tryz.func108,Tryz.ntmps108;go_wp2
 go_loopw [8] (fun i wr=>∃ (j:Nat) (R:List RIns),j≤l∧i = .int .i64 j∧R.length+j=l∧Hid (w.grownBy wr none∧InIns w w R b (o+j * 5)∧(xs.any fun x=>!insV x)=R.any fun x=>!insV x)) (fun i _=>l - (intOf i).toNat)
 case atStart=>exact ⟨0,xs,Nat.zero_le _,rfl,by omega,grf _ _,by simpa using IN.out,rfl⟩
 case round =>
  obtain ⟨j,R,hj,rfl,hRl,HR⟩:=hrel;by_cases hlt:j < l
  ·
   obtain ⟨x,R',rfl⟩:∃ x R',R=x::R':=by
    cases R with
    | nil=>simp at hRl;omega
    | cons x R'=>exact ⟨x,R',rfl⟩
   obtain ⟨hg,⟨⟨a1,l1,c1,a2,l2,c2,⟨k0,k1,k2,k3,k4⟩,hd⟩,hR2⟩,hv⟩:=HR.out;rw[show o+j * 5+5=o+(j+1) * 5 by omega] at hR2;simp only[List.any_cons] at hv;simp only[lB] at hRl;have k0:=hg.cell k0 (by simp);have k1:=hg.cell k1 (by simp);have k2:=hg.cell k2 (by simp);have k3:=hg.cell k3 (by simp);have k4:=hg.cell k4 (by simp);have CC:Hid _:=isNoInsT x a1 l1 c1 a2 l2 c2 wr (hd.none hg) (HC.out.none hg);have FX:Hid (w.grownBy wr none∧InIns w w R' b (o+(j+1) * 5)∧(xs.any fun x=>!insV x)=((!insV x) || R'.any fun x=>!insV x)):=⟨hg,hR2,hv⟩;clear hg hv hd hR2 HR IN;go_wp2_with fail;refine Calls.mono CC.out ?_;rintro e v ⟨he,hgv⟩;subst he;have FY:Hid (w.grownBy v none):=gtr FX.out.1 hgv;clear CC hgv k0 k1 k2 k3 k4;simp only[]
   cases hq:(!insV x) with
   | true =>
    have E2:Hid ((xs.any fun x=>!insV x)=true):=by show _=_;rw[FX.out.2.2,hq];rfl
    clear hq;go_wp2;go_ret;exact ⟨⟨(j:Int),rfl,by unfold AtP;rw[E2.out];show 0≤(j:Int);omega⟩,FY.out⟩
   | false =>
    have E2:Hid ((xs.any fun x=>!insV x)=R'.any fun x=>!insV x):=by show _=_;rw[FX.out.2.2,hq];rfl
    clear hq;go_wp2;go_roundw
    case rel=>exact ⟨j+1,R',by omega,by go_num,by omega,FY.out,FX.out.2.1,E2.out⟩
    case measure=>simp [intOf];omega
  ·
   obtain rfl:j=l:=by omega
   obtain rfl:R=[]:=lz0 (by omega);have E2:Hid ((xs.any fun x=>!insV x)=false∧w.grownBy wr none):=⟨HR.out.2.2,HR.out.1⟩;clear HR IN;go_wp2;go_ret;exact ⟨⟨-1,rfl,by unfold AtP;rw[E2.out.1,if_neg (by simp)]⟩,E2.out.2⟩
theorem containsNn (xs:List RIns) (a:Option Addr) (l c:Nat) (w:World) (h:SlIns w a l xs) (hC:OpsIn w) :
  Calls Tryz.prog 101 #[.slice a l c,.func (.func 102) #[] #[]] w fun e u=>e = .returned (.bool (xs.any fun x=>!insV x))∧w.grownBy u none:=by
 have CC:Hid _:=indexNn xs a l c w h hC;clear h hC;go_enter Tryz.func101,Tryz.ntmps101;go_wp2_with fail;refine Calls.mono CC.out ?_;rintro e u ⟨⟨r,rfl,hr⟩,hg⟩;have G:Hid (w.grownBy u none):=hg;clear hg CC;unfold AtP at hr;simp only[]
 cases hb:(xs.any fun x=>!insV x) with
 | true =>
  rw[hb,if_pos rfl] at hr;go_wp2;go_ret;refine ⟨?_,G.out⟩;rw[hb]
  first|rfl | (simp;done) | (simp;omega)
 | false =>
  rw[hb,if_neg (by simp)] at hr;subst hr;go_wp2;go_ret;refine ⟨?_,G.out⟩;rw[hb]
  first|rfl | (simp;done)
theorem tyMadeT (k:Int) (v:Option Addr) (l c:Nat) (w:World) :
  Calls Tryz.prog 100 #[.int .i64 k,.slice v l c] w fun e u=>e = .returned (.agg #[.int .i64 k,.int .i64 0,.slice v l c])∧w.grownBy u none:=by
 have b0:=hnw w (.cells #[.int .i64 0,.int .i64 0,.slice none 0 0] 46);have g0:=gal w (.cells #[.int .i64 0,.int .i64 0,.slice none 0 0] 46) none;obtain ⟨⟨y0,y1,y2⟩,f0,f1,f2⟩:=three b0;have m2:((((w.alloc (.cells #[.int .i64 0,.int .i64 0,.slice none 0 0] 46)).setCell ⟨w.heap.size,0,none⟩ (.int .i64 k)).setCell ⟨w.heap.size,1,none⟩ (.int .i64 0)).setCell ⟨w.heap.size,2,none⟩ (.slice v l c)).heap[w.heap.size]? = some (Obj.cells #[.int .i64 k,.int .i64 0,.slice v l c] 46):=hsm _ _ 2 _ _ (.slice v l c) (hsm _ _ 1 _ _ (.int .i64 0) (hsm _ _ 0 _ _ (.int .i64 k) b0));have kk:=gtr (gtr (gsc (w.alloc (.cells #[.int .i64 0,.int .i64 0,.slice none 0 0] 46)) w.heap.size 0 (.int .i64 k)) (gsc _ w.heap.size 1 (.int .i64 0))) (gsc _ w.heap.size 2 (.slice v l c));have FQ:Hid _:=And.intro m2 (grown_into g0 kk (Nat.le_refl _));clear m2 kk g0 b0;go_enter Tryz.func100,Tryz.ntmps100;go_upto_region 1 with fail
 generalize w.alloc (.cells #[.int .i64 0,.int .i64 0,.slice none 0 0] 46)=w0 at *;generalize w.heap.size=p at *;go_wp2
 (try simp only[Exit.inBlock,Exit.then])
 refine bodyPost_ret (results_cell_row (P:=Tryz.prog) Tryz.results100 _ _ p _ _ _ _ rfl FQ.out.1 Tryz.underlying46 rfl (by kernel_rfl)) rfl ?_;exact ⟨rfl,FQ.out.2⟩
def blockV (M:Nat) (x:RBlock):Bool:=decide (x.env.len≤60) && decide (x.locs.len≤60) && decide (1≤x.code.length) && decide (x.code.length≤1000) && (lwF M (.cons 4 0 (.cons x.argk x.argn x.argf (.cons x.resk x.resn x.resf .nil)) .nil) && lwF M x.env && lwF M x.locs && !x.code.any fun x=>!insV x)
theorem blockOkT (x:RBlock) (a1:Option Addr) (l1 c1:Nat) (a2:Option Addr) (l2 c2:Nat) (a3:Option Addr) (l3 c3:Nat) (a4:Option Addr) (l4 c4:Nat) (a5:Option Addr) (l5 c5:Nat) (M:Nat) (w:World) (h:RdBlock w x a1 l1 a2 l2 a3 l3 a4 l4 a5 l5) (hF:OpsIn w) (hM:M≤4194304) :
  Calls Tryz.prog 90 #[.agg #[.slice a1 l1 c1,.int .i64 x.argk,.int .i64 x.argn,.slice a2 l2 c2,.int .i64 x.resk,.int .i64 x.resn,.slice a3 l3 c3,.slice a4 l4 c4,.slice a5 l5 c5],.int .i64 (M:Int)] w fun e u=>e = .returned (.bool (blockV M x))∧w.grownBy u none:=by
 have g0:=gal w (.cells #[.slice a1 l1 c1,.int .i64 x.argk,.int .i64 x.argn,.slice a2 l2 c2,.int .i64 x.resk,.int .i64 x.resn,.slice a3 l3 c3,.slice a4 l4 c4,.slice a5 l5 c5] 49) none;have b0:=hnw w (.cells #[.slice a1 l1 c1,.int .i64 x.argk,.int .i64 x.argn,.slice a2 l2 c2,.int .i64 x.resk,.int .i64 x.resn,.slice a3 l3 c3,.slice a4 l4 c4,.slice a5 l5 c5] 49)
 have HS:Hid (∀ u,w.grownBy u none→RdBlock u x a1 l1 a2 l2 a3 l3 a4 l4 a5 l5∧OpsIn u):=fun u hu=>⟨h.none hu,hF.none hu⟩
 have L0:Hid (w.grownBy _ none∧_=some (Obj.cells #[.slice a1 l1 c1,.int .i64 x.argk,.int .i64 x.argn,.slice a2 l2 c2,.int .i64 x.resk,.int .i64 x.resn,.slice a3 l3 c3,.slice a4 l4 c4,.slice a5 l5 c5] 49)):=⟨g0,b0⟩;have e1:x.env.len=l1:=h.1.1;have e4:x.locs.len=l4:=h.2.2.2.1.1;have e5:x.code.length=l5:=h.2.2.2.2.1;have m1:=h.1.2.1;have m4:=h.2.2.2.1.2.1;have m5:=h.2.2.2.2.2.1
 have HV:Hid (blockV M x=(decide (l1≤60) && decide (l4≤60) && decide (1≤l5) && decide (l5≤1000) && (lwF M (.cons 4 0 (.cons x.argk x.argn x.argf (.cons x.resk x.resn x.resf .nil)) .nil) && lwF M x.env && lwF M x.locs && !x.code.any fun x=>!insV x))):=by show _=_;unfold blockV;rw[e1,e4,e5]
 obtain ⟨⟨y0,y1,y2,y3,y4,y5,y6,y7,y8⟩,-⟩:=blkBlock b0;clear h hF g0 b0 e1 e4 e5;go_enter Tryz.func90,Tryz.ntmps90;go_upto_region 1 with fail;generalize w.alloc (.cells #[.slice a1 l1 c1,.int .i64 x.argk,.int .i64 x.argn,.slice a2 l2 c2,.int .i64 x.resk,.int .i64 x.resn,.slice a3 l3 c3,.slice a4 l4 c4,.slice a5 l5 c5] 49)=w0 at *;generalize w.heap.size=p0 at *;by_cases q1:60 < l1
 ·
  have q1':(l1:Int) > 60:=by omega
  have E:Hid (blockV M x=false):=by
   show _=_
   have:decide (l1≤60)=false:=by simp;omega
   rw[HV.out,this];simp
  go_wp2;go_ret;exact ⟨by rw[E.out];rfl,L0.out.1⟩
 have q1':¬ (l1:Int) > 60:=by omega
 have q1t:decide (l1≤60)=true:=by simp;omega
 by_cases q4:60 < l4
 ·
  have q4':(l4:Int) > 60:=by omega
  have E:Hid (blockV M x=false):=by
   show _=_
   have:decide (l4≤60)=false:=by simp;omega
   rw[HV.out,this];simp
  go_wp2;go_ret;exact ⟨by rw[E.out];rfl,L0.out.1⟩
 have q4':¬ (l4:Int) > 60:=by omega
 have q4t:decide (l4≤60)=true:=by simp;omega
 by_cases q5:l5 < 1
 ·
  have q5':(l5:Int) < 1:=by omega
  have E:Hid (blockV M x=false):=by
   show _=_
   have:decide (1≤l5)=false:=by simp;omega
   rw[HV.out,this];simp
  go_wp2;go_ret;exact ⟨by rw[E.out];rfl,L0.out.1⟩
 have q5':¬ (l5:Int) < 1:=by omega
 have q5t:decide (1≤l5)=true:=by simp;omega
 by_cases q6:1000 < l5
 ·
  have q6':(l5:Int) > 1000:=by omega
  have E:Hid (blockV M x=false):=by
   show _=_
   have:decide (l5≤1000)=false:=by simp;omega
   rw[HV.out,this];simp
  go_wp2;go_ret;exact ⟨by rw[E.out];rfl,L0.out.1⟩
 have q6':¬ (l5:Int) > 1000:=by omega
 have q6t:decide (l5≤1000)=true:=by simp;omega
 have HW:Hid (blockV M x=(lwF M (.cons 4 0 (.cons x.argk x.argn x.argf (.cons x.resk x.resn x.resf .nil)) .nil) && lwF M x.env && lwF M x.locs && !x.code.any fun x=>!insV x)):=by show _=_;rw[HV.out,q1t,q4t,q5t,q6t];rfl
 clear HV q1t q4t q5t q6t;have ga:=gal w0 (.cells #[.int .i64 x.argk,.int .i64 x.argn,.slice a2 l2 c2,.int .i64 x.resk,.int .i64 x.resn,.slice a3 l3 c3] 46) none;have ba:=hnw w0 (.cells #[.int .i64 x.argk,.int .i64 x.argn,.slice a2 l2 c2,.int .i64 x.resk,.int .i64 x.resn,.slice a3 l3 c3] 46);have C1:Hid _:=tyMadeT 4 (some ⟨w0.heap.size,0,none⟩) 2 2 (w0.alloc (.cells #[.int .i64 x.argk,.int .i64 x.argn,.slice a2 l2 c2,.int .i64 x.resk,.int .i64 x.resn,.slice a3 l3 c3] 46));have L1:Hid (w.grownBy _ none∧_=some (Obj.cells #[.slice a1 l1 c1,.int .i64 x.argk,.int .i64 x.argn,.slice a2 l2 c2,.int .i64 x.resk,.int .i64 x.resn,.slice a3 l3 c3,.slice a4 l4 c4,.slice a5 l5 c5] 49)∧_=some (Obj.cells #[.int .i64 x.argk,.int .i64 x.argn,.slice a2 l2 c2,.int .i64 x.resk,.int .i64 x.resn,.slice a3 l3 c3] 46)):=⟨gtr L0.out.1 ga,(ga.block _ (lbk L0.out.2) (by simp)).trans L0.out.2,ba⟩;clear L0 ga ba;go_wp2_with fail
 refine Calls.mono C1.out ?_;rintro e u1 ⟨he,hg⟩;subst he;have L2:Hid (w.grownBy u1 none∧u1.heap[p0]? = some (Obj.cells #[.slice a1 l1 c1,.int .i64 x.argk,.int .i64 x.argn,.slice a2 l2 c2,.int .i64 x.resk,.int .i64 x.resn,.slice a3 l3 c3,.slice a4 l4 c4,.slice a5 l5 c5] 49)∧u1.heap[w0.heap.size]? = some (Obj.cells #[.int .i64 x.argk,.int .i64 x.argn,.slice a2 l2 c2,.int .i64 x.resk,.int .i64 x.resn,.slice a3 l3 c3] 46)):=⟨gtr L1.out.1 hg,(hg.block _ (lbk L1.out.2.1) (by simp)).trans L1.out.2.1,(hg.block _ (lbk L1.out.2.2) (by simp)).trans L1.out.2.2⟩;clear C1 L1 hg y0 y1 y2 y3 y4 y5 y6 y7 y8;generalize w0.heap.size=p1 at *;simp only[];have ga:=gal u1 (.cells #[.int .i64 4,.int .i64 0,.slice (some ⟨p1,0,none⟩) 2 2] 46) none;have ba:=hnw u1 (.cells #[.int .i64 4,.int .i64 0,.slice (some ⟨p1,0,none⟩) 2 2] 46);have L3:Hid (w.grownBy _ none∧_=some (Obj.cells #[.slice a1 l1 c1,.int .i64 x.argk,.int .i64 x.argn,.slice a2 l2 c2,.int .i64 x.resk,.int .i64 x.resn,.slice a3 l3 c3,.slice a4 l4 c4,.slice a5 l5 c5] 49)∧_=some (Obj.cells #[.int .i64 x.argk,.int .i64 x.argn,.slice a2 l2 c2,.int .i64 x.resk,.int .i64 x.resn,.slice a3 l3 c3] 46)∧_=some (Obj.cells #[.int .i64 4,.int .i64 0,.slice (some ⟨p1,0,none⟩) 2 2] 46)):=⟨gtr L2.out.1 ga,(ga.block _ (lbk L2.out.2.1) (by simp)).trans L2.out.2.1,(ga.block _ (lbk L2.out.2.2) (by simp)).trans L2.out.2.2,ba⟩
 have SF:SlF (u1.alloc (.cells #[.int .i64 4,.int .i64 0,.slice (some ⟨p1,0,none⟩) 2 2] 46)) (some ⟨u1.heap.size,0,none⟩) 1 (.cons 4 0 (.cons x.argk x.argn x.argf (.cons x.resk x.resn x.resf .nil)) .nil):=by
  obtain ⟨hgw,-,hb6,hb3⟩:=L3.out;have hr:=(HS.out _ hgw).1
  have cc:=fun j=>cell_of_row _ p1 j _ _ (0,0) hb6
  have dd:=fun j=>cell_of_row _ u1.heap.size j _ _ (0,0) hb3
  refine ⟨rfl,by omega,.inr ⟨_,_,rfl,InF.mk ((dd 0).trans rfl) ((dd 1).trans rfl) ((dd 2).trans rfl) ⟨rfl,by omega,.inr ⟨_,_,rfl,InF.mk ((cc 0).trans rfl) ((cc 1).trans rfl) ((cc 2).trans rfl) hr.2.1 (InF.mk ((cc 3).trans rfl) ((cc 4).trans rfl) ((cc 5).trans rfl) hr.2.2.1 trivial)⟩⟩ trivial⟩⟩
 have C2:Hid _:=areLowT (.cons 4 0 (.cons x.argk x.argn x.argf (.cons x.resk x.resn x.resf .nil)) .nil) (some ⟨u1.heap.size,0,none⟩) 1 1 M _ SF hM;clear L2 ga ba SF;obtain ⟨⟨y0,y1,y2,y3,y4,y5,y6,y7,y8⟩,-⟩:=blkBlock L3.out.2.1;go_wp2_with fail;refine Calls.mono C2.out ?_;rintro e v0 ⟨he,hg⟩;subst he;have L4:Hid (w.grownBy v0 none∧v0.heap[p0]? = some (Obj.cells #[.slice a1 l1 c1,.int .i64 x.argk,.int .i64 x.argn,.slice a2 l2 c2,.int .i64 x.resk,.int .i64 x.resn,.slice a3 l3 c3,.slice a4 l4 c4,.slice a5 l5 c5] 49)):=⟨gtr L3.out.1 hg,(hg.block _ (lbk L3.out.2.1) (by simp)).trans L3.out.2.1⟩;clear C2 hg L3 y0 y1 y2 y3 y4 y5 y6 y7 y8;obtain ⟨⟨y0,y1,y2,y3,y4,y5,y6,y7,y8⟩,-⟩:=blkBlock L4.out.2;simp only[]
 cases hq0:lwF M (.cons 4 0 (.cons x.argk x.argn x.argf (.cons x.resk x.resn x.resf .nil)) .nil) with
 | false =>
  go_wp2;go_ret;exact ⟨by rw[HW.out];simp [hq0],L4.out.1⟩
 | true =>
  have C3:Hid _:=areLowT x.env a1 l1 c1 M v0 (HS.out _ L4.out.1).1.1 hM;go_wp2_with fail;refine Calls.mono C3.out ?_;rintro e v1 ⟨he,hg⟩;subst he;have L5:Hid (w.grownBy v1 none∧v1.heap[p0]? = some (Obj.cells #[.slice a1 l1 c1,.int .i64 x.argk,.int .i64 x.argn,.slice a2 l2 c2,.int .i64 x.resk,.int .i64 x.resn,.slice a3 l3 c3,.slice a4 l4 c4,.slice a5 l5 c5] 49)):=⟨gtr L4.out.1 hg,(hg.block _ (lbk L4.out.2) (by simp)).trans L4.out.2⟩;clear C3 hg L4 y0 y1 y2 y3 y4 y5 y6 y7 y8;obtain ⟨⟨y0,y1,y2,y3,y4,y5,y6,y7,y8⟩,-⟩:=blkBlock L5.out.2;simp only[]
  cases hq1:lwF M x.env with
  | false =>
   go_wp2;go_ret;exact ⟨by rw[HW.out];simp [hq0,hq1],L5.out.1⟩
  | true =>
   have C4:Hid _:=areLowT x.locs a4 l4 c4 M v1 (HS.out _ L5.out.1).1.2.2.2.1 hM;go_wp2_with fail;refine Calls.mono C4.out ?_;rintro e v2 ⟨he,hg⟩;subst he;have L6:Hid (w.grownBy v2 none∧v2.heap[p0]? = some (Obj.cells #[.slice a1 l1 c1,.int .i64 x.argk,.int .i64 x.argn,.slice a2 l2 c2,.int .i64 x.resk,.int .i64 x.resn,.slice a3 l3 c3,.slice a4 l4 c4,.slice a5 l5 c5] 49)):=⟨gtr L5.out.1 hg,(hg.block _ (lbk L5.out.2) (by simp)).trans L5.out.2⟩;clear C4 hg L5 y0 y1 y2 y3 y4 y5 y6 y7 y8;obtain ⟨⟨y0,y1,y2,y3,y4,y5,y6,y7,y8⟩,-⟩:=blkBlock L6.out.2;simp only[]
   cases hq2:lwF M x.locs with
   | false =>
    go_wp2;go_ret;exact ⟨by rw[HW.out];simp [hq0,hq1,hq2],L6.out.1⟩
   | true =>
    have C5:Hid _:=containsNn x.code a5 l5 c5 v2 (HS.out _ L6.out.1).1.2.2.2.2 (HS.out _ L6.out.1).2;go_wp2_with fail;refine Calls.mono C5.out ?_;rintro e v3 ⟨he,hg⟩;subst he;have L7:Hid (w.grownBy v3 none∧v3.heap[p0]? = some (Obj.cells #[.slice a1 l1 c1,.int .i64 x.argk,.int .i64 x.argn,.slice a2 l2 c2,.int .i64 x.resk,.int .i64 x.resn,.slice a3 l3 c3,.slice a4 l4 c4,.slice a5 l5 c5] 49)):=⟨gtr L6.out.1 hg,(hg.block _ (lbk L6.out.2) (by simp)).trans L6.out.2⟩;clear C5 hg L6 y0 y1 y2 y3 y4 y5 y6 y7 y8;obtain ⟨⟨y0,y1,y2,y3,y4,y5,y6,y7,y8⟩,-⟩:=blkBlock L7.out.2;simp only[];go_wp2;go_ret;exact ⟨by rw[HW.out,hq0,hq1,hq2];rfl,L7.out.1⟩
theorem stands1T (x:RBlock) (a1:Option Addr) (l1 c1:Nat) (a2:Option Addr) (l2 c2:Nat) (a3:Option Addr) (l3 c3:Nat) (a4:Option Addr) (l4 c4:Nat) (a5:Option Addr) (l5 c5:Nat) (q:Nat) (av:Option Addr) (M cv:Nat) (w:World) (h:RdBlock w x a1 l1 a2 l2 a3 l3 a4 l4 a5 l5) (hC:OpsIn w∧w.cell? ⟨q,0,none⟩=some (.slice av M cv)) (hM:M≤4194304) :
  Calls Tryz.prog 89 #[.agg #[.slice a1 l1 c1,.int .i64 x.argk,.int .i64 x.argn,.slice a2 l2 c2,.int .i64 x.resk,.int .i64 x.resn,.slice a3 l3 c3,.slice a4 l4 c4,.slice a5 l5 c5],.pointer (some ⟨q,0,none⟩)] w fun e u=>e = .returned (.bool (!blockV M x))∧w.grownBy u none:=by
 have g0:=gal w (.cells #[.slice a1 l1 c1,.int .i64 x.argk,.int .i64 x.argn,.slice a2 l2 c2,.int .i64 x.resk,.int .i64 x.resn,.slice a3 l3 c3,.slice a4 l4 c4,.slice a5 l5 c5] 49) none;have b0:=hnw w (.cells #[.slice a1 l1 c1,.int .i64 x.argk,.int .i64 x.argn,.slice a2 l2 c2,.int .i64 x.resk,.int .i64 x.resn,.slice a3 l3 c3,.slice a4 l4 c4,.slice a5 l5 c5] 49);have C0:Hid _:=blockOkT x a1 l1 c1 a2 l2 c2 a3 l3 c3 a4 l4 c4 a5 l5 c5 M (w.alloc (.cells #[.slice a1 l1 c1,.int .i64 x.argk,.int .i64 x.argn,.slice a2 l2 c2,.int .i64 x.resk,.int .i64 x.resn,.slice a3 l3 c3,.slice a4 l4 c4,.slice a5 l5 c5] 49)) (h.none g0) (hC.1.none g0) hM;have G0:Hid _:=g0;have k0:=g0.cell hC.2 (by simp);obtain ⟨⟨y0,y1,y2,y3,y4,y5,y6,y7,y8⟩,-⟩:=blkBlock b0;clear h hC g0 b0;go_enter Tryz.func89,Tryz.ntmps89;go_wp2_with fail;refine Calls.mono C0.out ?_;rintro e u ⟨he,hg⟩;subst he;have G1:Hid (w.grownBy u none):=gtr G0.out hg
 clear C0 hg G0 y0 y1 y2 y3 y4 y5 y6 y7 y8 k0;simp only[];go_wp2;go_ret;exact ⟨rfl,G1.out⟩
theorem indexKk (xs:List RBlock) (a:Option Addr) (l c:Nat) (q:Nat) (av:Option Addr) (M cv:Nat) (w:World) (h:SlBlock w a l xs) (hC:OpsIn w∧w.cell? ⟨q,0,none⟩=some (.slice av M cv)∧M≤4194304) :
  Calls Tryz.prog 99 #[.slice a l c,.func (.func 89) #[] #[.pointer (some ⟨q,0,none⟩)]] w fun e u=>(∃ r:Int,e = .returned (.int .i64 r)∧AtP (xs.any fun x=>!blockV M x) r)∧w.grownBy u none:=by
 have hl:=h.2.1;have hfl:=h.1;rcases h.cases with ⟨rfl,rfl⟩|⟨b,o,rfl,hin,hpos⟩
 ·
  go_enter Tryz.func99,Tryz.ntmps99;go_wp2;refine wp_loop_rounds 1 ?_;rw[rounds_succ];go_wp2;go_ret;exact ⟨⟨-1,rfl,by unfold AtP;exact rfl⟩,grf _ _⟩
 have IN:Hid (InBlock w w xs b o):=hin;have HC:Hid (OpsIn w∧w.cell? ⟨q,0,none⟩=some (.slice av M cv)∧M≤4194304):=hC;clear hin h hC;go_enter Tryz.func99,Tryz.ntmps99;go_wp2
 go_loopw [8] (fun i wr=>∃ (j:Nat) (R:List RBlock),j≤l∧i = .int .i64 j∧R.length+j=l∧Hid (w.grownBy wr none∧InBlock w w R b (o+j * 9)∧(xs.any fun x=>!blockV M x)=R.any fun x=>!blockV M x)) (fun i _=>l - (intOf i).toNat)
 case atStart=>exact ⟨0,xs,Nat.zero_le _,rfl,by omega,grf _ _,by simpa using IN.out,rfl⟩
 case round =>
  obtain ⟨j,R,hj,rfl,hRl,HR⟩:=hrel;by_cases hlt:j < l
  ·
   obtain ⟨x,R',rfl⟩:∃ x R',R=x::R':=by
    cases R with
    | nil=>simp at hRl;omega
    | cons x R'=>exact ⟨x,R',rfl⟩
   obtain ⟨hg,⟨⟨a1,l1,c1,a2,l2,c2,a3,l3,c3,a4,l4,c4,a5,l5,c5,⟨k0,k1,k2,k3,k4,k5,k6,k7,k8⟩,hd⟩,hR2⟩,hv⟩:=HR.out;rw[show o+j * 9+9=o+(j+1) * 9 by omega] at hR2;simp only[List.any_cons] at hv;simp only[lB] at hRl;have k0:=hg.cell k0 (by simp);have k1:=hg.cell k1 (by simp);have k2:=hg.cell k2 (by simp);have k3:=hg.cell k3 (by simp);have k4:=hg.cell k4 (by simp);have k5:=hg.cell k5 (by simp);have k6:=hg.cell k6 (by simp);have k7:=hg.cell k7 (by simp);have k8:=hg.cell k8 (by simp);have CC:Hid _:=stands1T x a1 l1 c1 a2 l2 c2 a3 l3 c3 a4 l4 c4 a5 l5 c5 q av M cv wr (hd.none hg) ⟨HC.out.1.none hg,hg.cell HC.out.2.1 (by simp)⟩ HC.out.2.2;have FX:Hid (w.grownBy wr none∧InBlock w w R' b (o+(j+1) * 9)∧(xs.any fun x=>!blockV M x)=((!blockV M x) || R'.any fun x=>!blockV M x)):=⟨hg,hR2,hv⟩;clear hg hv hd hR2 HR IN;go_wp2_with fail;refine Calls.mono CC.out ?_;rintro e v ⟨he,hgv⟩;subst he;have FY:Hid (w.grownBy v none):=gtr FX.out.1 hgv
   clear CC hgv k0 k1 k2 k3 k4 k5 k6 k7 k8;simp only[]
   cases hq:(!blockV M x) with
   | true =>
    have E2:Hid ((xs.any fun x=>!blockV M x)=true):=by show _=_;rw[FX.out.2.2,hq];rfl
    clear hq;go_wp2;go_ret;exact ⟨⟨(j:Int),rfl,by unfold AtP;rw[E2.out];show 0≤(j:Int);omega⟩,FY.out⟩
   | false =>
    have E2:Hid ((xs.any fun x=>!blockV M x)=R'.any fun x=>!blockV M x):=by show _=_;rw[FX.out.2.2,hq];rfl
    clear hq;go_wp2;go_roundw
    case rel=>exact ⟨j+1,R',by omega,by go_num,by omega,FY.out,FX.out.2.1,E2.out⟩
    case measure=>simp [intOf];omega
  ·
   obtain rfl:j=l:=by omega
   obtain rfl:R=[]:=lz0 (by omega);have E2:Hid ((xs.any fun x=>!blockV M x)=false∧w.grownBy wr none):=⟨HR.out.2.2,HR.out.1⟩;clear HR IN;go_wp2;go_ret;exact ⟨⟨-1,rfl,by unfold AtP;rw[E2.out.1,if_neg (by simp)]⟩,E2.out.2⟩
theorem containsKk (xs:List RBlock) (a:Option Addr) (l c:Nat) (q:Nat) (av:Option Addr) (M cv:Nat) (w:World) (h:SlBlock w a l xs) (hC:OpsIn w∧w.cell? ⟨q,0,none⟩=some (.slice av M cv)∧M≤4194304) :
  Calls Tryz.prog 88 #[.slice a l c,.func (.func 89) #[] #[.pointer (some ⟨q,0,none⟩)]] w fun e u=>e = .returned (.bool (xs.any fun x=>!blockV M x))∧w.grownBy u none:=by
 have CC:Hid _:=indexKk xs a l c q av M cv w h hC;clear h hC;go_enter Tryz.func88,Tryz.ntmps88;go_wp2_with fail;refine Calls.mono CC.out ?_;rintro e u ⟨⟨r,rfl,hr⟩,hg⟩;have G:Hid (w.grownBy u none):=hg;clear hg CC;unfold AtP at hr;simp only[]
 cases hb:(xs.any fun x=>!blockV M x) with
 | true =>
  rw[hb,if_pos rfl] at hr;go_wp2;go_ret;refine ⟨?_,G.out⟩;rw[hb]
  first|rfl | (simp;done) | (simp;omega)
 | false =>
  rw[hb,if_neg (by simp)] at hr;subst hr;go_wp2;go_ret;refine ⟨?_,G.out⟩;rw[hb]
  first|rfl | (simp;done)
def standsV (x:RProg):Bool:=decide (1≤x.blks.length) && decide (x.blks.length≤150) && (laysV x.lays && capsV x.caps && !x.blks.any fun b=>!blockV x.lays.length b)
theorem programStandsT (x:RProg) (a1:Option Addr) (l1 c1:Nat) (a2:Option Addr) (l2 c2:Nat) (a3:Option Addr) (l3 c3:Nat) (w:World) (h:RdProg w x a1 l1 a2 l2 a3 l3) (hF:OpsIn w) (hM:l1≤4194304) :
  Calls Tryz.prog 68 #[.agg #[.slice a1 l1 c1,.slice a2 l2 c2,.slice a3 l3 c3]] w fun e u=>e = .returned (.bool (standsV x))∧w.grownBy u none:=by
 have g0:=gal w (.cells #[.slice a1 l1 c1,.slice a2 l2 c2,.slice a3 l3 c3] 27) none;have b0:=hnw w (.cells #[.slice a1 l1 c1,.slice a2 l2 c2,.slice a3 l3 c3] 27)
 have HS:Hid (∀ u,w.grownBy u none→RdProg u x a1 l1 a2 l2 a3 l3∧OpsIn u):=fun u hu=>⟨h.none hu,hF.none hu⟩
 have L0:Hid (w.grownBy _ none∧_=some (Obj.cells #[.slice a1 l1 c1,.slice a2 l2 c2,.slice a3 l3 c3] 27)):=⟨g0,b0⟩;have e1:x.lays.length=l1:=h.1.1;have e2:x.blks.length=l2:=h.2.1.1;have m1:=h.1.2.1;have m2:=h.2.1.2.1;have m3:=h.2.2.2
 have HV:Hid (standsV x=(decide (1≤l2) && decide (l2≤150) && (laysV x.lays && capsV x.caps && !x.blks.any fun b=>!blockV l1 b))):=by show _=_;unfold standsV;rw[e1,e2]
 obtain ⟨⟨y0,y1,y2⟩,-⟩:=blkProg b0;clear h hF g0 b0 e1 e2;go_enter Tryz.func68,Tryz.ntmps68;go_upto_region 1 with fail;generalize w.alloc (.cells #[.slice a1 l1 c1,.slice a2 l2 c2,.slice a3 l3 c3] 27)=w0 at *;generalize w.heap.size=p0 at *;by_cases q1:l2 < 1
 ·
  have q1':(l2:Int) < 1:=by omega
  have E:Hid (standsV x=false):=by
   show _=_
   have:decide (1≤l2)=false:=by simp;omega
   rw[HV.out,this];simp
  go_wp2;go_ret;exact ⟨by rw[E.out];rfl,L0.out.1⟩
 have q1':¬ (l2:Int) < 1:=by omega
 have q1t:decide (1≤l2)=true:=by simp;omega
 by_cases q2:150 < l2
 ·
  have q2':(l2:Int) > 150:=by omega
  have E:Hid (standsV x=false):=by
   show _=_
   have:decide (l2≤150)=false:=by simp;omega
   rw[HV.out,this];simp
  go_wp2;go_ret;exact ⟨by rw[E.out];rfl,L0.out.1⟩
 have q2':¬ (l2:Int) > 150:=by omega
 have q2t:decide (l2≤150)=true:=by simp;omega
 have HW:Hid (standsV x=(laysV x.lays && capsV x.caps && !x.blks.any fun b=>!blockV l1 b)):=by show _=_;rw[HV.out,q1t,q2t];rfl
 clear HV q1t q2t;have C0:Hid _:=layoutsOkT x.lays a1 l1 c1 w0 (HS.out _ L0.out.1).1.1;go_wp2_with fail;refine Calls.mono C0.out ?_;rintro e v0 ⟨he,hg⟩;subst he;have L1:Hid (w.grownBy v0 none∧v0.heap[p0]? = some (Obj.cells #[.slice a1 l1 c1,.slice a2 l2 c2,.slice a3 l3 c3] 27)):=⟨gtr L0.out.1 hg,(hg.block _ (lbk L0.out.2) (by simp)).trans L0.out.2⟩;clear C0 hg L0 y0 y1 y2;obtain ⟨⟨y0,y1,y2⟩,-⟩:=blkProg L1.out.2;simp only[]
 cases hq0:laysV x.lays with
 | false =>
  go_wp2;go_ret;exact ⟨by rw[HW.out];simp [hq0],L1.out.1⟩
 | true =>
  have C1:Hid _:=capsOkT x.caps a3 l3 c3 v0 (HS.out _ L1.out.1).1.2.2;go_wp2_with fail;refine Calls.mono C1.out ?_;rintro e v1 ⟨he,hg⟩;subst he;have L2:Hid (w.grownBy v1 none∧v1.heap[p0]? = some (Obj.cells #[.slice a1 l1 c1,.slice a2 l2 c2,.slice a3 l3 c3] 27)):=⟨gtr L1.out.1 hg,(hg.block _ (lbk L1.out.2) (by simp)).trans L1.out.2⟩;clear C1 hg L1 y0 y1 y2;obtain ⟨⟨y0,y1,y2⟩,-⟩:=blkProg L2.out.2;simp only[]
  cases hq1:capsV x.caps with
  | false =>
   go_wp2;go_ret;exact ⟨by rw[HW.out];simp [hq0,hq1],L2.out.1⟩
  | true =>
   have C2:Hid _:=containsKk x.blks a2 l2 c2 p0 a1 l1 c1 v1 (HS.out _ L2.out.1).1.2.1 ⟨(HS.out _ L2.out.1).2,(blkProg L2.out.2).1.1,hM⟩;go_wp2_with fail;refine Calls.mono C2.out ?_;rintro e v2 ⟨he,hg⟩;subst he;have L3:Hid (w.grownBy v2 none∧v2.heap[p0]? = some (Obj.cells #[.slice a1 l1 c1,.slice a2 l2 c2,.slice a3 l3 c3] 27)):=⟨gtr L2.out.1 hg,(hg.block _ (lbk L2.out.2) (by simp)).trans L2.out.2⟩;clear C2 hg L2 y0 y1 y2;obtain ⟨⟨y0,y1,y2⟩,-⟩:=blkProg L3.out.2;simp only[];go_wp2;go_ret;exact ⟨by rw[HW.out,hq0,hq1];rfl,L3.out.1⟩
structure Par where
 nm:Int→Int→Int × Int
 ty:Int→Int × Int × F × Int
 op:Int→Int × Int
 tx:Int→List Int × Int
def listN {X:Type} (f:Int→X × Int):Nat→Int→List X × Int
 | 0,p=>([],p)
 | n+1,p=>if p < 0 then ([],p) else ((f p).1::(listN f n (f p).2).1,(listN f n (f p).2).2)
theorem listN_neg {X:Type} (f:Int→X × Int) (n:Nat) {p:Int} (h:p < 0):listN f n p=([],p):=by
 cases n with
 | zero=>rfl
 | succ n=>rw[listN,if_pos h]
theorem listN_succ {X:Type} (f:Int→X × Int) (n:Nat) {p:Int} (h:0≤p):listN f (n+1) p=((f p).1::(listN f n (f p).2).1,(listN f n (f p).2).2):=by rw[listN,if_neg (by omega)]
def toF:List (Int × Int × F)→F
 | []=>.nil
 | x::r=>.cons x.1 x.2.1 x.2.2 (toF r)
theorem toF_len:∀ xs:List (Int × Int × F),(toF xs).len=xs.length
 | []=>rfl
 | x::r=>by simp [toF,F.len,toF_len r]
theorem toF_app:∀ (xs ys:List (Int × Int × F)),toF (xs++ys)=(toF xs).app (toF ys)
 | [],ys=>rfl
 | x::r,ys=>by simp [toF,F.app,toF_app r ys]
def szT3 (x:Int × Int × F):Nat:=x.2.2.size
def sumN {X:Type} (sz:X→Nat):List X→Nat
 | []=>0
 | x::r=>1+sz x+sumN sz r
theorem toF_size:∀ xs:List (Int × Int × F),(toF xs).size=sumN szT3 xs
 | []=>rfl
 | x::r=>by simp [toF,F.size,sumN,toF_size r,szT3]
def tyP (P:Par) (p:Int):(Int × Int × F) × Int:=(((P.ty p).1,(P.ty p).2.1,(P.ty p).2.2.1),(P.ty p).2.2.2)
def listP {X:Type} (P:Par) (f:Int→X × Int) (most p:Int):List X × Int:=listN f (P.nm most p).1.toNat (P.nm most p).2
def typesP (P:Par) (most p:Int):F × Int:=(toF (listP P (tyP P) most p).1,(listP P (tyP P) most p).2)
def layP (P:Par) (p:Int):RLayout × Int:=(⟨(listP P (typesP P 3) 5 p).1⟩,(listP P (typesP P 3) 5 p).2)
def unfV (n:Int):Int:=if n < 0∨2147483647 < n then 0 else if n % 2=1 then -((n+1) / 2) else n / 2
def aP (P:Par) (op p:Int):Int × Int:=if op=1 then (unfV (P.nm 2147483647 p).1,(P.nm 2147483647 p).2) else if hasA op=true then P.nm 2147483647 p else (0,p)
def bP (P:Par) (op p:Int):Int × Int:=if op=21 then P.nm 2147483647 p else (0,p)
def toP (P:Par) (op p:Int):List Int × Int:=if op=22 then listP P (P.nm 2147483647) 5 p else ([],p)
def litP (P:Par) (op p:Int):List Int × Int:=if op=2 then P.tx p else ([],p)
def insP (P:Par) (p:Int):RIns × Int :=
  (⟨(P.op p).1,(aP P (P.op p).1 (P.op p).2).1,(bP P (P.op p).1 (aP P (P.op p).1 (P.op p).2).2).1,
    (litP P (P.op p).1 (toP P (P.op p).1 (bP P (P.op p).1 (aP P (P.op p).1 (P.op p).2).2).2).2).1,
    (toP P (P.op p).1 (bP P (P.op p).1 (aP P (P.op p).1 (P.op p).2).2).2).1⟩,
   (litP P (P.op p).1 (toP P (P.op p).1 (bP P (P.op p).1 (aP P (P.op p).1 (P.op p).2).2).2).2).2)
def blkP (P:Par) (p:Int):RBlock × Int :=
 let e:=typesP P 60 p
 let a:=tyP P e.2
 let r:=tyP P a.2
 let l:=typesP P 60 r.2
 let c:=listP P (insP P) 1000 l.2
 (⟨e.1,a.1.1,a.1.2.1,a.1.2.2,r.1.1,r.1.2.1,r.1.2.2,l.1,c.1⟩,c.2)
def progP (P:Par) (p:Int):RProg × Int :=
 let l:=listP P (layP P) 20 p
 let c:=listP P (P.nm 4) 5 l.2
 let b:=listP P (blkP P) 150 c.2
 (⟨l.1,b.1,c.1⟩,b.2)
def parI (zs:List Int):Par where
 nm:=fun _ p=>getNum zs p
 ty:=fun p=>readV zs p
 op:=fun p=>if p < 0∨(zs.length:Int)≤p then (0,-1) else (zs.getD p.toNat 0,if zs.getD p.toNat 0≤31 then p+1 else -1)
 tx:=fun p=>match getText zs p with|none=>([],-1) | some y=>y
def parS (zs:List Int):Par where
 nm:=fun most p=>if p < 0 then (0,p) else if (getNum zs p).2 < 0∨most < (getNum zs p).1 then (0,-1) else getNum zs p
 ty:=fun p=>if p < 0 then (0,0,.nil,p) else readV zs p
 op:=fun p=>if p < 0∨(zs.length:Int)≤p then (0,-1) else (zs.getD p.toNat 0,p+1)
 tx:=fun p=>match getText zs p with|none=>([],-1) | some y=>y
structure Good (P Q:Par):Prop where
 nm:∀ most p,0≤p→0≤(P.nm most p).2→(P.nm most p).1≤most→Q.nm most p=P.nm most p
 nn:∀ most p,0≤(P.nm most p).1
 big:∀ p,(P.nm 2147483647 p).1≤2147483647
 ty:∀ p,0≤p→Q.ty p=P.ty p
 op:∀ p,0≤p→0≤(P.op p).2→(P.op p).1≤31→Q.op p=P.op p
 tx:∀ p,0≤p→Q.tx p=P.tx p
 /-- Behind the end nothing comes back. -/
 nmN:∀ most p,p < 0→(P.nm most p).2 < 0
 tyN:∀ p,p < 0→(P.ty p).2.2.2 < 0
 txN:∀ p,p < 0→(P.tx p).2 < 0
theorem listN_len {X:Type} (f:Int→X × Int):∀ (n:Nat) (p:Int),0≤(listN f n p).2→(listN f n p).1.length=n
 | 0,p,_=>rfl
 | n+1,p,h=>by
  by_cases h0:p < 0
  ·
   rw[listN_neg f _ h0] at h;simp only at h;omega
  ·
   rw[listN_succ f n (by omega)] at h ⊢;simp [listN_len f n _ h]
theorem listN_at {X:Type} (f:Int→X × Int):∀ (n:Nat) (p:Int),0≤(listN f n p).2→0≤p
 | 0,p,h=>h
 | n+1,p,h=>by
  by_cases h0:p < 0
  ·
   rw[listN_neg f _ h0] at h;exact h
  ·
   omega
theorem listN_rel {X:Type} {f g:Int→X × Int} (lim:X→Prop) (hf:∀ p,0≤p→0≤(f p).2→lim (f p).1→g p=f p):∀ (n:Nat) (p:Int),0≤(listN f n p).2→(∀ x ∈ (listN f n p).1,lim x)→listN g n p=listN f n p
 | 0,p,_,_=>rfl
 | n+1,p,h,hl=>by
  have h0:=listN_at f _ _ h;rw[listN_succ f n h0] at h hl;have h1:=listN_at f _ _ h;have e:=hf p h0 h1 (hl _ (by simp));rw[listN_succ g n h0,listN_succ f n h0,e];have:=listN_rel lim hf n (f p).2 h (fun x hx=>hl x (List.mem_cons_of_mem _ hx));rw[this]
theorem listP_rel {X:Type} {P Q:Par} (hP:Good P Q) {f g:Int→X × Int} (lim:X→Prop) (hf:∀ p,0≤p→0≤(f p).2→lim (f p).1→g p=f p) (most:Int) (p:Int) (h0:0≤p) (h:0≤(listP P f most p).2) (hm:((listP P f most p).1.length:Int)≤most) (hl:∀ x ∈ (listP P f most p).1,lim x):listP Q g most p=listP P f most p:=by
 unfold listP at h hm hl ⊢;have h1:=listN_at f _ _ h;rw[listN_len f _ _ h] at hm;have hn:=hP.nn most p;rw[hP.nm most p h0 h1 (by omega)];exact listN_rel lim hf _ _ h hl
theorem listP_at {X:Type} {P Q:Par} (hP:Good P Q) {f:Int→X × Int} {most p:Int} (h:0≤(listP P f most p).2):0≤p:=by
 have h1:=listN_at f _ _ h;by_cases h0:p < 0
 ·
  have:=hP.nmN most p h0;omega
 ·
  omega
theorem typesP_rel {P Q:Par} (hP:Good P Q) (most p:Int) (h0:0≤p) (h:0≤(typesP P most p).2) (hm:((typesP P most p).1.len:Int)≤most):typesP Q most p=typesP P most p:=by
 unfold typesP at h hm ⊢;rw[toF_len] at hm;rw[listP_rel hP (fun _=>True) (fun q hq _ _=>by unfold tyP;rw[hP.ty q hq]) most p h0 h hm (fun _ _=>trivial)]
def limLay (x:RLayout):Prop:=x.cons.length≤5∧∀ f ∈ x.cons,f.len≤3
def limIns (x:RIns):Prop:=x.op≤31∧x.tos.length≤5
def limBlk (x:RBlock):Prop:=x.env.len≤60∧x.locs.len≤60∧x.code.length≤1000∧∀ i ∈ x.code,limIns i
def limProg (x:RProg):Prop:=x.lays.length≤20∧(∀ l ∈ x.lays,limLay l)∧x.caps.length≤5∧(∀ c ∈ x.caps,c≤4)∧x.blks.length≤150∧∀ b ∈ x.blks,limBlk b
theorem layP_rel {P Q:Par} (hP:Good P Q) (p:Int) (h0:0≤p) (h:0≤(layP P p).2) (hl:limLay (layP P p).1):layP Q p=layP P p:=by
 unfold layP at h hl ⊢;obtain ⟨h1,h2⟩:=hl;simp only at h h1 h2;rw[listP_rel hP (fun f=>(f:F).len≤3) (fun q hq hq2 hq3=>typesP_rel hP 3 q hq hq2 (by exact_mod_cast hq3)) 5 p h0 h (by omega) h2]
theorem nm_rel {P Q:Par} (hP:Good P Q) (p:Int) (h0:0≤p) (h:0≤(P.nm 2147483647 p).2):Q.nm 2147483647 p=P.nm 2147483647 p:=hP.nm _ _ h0 h (hP.big p)
theorem aP_at {P Q:Par} (hP:Good P Q) {op p:Int} (h:0≤(aP P op p).2):0≤p:=by
 by_cases h0:p < 0
 ·
  have:=hP.nmN 2147483647 p h0;unfold aP at h
  split at h
  ·
   simp only at h;omega
  ·
   split at h
   ·
    omega
   ·
    simp only at h;omega
 ·
  omega
theorem bP_at {P Q:Par} (hP:Good P Q) {op p:Int} (h:0≤(bP P op p).2):0≤p:=by
 by_cases h0:p < 0
 ·
  have:=hP.nmN 2147483647 p h0;unfold bP at h
  split at h
  ·
   omega
  ·
   simp only at h;omega
 ·
  omega
theorem toP_at {P Q:Par} (hP:Good P Q) {op p:Int} (h:0≤(toP P op p).2):0≤p:=by
 unfold toP at h
 split at h
 ·
  exact listP_at hP h
 ·
  exact h
theorem litP_at {P Q:Par} (hP:Good P Q) {op p:Int} (h:0≤(litP P op p).2):0≤p:=by
 by_cases h0:p < 0
 ·
  have:=hP.txN p h0;unfold litP at h
  split at h
  ·
   omega
  ·
   simp only at h;omega
 ·
  omega
theorem aP_rel {P Q:Par} (hP:Good P Q) (op p:Int) (h0:0≤p) (h:0≤(aP P op p).2):aP Q op p=aP P op p:=by
 unfold aP at h ⊢
 split
 ·
  rename_i e
  rw[if_pos e] at h;rw[nm_rel hP p h0 h]
 ·
  rename_i e
  rw[if_neg e] at h
  split
  ·
   rename_i e2
   rw[if_pos e2] at h;exact nm_rel hP p h0 h
  ·
   rfl
theorem bP_rel {P Q:Par} (hP:Good P Q) (op p:Int) (h0:0≤p) (h:0≤(bP P op p).2):bP Q op p=bP P op p:=by
 unfold bP at h ⊢
 split
 ·
  rename_i e
  rw[if_pos e] at h;exact nm_rel hP p h0 h
 ·
  rfl
theorem toP_rel {P Q:Par} (hP:Good P Q) (op p:Int) (h0:0≤p) (h:0≤(toP P op p).2) (hl:(toP P op p).1.length≤5):toP Q op p=toP P op p:=by
 unfold toP at h hl ⊢
 split
 ·
  rename_i e
  rw[if_pos e] at h hl;exact listP_rel hP (fun _=>True) (fun q hq hq2 _=>nm_rel hP q hq hq2) 5 p h0 h (by omega) (fun _ _=>trivial)
 ·
  rfl
theorem litP_rel {P Q:Par} (hP:Good P Q) (op p:Int) (h0:0≤p):litP Q op p=litP P op p:=by
 unfold litP
 split
 ·
  exact hP.tx p h0
 ·
  rfl
theorem insP_rel {P Q:Par} (hP:Good P Q) (p:Int) (h0:0≤p) (h:0≤(insP P p).2) (hl:limIns (insP P p).1):insP Q p=insP P p:=by
 unfold insP at h hl ⊢;obtain ⟨l1,l2⟩:=hl;simp only at h l1 l2;have h1:=litP_at hP h;have h2:=toP_at hP h1;have h3:=bP_at hP h2;have h4:=aP_at hP h3;rw[hP.op p h0 h4 l1,aP_rel hP _ _ h4 h3,bP_rel hP _ _ h3 h2,toP_rel hP _ _ h2 h1 l2,litP_rel hP _ _ h1]
theorem tyP_at {P Q:Par} (hP:Good P Q) {p:Int} (h:0≤(tyP P p).2):0≤p:=by
 by_cases h0:p < 0
 ·
  have:=hP.tyN p h0;unfold tyP at h;simp only at h;omega
 ·
  omega
theorem blkP_rel {P Q:Par} (hP:Good P Q) (p:Int) (h0:0≤p) (h:0≤(blkP P p).2) (hl:limBlk (blkP P p).1):blkP Q p=blkP P p:=by
 unfold blkP at h hl ⊢;obtain ⟨l1,l2,l3,l4⟩:=hl;simp only at h l1 l2 l3 l4 ⊢;have h1:=listP_at hP h;have h2:0≤(tyP P (tyP P (typesP P 60 p).2).2).2:=listP_at hP h1;have h3:=tyP_at hP h2;have h4:0≤(typesP P 60 p).2:=tyP_at hP h3
 have ty:∀ q,0≤q→tyP Q q=tyP P q:=fun q hq=>by unfold tyP;rw[hP.ty q hq]
 rw[typesP_rel hP 60 p h0 h4 (by omega),ty _ h4,ty _ h3,typesP_rel hP 60 _ h2 h1 (by omega),listP_rel hP limIns (fun q hq hq2 hq3=>insP_rel hP q hq hq2 hq3) 1000 _ h1 h (by omega) l4]
theorem progP_rel {P Q:Par} (hP:Good P Q) (p:Int) (h0:0≤p) (h:0≤(progP P p).2) (hl:limProg (progP P p).1):progP Q p=progP P p:=by
 unfold progP at h hl ⊢;obtain ⟨l1,l2,l3,l4,l5,l6⟩:=hl;simp only at h l1 l2 l3 l4 l5 l6 ⊢;have h1:=listP_at hP h;have h2:=listP_at hP h1;rw[listP_rel hP limLay (fun q hq hq2 hq3=>layP_rel hP q hq hq2 hq3) 20 p h0 h2 (by omega) l2,listP_rel hP (fun c=>c≤(4:Int)) (fun q hq hq2 hq3=>hP.nm 4 q hq hq2 hq3) 5 _ h2 h1 (by omega) l4,listP_rel hP limBlk (fun q hq hq2 hq3=>blkP_rel hP q hq hq2 hq3) 150 _ h1 h (by omega) l6]
end Go.Proofs.YtnmlbeefjjohfaaGreatDoor.By
