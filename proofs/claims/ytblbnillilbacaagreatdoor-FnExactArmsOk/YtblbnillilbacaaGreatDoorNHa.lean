/-
  No statement is proved here.
-/
import Derived.Test.YtblbnillilbacaaGreatDoorNGAlsoa
namespace Go.Proofs.YtblbnillilbacaaGreatDoor.By
set_option maxRecDepth 100000
set_option maxHeartbeats 16000000
open Go.RowKit
set_option linter.unusedVariables false
set_option linter.unusedSimpArgs false
def okN (p:PE) (kids alts:GE):Bool:=(formV p.k p.n).isSome && fitV (formR p.k p.n).2.2.2 p kids alts
def okG:GE→Nat→Bool
 | .nil,_=>true
 | .cons _ _ p kids alts rest,d=>decide (0 < d) && okN p kids alts && okG kids (d - 1) && okG alts (d - 1) && okG rest d
def okE (p:PE) (kids alts:GE) (d:Nat):Bool:=decide (0 < d) && okN p kids alts && okG kids (d - 1) && okG alts (d - 1)
def ndV (p:PE) (kids alts:GE) (d r:Nat):Nat:=if okE p kids alts d && decide (1+kids.cnt+alts.cnt≤r) then 1+kids.cnt+alts.cnt else 0
theorem okG_app:∀ (f g:GE) (d:Nat),okG (f.app g) d=(okG f d && okG g d)
 | .nil,g,d=>by simp [GE.app,okG]
 | .cons _ _ p k a r,g,d=>by simp only[GE.app,okG,okG_app r g d,Bool.and_assoc]
theorem okG_bod:∀ (g:GE) (d:Nat),okG (bod g) d=okG g d
 | .nil,d=>rfl
 | .cons _ _ p k a r,d=>by simp only[bod,okG,okG_bod r d]
theorem cnt_app:∀ (f g:GE),(f.app g).cnt=f.cnt+g.cnt
 | .nil,g=>by simp [GE.app,GE.cnt]
 | .cons _ _ p k a r,g=>by simp only[GE.app,GE.cnt,cnt_app r g];omega
theorem cnt_bod:∀ (g:GE),(bod g).cnt=g.cnt
 | .nil=>rfl
 | .cons _ _ p k a r=>by simp only[bod,GE.cnt,cnt_bod r]
theorem size_app:∀ (f g:GE),(f.app g).size=f.size+g.size
 | .nil,g=>by simp [GE.app,GE.size]
 | .cons _ _ p k a r,g=>by simp only[GE.app,GE.size,size_app r g];omega
theorem size_bod:∀ (g:GE),(bod g).size≤g.size
 | .nil=>Nat.le_refl _
 | .cons hc hv p k a r=>by have:=size_bod r;simp only[bod,GE.size,lC,szW];omega
def TlK (w:World) (a:Option Addr) (j l:Nat) (g:GE):Prop:=g.len+j=l∧(g = .nil∨∃ b o,a=some ⟨b,o,none⟩∧InGE w w false g b (o+j * 7))
theorem SlGE.tlK {w:World} {a:Option Addr} {l c:Nat} {g:GE} (h:SlGE w false a l c g):TlK w a 0 l g:=by
 refine ⟨h.1,?_⟩;rcases h.cases with ⟨-,e⟩|⟨b,o,e,hin,-⟩
 ·
  exact .inl e
 ·
  exact .inr ⟨b,o,e,by simpa using hin⟩
theorem nd_zero {p pp:PE} {kids alts P kk aa R:GE} {hc:List Int} {hv:List (List Int)} {d room C:Nat} (hPR:P.app (.cons hc hv pp kk aa R)=kids.app (bod alts)) (hC:C=1+P.cnt) (h:ndV pp kk aa (d - 1) (room - C)=0):ndV p kids alts d room=0:=by
 have e1:okG kids (d - 1)=true→okG alts (d - 1)=true→okE pp kk aa (d - 1)=true:=fun h1 h2=>by
  have:okG (P.app (.cons hc hv pp kk aa R)) (d - 1)=true:=by rw[hPR,okG_app,okG_bod,h1,h2];rfl
  rw[okG_app] at this;simp only[okG,Bool.and_eq_true] at this;simp only[okE,Bool.and_eq_true];exact this.2.1
 have e2:kids.cnt+alts.cnt=P.cnt+(1+kk.cnt+aa.cnt+R.cnt):=by
  have:=congrArg GE.cnt hPR;rw[cnt_app,cnt_app,cnt_bod] at this;simp only[GE.cnt] at this;omega
 unfold ndV;rw[if_neg];intro hh;simp only[Bool.and_eq_true,decide_eq_true_eq,okE] at hh;have h3:=e1 hh.1.1.2 hh.1.2;unfold ndV at h;rw[h3] at h
 have h4:1+kk.cnt+aa.cnt≤room - C:=by omega
 rw[if_pos (by simpa using h4)] at h;omega
theorem nd_step {pp:PE} {P kk aa:GE} {hc:List Int} {hv:List (List Int)} {d room C:Nat} (hP:okG P d=true) (h:ndV pp kk aa d (room - C)≠0):ndV pp kk aa d (room - C)=1+kk.cnt+aa.cnt∧1+kk.cnt+aa.cnt≤room - C∧okG (P.app (.cons hc hv pp kk aa .nil)) d=true:=by
 unfold ndV at h ⊢;by_cases hh:(okE pp kk aa d && decide (1+kk.cnt+aa.cnt≤room - C))=true
 ·
  rw[if_pos hh];simp only[Bool.and_eq_true,decide_eq_true_eq] at hh;refine ⟨rfl,hh.2,?_⟩;rw[okG_app,hP];have:=hh.1;unfold okE at this;simp only[okG,Bool.and_true,Bool.true_and];exact this
 ·
  rw[if_neg hh] at h;exact absurd rfl h
theorem nd_end {p:PE} {kids alts:GE} {d room:Nat} (hN:okN p kids alts=true) (hd:d≠0) (hP:okG (kids.app (bod alts)) (d - 1)=true) (hr:1+(kids.app (bod alts)).cnt≤room):ndV p kids alts d room=1+(kids.app (bod alts)).cnt:=by
 rw[cnt_app,cnt_bod] at hr ⊢;rw[okG_app,okG_bod] at hP;simp only[Bool.and_eq_true] at hP;unfold ndV okE;rw[if_pos]
 ·
  omega
 ·
  simp only[Bool.and_eq_true,decide_eq_true_eq];exact ⟨⟨⟨⟨by omega,hN⟩,hP.1⟩,hP.2⟩,by omega⟩
theorem nwT_of (d:Nat) (hd:d≤1000) (ih:∀ d',d=d' + 1→∀ (p:PE) (kids alts:GE) (a1:Option Addr) (l1 c1:Nat) (a2:Option Addr) (l2 c2:Nat) (a3:Option Addr) (l3 c3:Nat) (a4:Option Addr) (l4 c4:Nat) (a5:Option Addr) (l5 c5:Nat) (room:Nat) (w:World),NdE w p kids alts a1 l1 c1 a2 l2 c2 a3 l3 c3 a4 l4 c4 a5 l5 c5→FormsIn w→kids.size+alts.size≤1048576→room≤10000 →
  Calls Tryz.prog 68 #[.agg #[.int .i64 p.k,.int .i64 p.n,.slice a1 l1 c1,.slice a2 l2 c2,.slice a3 l3 c3,.slice a4 l4 c4,.slice a5 l5 c5],.int .i64 (d':Nat),.int .i64 (room:Nat)] w fun e u=>e = .returned (.int .i64 (ndV p kids alts d' room:Nat))∧w.grownBy u none):∀ (p:PE) (kids alts:GE) (a1:Option Addr) (l1 c1:Nat) (a2:Option Addr) (l2 c2:Nat) (a3:Option Addr) (l3 c3:Nat) (a4:Option Addr) (l4 c4:Nat) (a5:Option Addr) (l5 c5:Nat) (room:Nat) (w:World),NdE w p kids alts a1 l1 c1 a2 l2 c2 a3 l3 c3 a4 l4 c4 a5 l5 c5→FormsIn w→kids.size+alts.size≤1048576→room≤10000 →
  Calls Tryz.prog 68 #[.agg #[.int .i64 p.k,.int .i64 p.n,.slice a1 l1 c1,.slice a2 l2 c2,.slice a3 l3 c3,.slice a4 l4 c4,.slice a5 l5 c5],.int .i64 (d:Nat),.int .i64 (room:Nat)] w fun e u=>e = .returned (.int .i64 (ndV p kids alts d room:Nat))∧w.grownBy u none:=by
 intro p kids alts a1 l1 c1 a2 l2 c2 a3 l3 c3 a4 l4 c4 a5 l5 c5 room w h hF hsz hroom;have g0:=gal w (.cells #[.int .i64 p.k,.int .i64 p.n,.slice a1 l1 c1,.slice a2 l2 c2,.slice a3 l3 c3,.slice a4 l4 c4,.slice a5 l5 c5] 36) none;have b0:=heap_alloc_new w (.cells #[.int .i64 p.k,.int .i64 p.n,.slice a1 l1 c1,.slice a2 l2 c2,.slice a3 l3 c3,.slice a4 l4 c4,.slice a5 l5 c5] 36);have IH:Hid _:=ih
 have HS:Hid (∀ u,w.grownBy u none→NdE u p kids alts a1 l1 c1 a2 l2 c2 a3 l3 c3 a4 l4 c4 a5 l5 c5∧FormsIn u):=fun u hu=>⟨h.none hu,hF.none hu⟩
 have hk4:=h.2.2.2.1.1;have hk5:=h.2.2.2.2.1;have L0:Hid (w.grownBy _ none∧_=some (Obj.cells #[.int .i64 p.k,.int .i64 p.n,.slice a1 l1 c1,.slice a2 l2 c2,.slice a3 l3 c3,.slice a4 l4 c4,.slice a5 l5 c5] 36)):=⟨g0,b0⟩;have C0:Hid _:=formOfT p.k p.n (.slice a1 l1 c1) (.slice a2 l2 c2) (.slice a3 l3 c3) (.slice a4 l4 c4) (.slice a5 l5 c5) (w.alloc (.cells #[.int .i64 p.k,.int .i64 p.n,.slice a1 l1 c1,.slice a2 l2 c2,.slice a3 l3 c3,.slice a4 l4 c4,.slice a5 l5 c5] 36)) (hF.none g0);obtain ⟨⟨y0,y1,y2,y3,y4,y5,y6⟩,-⟩:=blkE b0;clear g0 b0 ih h hF;go_enter Tryz.func68,Tryz.ntmps68;go_wp2_with fail;refine Calls.mono C0.out ?_;rintro e u0 ⟨he,hg⟩;unfold FoA at he;have HK:Hid (okN p kids alts=((formV p.k p.n).isSome && fitV (formR p.k p.n).2.2.2 p kids alts)):=rfl;generalize (formV p.k p.n).isSome=ok at *;generalize formR p.k p.n=f at *;obtain ⟨wd,kk,nn,s⟩:=f;simp only at he HK;subst he;have L1:Hid (w.grownBy u0 none∧u0.heap[w.heap.size]? = some (Obj.cells #[.int .i64 p.k,.int .i64 p.n,.slice a1 l1 c1,.slice a2 l2 c2,.slice a3 l3 c3,.slice a4 l4 c4,.slice a5 l5 c5] 36)):=⟨gtr L0.out.1 hg,(hg.block _ (lt_of_block L0.out.2) (by simp)).trans L0.out.2⟩
 clear C0 hg L0 y0 y1 y2 y3 y4 y5 y6;obtain ⟨⟨y0,y1,y2,y3,y4,y5,y6⟩,-⟩:=blkE L1.out.2;simp only[];have ga:=gal u0 (.cells #[.string wd,.int .i64 kk,.int .i64 nn,.string s] 129) none;have ba:=heap_alloc_new u0 (.cells #[.string wd,.int .i64 kk,.int .i64 nn,.string s] 129);have L2:Hid (w.grownBy (u0.alloc (.cells #[.string wd,.int .i64 kk,.int .i64 nn,.string s] 129)) none∧(u0.alloc (.cells #[.string wd,.int .i64 kk,.int .i64 nn,.string s] 129)).heap[w.heap.size]? = some (Obj.cells #[.int .i64 p.k,.int .i64 p.n,.slice a1 l1 c1,.slice a2 l2 c2,.slice a3 l3 c3,.slice a4 l4 c4,.slice a5 l5 c5] 36)∧(u0.alloc (.cells #[.string wd,.int .i64 kk,.int .i64 nn,.string s] 129)).heap[u0.heap.size]? = some (Obj.cells #[.string wd,.int .i64 kk,.int .i64 nn,.string s] 129)):=⟨gtr L1.out.1 ga,(ga.block _ (lt_of_block L1.out.2) (by simp)).trans L1.out.2,ba⟩;clear ga ba L1;by_cases hd0:d=0
 ·
  have E:Hid (ndV p kids alts d room=0):=by show _=_;unfold ndV okE;rw[hd0];simp
  subst hd0;go_wp2;go_ret;exact ⟨by rw[E.out];rfl,L2.out.1⟩
 have hd':¬ (d:Int)=0:=by omega
 have hdb:((d:Int) == 0)=false:=by simpa using hd0
 by_cases hr0:room=0
 ·
  have E:Hid (ndV p kids alts d room=0):=by show _=_;unfold ndV;rw[hr0,if_neg (by simp)]
  subst hr0;go_wp2;go_ret;exact ⟨by rw[E.out];rfl,L2.out.1⟩
 have hr':¬ (room:Int)=0:=by omega
 have hrb:((room:Int) == 0)=false:=by simpa using hr0
 cases ok with
 | false =>
  have E:Hid (ndV p kids alts d room=0):=by show _=_;unfold ndV okE;rw[HK.out];simp
  go_wp2;go_ret;exact ⟨by rw[E.out];rfl,L2.out.1⟩
 | true =>
  have C1:Hid _:=fitsT wd kk nn s p kids alts a1 l1 c1 a2 l2 c2 a3 l3 c3 a4 l4 c4 a5 l5 c5 (u0.alloc (.cells #[.string wd,.int .i64 kk,.int .i64 nn,.string s] 129)) (HS.out _ L2.out.1).1;obtain ⟨⟨z0,z1,z2,z3⟩,-⟩:=blkF L2.out.2.2;clear y0 y1 y2 y3 y4 y5 y6;obtain ⟨⟨y0,y1,y2,y3,y4,y5,y6⟩,-⟩:=blkE L2.out.2.1;go_wp2_with fail;refine Calls.mono C1.out ?_;rintro e u1 ⟨rfl,hg⟩;have L3:Hid (w.grownBy u1 none∧u1.heap[w.heap.size]? = some (Obj.cells #[.int .i64 p.k,.int .i64 p.n,.slice a1 l1 c1,.slice a2 l2 c2,.slice a3 l3 c3,.slice a4 l4 c4,.slice a5 l5 c5] 36)):=⟨gtr L2.out.1 hg,(hg.block _ (lt_of_block L2.out.2.1) (by simp)).trans L2.out.2.1⟩;clear C1 hg L2 y0 y1 y2 y3 y4 y5 y6 z0 z1 z2 z3;obtain ⟨⟨y0,y1,y2,y3,y4,y5,y6⟩,-⟩:=blkE L3.out.2;simp only[]
  cases hfit:fitV s p kids alts with
  | false =>
   have E:Hid (ndV p kids alts d room=0):=by show _=_;unfold ndV okE;rw[HK.out,hfit];simp
   go_wp2;go_ret;exact ⟨by rw[E.out];rfl,L3.out.1⟩
  | true =>
   have C2:Hid _:=partsOfT p kids alts a1 l1 c1 a2 l2 c2 a3 l3 c3 a4 l4 c4 a5 l5 c5 u1 (HS.out _ L3.out.1).1 (by have:=kids.len_le;have:=alts.len_le;omega);go_wp2_with fail;refine Calls.mono C2.out ?_;rintro e u2 ⟨ap,cp,rfl,hg,hS⟩
   have HN:Hid (okN p kids alts=true):=by show _=_;rw[HK.out,hfit];rfl
   have L4:Hid (w.grownBy u2 none∧TlK u2 ap 0 (l4+l5) (kids.app (bod alts))):=⟨gtr L3.out.1 hg,hS.tlK⟩
   have hNb:l4+l5≤1048576:=by have:=kids.len_le;have:=alts.len_le;omega
   clear C2 hg hS L3 y0 y1 y2 y3 y4 y5 y6;generalize l4+l5=N at *;simp only[];go_wp2
   have ed:(d:Int) - 1=((d - 1:Nat):Int):=by omega
   go_loopw [9,37] (fun v i wr=>∃ (j C:Nat) (P R:GE),j≤N∧i = .int .i64 j∧v = .int .i64 C∧C≤room∧1≤C∧Hid (w.grownBy wr none∧TlK wr ap j N R∧P.app R=kids.app (bod alts)∧okG P (d - 1)=true∧C=1+P.cnt)) (fun _ i _=>N - (intOf i).toNat)
   case atStart=>exact ⟨0,1,.nil,kids.app (bod alts),Nat.zero_le _,rfl,rfl,by omega,by omega,L4.out.1,L4.out.2,rfl,rfl,rfl⟩
   case round =>
    clear L4;obtain ⟨j,C,P,R,hj,rfl,rfl,hC1,hC2,HR⟩:=hrel;by_cases hlt:j < N
    ·
     obtain ⟨hg,⟨hRl,hR⟩,hPR,hP,hC⟩:=HR.out;obtain ⟨q',hq'⟩:∃ q',R.len=q' + 1:=⟨R.len - 1,by omega⟩;rcases hR with rfl|⟨b,o,ea,hin⟩
     ·
      simp [GE.len] at hq'
     obtain ⟨hc,hv,pp,kk',aa,R',rfl,hR'⟩:=GE.cons_of_len hq';obtain ⟨-,b1,m1,n1,b2,m2,n2,b3,m3,n3,b4,m4,n4,b5,m5,n5,⟨k0,k1,k2,k3,k4,k5,k6⟩,hnd,hR2⟩:=hin.kid;rw[show o+j * 7+7=o+(j+1) * 7 by omega] at hR2
     have hszs:kk'.size+aa.size≤1048576:=by
      have h1:=congrArg GE.size hPR;have h2:=size_bod alts;rw[size_app,size_app] at h1;simp only[GE.size] at h1;omega
     have ga:=gal wr (.cells #[.int .i64 pp.k,.int .i64 pp.n,.slice b1 m1 n1,.slice b2 m2 n2,.slice b3 m3 n3,.slice b4 m4 n4,.slice b5 m5 n5] 36) none;have ba:=heap_alloc_new wr (.cells #[.int .i64 pp.k,.int .i64 pp.n,.slice b1 m1 n1,.slice b2 m2 n2,.slice b3 m3 n3,.slice b4 m4 n4,.slice b5 m5 n5] 36);have CC:Hid _:=IH.out (d - 1) (by omega) pp kk' aa b1 m1 n1 b2 m2 n2 b3 m3 n3 b4 m4 n4 b5 m5 n5 (room - C) (wr.alloc (.cells #[.int .i64 pp.k,.int .i64 pp.n,.slice b1 m1 n1,.slice b2 m2 n2,.slice b3 m3 n3,.slice b4 m4 n4,.slice b5 m5 n5] 36)) (hnd.none ga) (HS.out _ (gtr hg ga)).2 hszs (by omega);have FX:Hid (w.grownBy (wr.alloc (.cells #[.int .i64 pp.k,.int .i64 pp.n,.slice b1 m1 n1,.slice b2 m2 n2,.slice b3 m3 n3,.slice b4 m4 n4,.slice b5 m5 n5] 36)) none∧InGE (wr.alloc (.cells #[.int .i64 pp.k,.int .i64 pp.n,.slice b1 m1 n1,.slice b2 m2 n2,.slice b3 m3 n3,.slice b4 m4 n4,.slice b5 m5 n5] 36)) (wr.alloc (.cells #[.int .i64 pp.k,.int .i64 pp.n,.slice b1 m1 n1,.slice b2 m2 n2,.slice b3 m3 n3,.slice b4 m4 n4,.slice b5 m5 n5] 36)) false R' b (o+(j+1) * 7)∧P.app (.cons hc hv pp kk' aa R')=kids.app (bod alts)∧okG P (d - 1)=true∧C=1+P.cnt∧ap=some ⟨b,o,none⟩):=⟨gtr hg ga,hR2.le (CLe.grown ga) (CLe.grown ga),hPR,hP,hC,ea⟩
     obtain ⟨⟨z0,z1,z2,z3,z4,z5,z6⟩,hfz⟩:=blkE ba;have hf0:=hfz 0;clear hg hPR hP hC hin hnd hR2 HR ga ba hfz;simp only[GE.len] at hRl
     have ecr:(room:Int) - (C:Int)=((room - C:Nat):Int):=by omega
     subst ea;go_wp2_with fail;refine Calls.mono CC.out ?_;rintro e u3 ⟨he,hgu⟩;subst he;have FY:Hid (w.grownBy u3 none∧TlK u3 (some ⟨b,o,none⟩) (j+1) N R'∧P.app (.cons hc hv pp kk' aa R')=kids.app (bod alts)∧okG P (d - 1)=true∧C=1+P.cnt):=⟨gtr FX.out.1 hgu,⟨by omega,.inr ⟨b,o,rfl,FX.out.2.1.le (CLe.grown hgu) (CLe.grown hgu)⟩⟩,FX.out.2.2.1,FX.out.2.2.2.1,FX.out.2.2.2.2.1⟩;clear FX CC hgu z0 z1 z2 z3 z4 z5 z6 k0 k1 k2 k3 k4 k5 k6 hf0;by_cases hm:ndV pp kk' aa (d - 1) (room - C)=0
     ·
      have E:Hid (ndV p kids alts d room=0):=nd_zero FY.out.2.2.1 FY.out.2.2.2.2 hm;rw[hm];simp only[];go_wp2;go_ret;exact ⟨by rw[E.out];rfl,FY.out.1⟩
     ·
      obtain ⟨e1,e2,e3⟩:=nd_step (hc:=hc) (hv:=hv) FY.out.2.2.2.1 hm;have E3:Hid _:=e3;rw[e1];clear e3 e1 hm
      have hq1:1≤1+kk'.cnt+aa.cnt:=by omega
      have hcn:Hid ((P.app (.cons hc hv pp kk' aa .nil)).cnt=P.cnt+(1+kk'.cnt+aa.cnt)):=by show _=_;rw[cnt_app];simp only[GE.cnt];omega
      generalize 1+kk'.cnt+aa.cnt=M at *
      have hM0:¬ (M:Int)=0:=by omega
      have hMb:((M:Int) == 0)=false:=by simp;omega
      simp only[];go_wp2;go_roundw
      case rel=>exact ⟨j+1,C+M,P.app (.cons hc hv pp kk' aa .nil),R',by omega,by go_num,by go_num,by omega,by omega,FY.out.1,FY.out.2.1,by rw[GE.app_assoc];exact FY.out.2.2.1,E3.out,by have:=FY.out.2.2.2.2;have:=hcn.out;omega⟩
      case measure=>simp [intOf];omega
    ·
     obtain rfl:j=N:=by omega
     obtain ⟨hg,⟨hRl,-⟩,hPR,hP,hC⟩:=HR.out;obtain rfl:R = .nil:=GE.nil_of_len (by omega);rw[GE.app_nil] at hPR;subst hPR;have E:Hid (ndV p kids alts d room=C∧w.grownBy wr none):=⟨by rw[hC];exact nd_end HN.out hd0 hP (by omega),hg⟩;clear HR hg hRl hP hC;go_wp2;go_ret;exact ⟨by rw[E.out.1];rfl,E.out.2⟩
theorem nwT:∀ d,d≤1000→∀ (p:PE) (kids alts:GE) (a1:Option Addr) (l1 c1:Nat) (a2:Option Addr) (l2 c2:Nat) (a3:Option Addr) (l3 c3:Nat) (a4:Option Addr) (l4 c4:Nat) (a5:Option Addr) (l5 c5:Nat) (room:Nat) (w:World),NdE w p kids alts a1 l1 c1 a2 l2 c2 a3 l3 c3 a4 l4 c4 a5 l5 c5→FormsIn w→kids.size+alts.size≤1048576→room≤10000 →
  Calls Tryz.prog 68 #[.agg #[.int .i64 p.k,.int .i64 p.n,.slice a1 l1 c1,.slice a2 l2 c2,.slice a3 l3 c3,.slice a4 l4 c4,.slice a5 l5 c5],.int .i64 (d:Nat),.int .i64 (room:Nat)] w fun e u=>e = .returned (.int .i64 (ndV p kids alts d room:Nat))∧w.grownBy u none:=by
 intro d
 induction d with
 | zero=>intro _;exact nwT_of 0 (by omega) (fun d' h=>by omega)
 | succ d ih=>intro hd;exact nwT_of (d+1) hd (fun d' h=>by cases h;exact ih (by omega))
theorem implNodesT (p:PE) (kids alts:GE) (a1:Option Addr) (l1 c1:Nat) (a2:Option Addr) (l2 c2:Nat) (a3:Option Addr) (l3 c3:Nat) (a4:Option Addr) (l4 c4:Nat) (a5:Option Addr) (l5 c5:Nat) (w:World) (h:NdE w p kids alts a1 l1 c1 a2 l2 c2 a3 l3 c3 a4 l4 c4 a5 l5 c5) (hF:FormsIn w) (hs:kids.size+alts.size≤1048576) :
  Calls Tryz.prog 32 #[.agg #[.int .i64 p.k,.int .i64 p.n,.slice a1 l1 c1,.slice a2 l2 c2,.slice a3 l3 c3,.slice a4 l4 c4,.slice a5 l5 c5]] w fun e u=>e = .returned (.int .i64 (ndV p kids alts 40 300:Nat))∧w.grownBy u none:=by
 have g0:=gal w (.cells #[.int .i64 p.k,.int .i64 p.n,.slice a1 l1 c1,.slice a2 l2 c2,.slice a3 l3 c3,.slice a4 l4 c4,.slice a5 l5 c5] 36) none;have b0:=heap_alloc_new w (.cells #[.int .i64 p.k,.int .i64 p.n,.slice a1 l1 c1,.slice a2 l2 c2,.slice a3 l3 c3,.slice a4 l4 c4,.slice a5 l5 c5] 36);have C0:Hid _:=nwT 40 (by omega) p kids alts a1 l1 c1 a2 l2 c2 a3 l3 c3 a4 l4 c4 a5 l5 c5 300 (w.alloc (.cells #[.int .i64 p.k,.int .i64 p.n,.slice a1 l1 c1,.slice a2 l2 c2,.slice a3 l3 c3,.slice a4 l4 c4,.slice a5 l5 c5] 36)) (h.none g0) (hF.none g0) hs (by omega);have G0:Hid _:=g0;obtain ⟨⟨y0,y1,y2,y3,y4,y5,y6⟩,-⟩:=blkE b0;clear g0 b0 h hF;go_enter Tryz.func32,Tryz.ntmps32;go_wp2_with fail;refine Calls.mono C0.out ?_;rintro e u ⟨rfl,hg⟩;have GF:Hid (w.grownBy u none):=gtr G0.out hg;clear C0 G0 hg y0 y1 y2 y3 y4 y5 y6;simp only[];go_wp2;go_ret;exact ⟨rfl,GF.out⟩
end Go.Proofs.YtblbnillilbacaaGreatDoor.By
