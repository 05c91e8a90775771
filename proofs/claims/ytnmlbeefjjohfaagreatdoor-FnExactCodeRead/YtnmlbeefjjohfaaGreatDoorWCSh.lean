/-
  No statement is proved here.
-/
import Derived.Test.YtnmlbeefjjohfaaGreatDoorWBAlsoSh
namespace Go.Proofs.YtnmlbeefjjohfaaGreatDoor.By
set_option maxRecDepth 100000
set_option maxHeartbeats 16000000
open Go.RowKit
set_option linter.unusedVariables false
set_option linter.unusedSimpArgs false
theorem tysB_eq {M:Nat}:∀ (d:F),lwF M d=true→tysB d=bytesF d
 | .nil,_=>rfl
 | .cons k n d r,h=>by
  obtain ⟨h1,h2⟩:=lwF_cons2 h;simp only[tysB,bytesF,bytesV,if_pos h1,tyB,tysB_eq r h2]
theorem tyB_len (k n:Int) (d:F):(tyB k n d).length≤11 * (1+d.size):=by
 have h1:=headB_len k n d.len;have h2:=bytesF_len d;rw[tyB,lA];omega
theorem lwF_size {M:Nat}:∀ (d:F),lwF M d=true→d.size≤60 * d.len
 | .nil,_=>by simp [F.size]
 | .cons k n d r,h=>by
  obtain ⟨h1,h2⟩:=lwF_cons2 h;simp only[okT,bA9,dE9] at h1;have:=lwF_size r h2;simp only[F.size,F.len];omega
structure WS (w:World) (p0:Nat) (u:World) (v:Value) (zs:List Int) (a1:Option Addr) (l1 c1:Nat) (a2:Option Addr) (l2 c2:Nat) (a3:Option Addr) (l3 c3:Nat):Prop where
 acc:Acc w.heap.size u v zs
 fr:Fr w.heap.size w u
 box:u.heap[p0]? = some (Obj.cells #[.slice a1 l1 c1,.slice a2 l2 c2,.slice a3 l3 c3] 27)
theorem WS.go {w u u':World} {p0:Nat} {v v':Value} {zs zs':List Int} {a1 a2 a3:Option Addr} {l1 c1 l2 c2 l3 c3:Nat} (h:WS w p0 u v zs a1 l1 c1 a2 l2 c2 a3 l3 c3) (hA:Acc w.heap.size u' v' zs') (hf:Fr w.heap.size u u'):WS w p0 u' v' zs' a1 l1 c1 a2 l2 c2 a3 l3 c3 :=
 ⟨hA,h.fr.trans hf,hf.other _ _ _ _ h.box (by decide)⟩
theorem WS.gr {w u u':World} {p0:Nat} {v v':Value} {zs zs':List Int} {a1 a2 a3:Option Addr} {l1 c1 l2 c2 l3 c3:Nat} (h:WS w p0 u v zs a1 l1 c1 a2 l2 c2 a3 l3 c3) (hA:Acc w.heap.size u' v' zs') (hf:u.grownBy u' none):WS w p0 u' v' zs' a1 l1 c1 a2 l2 c2 a3 l3 c3 :=
 h.go hA (Fr.grown hf h.acc.size)
theorem WS.cle {w u:World} {p0:Nat} {v:Value} {zs:List Int} {a1 a2 a3:Option Addr} {l1 c1 l2 c2 l3 c3:Nat} (h:WS w p0 u v zs a1 l1 c1 a2 l2 c2 a3 l3 c3):CLe w u:=cle_below h.fr.below
theorem l8bytesT (x:RProg) (a1:Option Addr) (l1 c1:Nat) (a2:Option Addr) (l2 c2:Nat) (a3:Option Addr) (l3 c3:Nat) (w:World) (h0:RdProg w x a1 l1 a2 l2 a3 l3) (hv:standsV x=true) :
  Calls Tryz.prog 35 #[.agg #[.slice a1 l1 c1,.slice a2 l2 c2,.slice a3 l3 c3]] w fun e u=>∃ v',e = .returned v'∧Acc w.heap.size u v' ([76,75]++progB x)∧w.grownBy u none:=by
 have g0:=gal w (.cells #[.slice a1 l1 c1,.slice a2 l2 c2,.slice a3 l3 c3] 27) none;have b0:=hnw w (.cells #[.slice a1 l1 c1,.slice a2 l2 c2,.slice a3 l3 c3] 27);have ga:=gal (w.alloc (.cells #[.slice a1 l1 c1,.slice a2 l2 c2,.slice a3 l3 c3] 27)) (.cells #[.int .u8 76,.int .u8 75] 5) none
 have A0:Acc w.heap.size ((w.alloc (.cells #[.slice a1 l1 c1,.slice a2 l2 c2,.slice a3 l3 c3] 27)).alloc (.cells #[.int .u8 76,.int .u8 75] 5)) (.slice (some ⟨w.heap.size+1,0,none⟩) 2 2) [76,75]:=by
  have e:(w.alloc (.cells #[.slice a1 l1 c1,.slice a2 l2 c2,.slice a3 l3 c3] 27)).heap.size=w.heap.size+1:=by simp
  have:=World.ownsRow_lit (base:=w.heap.size) (e:=5) (size:=1) (w.alloc (.cells #[.slice a1 l1 c1,.slice a2 l2 c2,.slice a3 l3 c3] 27)) #[.int .u8 76,.int .u8 75] 2 (by omega) (by simp [maxLen]) rfl;rw[e] at this;exact ⟨this,by simp⟩
 have e1:x.lays.length=l1:=h0.1.1;have e2:x.blks.length=l2:=h0.2.1.1;have e3:x.caps.length=l3:=h0.2.2.1.1;have m1:=h0.1.2.1;have m2:=h0.2.1.2.1;have m3:=h0.2.2.2;unfold standsV laysV at hv;simp only[bA9,dE9,Bool.not_eq_true'] at hv;obtain ⟨⟨n1,n2⟩,⟨⟨n3,hlay⟩,hcap⟩,hblk⟩:=hv;rw[e1] at n3 hlay hblk;rw[e2] at n1 n2;have n5:=capsV_len hcap;rw[e3] at n5;have hnA:=numB_len (l1:Int);have hnB:=numB_len (l2:Int);have hnC:=numB_len (l3:Int);have hs1:=laysB_len x.lays hlay;have hs3:=numsB_len x.caps;rw[e1] at hs1;rw[e3] at hs3;have L0:Hid (WS w w.heap.size ((w.alloc (.cells #[.slice a1 l1 c1,.slice a2 l2 c2,.slice a3 l3 c3] 27)).alloc (.cells #[.int .u8 76,.int .u8 75] 5)) (.slice (some ⟨w.heap.size+1,0,none⟩) 2 2) ([76,75]) a1 l1 c1 a2 l2 c2 a3 l3 c3):=⟨A0,Fr.grown (gtr g0 ga) (Nat.le_refl _),(ga.block _ (lbk b0) (by simp)).trans b0⟩;have H0:Hid (RdProg w x a1 l1 a2 l2 a3 l3):=h0;have HLAY:Hid (x.lays.all (layV l1)=true):=hlay
 have HBLK:Hid ((x.blks.any fun b=>!blockV l1 b)=false):=hblk
 have HPB:Hid (progB x=numB (l1:Int)++(laysB x.lays++(numB (l3:Int)++(numsB x.caps++(numB (l2:Int)++blksB x.blks))))):=by show _=_;unfold progB;rw[e1,e2,e3]
 obtain ⟨⟨y0,y1,y2⟩,-⟩:=blkProg b0;obtain ⟨⟨y0',y1',y2'⟩,-⟩:=blkProg L0.out.box;have C0:Hid _:=putA w.heap.size _ _ ((l1:Nat):Int) _ L0.out.acc (by simp)
 have HLY:Hid (∀ b ob,a1=some ⟨b,ob,none⟩→0 < l1→InLayout w w x.lays b ob):=fun b ob e hp=>by
  rcases H0.out.1.cases with ⟨h,_⟩|⟨b',ob',h,hi,_⟩
  ·
   omega
  ·
   rw[e] at h;injection h with h;injection h with h1 h2;subst h1 h2;exact hi
 have HLA:Hid (0 < l1→∃ b ob,a1=some ⟨b,ob,none⟩):=fun hp=>by
  rcases H0.out.1.cases with ⟨h,_⟩|⟨b',ob',h,hi,_⟩
  ·
   omega
  ·
   exact ⟨b',ob',h⟩
 have HBY:Hid (∀ b ob,a2=some ⟨b,ob,none⟩→0 < l2→InBlock w w x.blks b ob):=fun b ob e hp=>by
  rcases H0.out.2.1.cases with ⟨h,_⟩|⟨b',ob',h,hi,_⟩
  ·
   omega
  ·
   rw[e] at h;injection h with h;injection h with h1 h2;subst h1 h2;exact hi
 have HBA:Hid (0 < l2→∃ b ob,a2=some ⟨b,ob,none⟩):=fun hp=>by
  rcases H0.out.2.1.cases with ⟨h,_⟩|⟨b',ob',h,hi,_⟩
  ·
   omega
  ·
   exact ⟨b',ob',h⟩
 have HCR:Hid (RdI w a3 l3 x.caps):=H0.out.2.2;clear h0 g0 b0 ga A0 hlay hblk hcap e3 H0;go_enter Tryz.func35,Tryz.ntmps35;go_wp2_with fail;refine Calls.mono C0.out ?_;rintro e v1 ⟨vv0,rfl,hA,hg⟩;have L1:Hid (WS w w.heap.size v1 vv0 ([76,75]++numB (l1:Int)) a1 l1 c1 a2 l2 c2 a3 l3 c3):=L0.out.gr hA hg;clear C0 hA hg L0 y0 y1 y2 y0' y1' y2';obtain ⟨p0,hp0⟩:∃ p0,p0=w.heap.size:=⟨_,rfl⟩;rw[← hp0] at L1;simp only[← hp0];clear hp0;obtain ⟨⟨y0,y1,y2⟩,-⟩:=blkProg L1.out.box;obtain ⟨zz,hzz⟩:∃ zz,zz=[76,75]++numB (l1:Int):=⟨_,rfl⟩;rw[← hzz] at L1
 have hzl:zz.length≤10:=by rw[hzz];simp only[lA,lB,lC];omega
 go_wp2
 go_loopw [3,4] (fun vv i wr=>∃ (j:Nat) (pre R:List RLayout),j≤l1∧i = .int .i64 j∧pre.length=j∧R.length+j=l1∧Hid (WS w p0 wr vv (zz++laysB pre) a1 l1 c1 a2 l2 c2 a3 l3 c3∧pre++R=x.lays∧∀ b ob,a1=some ⟨b,ob,none⟩→0 < l1→InLayout w w R b (ob+j * 1))) (fun _ i _=>l1 - (intOf i).toNat)
 case atStart=>exact ⟨0,[],x.lays,Nat.zero_le _,rfl,rfl,by omega,by simpa [laysB] using L1.out,rfl,fun b ob e hp=>by simpa using HLY.out b ob e hp⟩
 case round =>
  clear L1 y0 y1 y2;obtain ⟨j,pre,R,hj,rfl,hpl,hRl,HQ⟩:=hrel;obtain ⟨⟨y0,y1,y2⟩,-⟩:=blkProg HQ.out.1.box;by_cases hlt:j < l1
  ·
   obtain ⟨y,R',rfl⟩:∃ x R',R=x::R':=by
    cases R with
    | nil=>simp at hRl;omega
    | cons x R'=>exact ⟨x,R',rfl⟩
   obtain ⟨b,ob,rfl⟩:=HLA.out (by omega);obtain ⟨hP,hcs,hin⟩:=HQ.out;obtain ⟨⟨e1',f1,g1,k0w,hd⟩,hR2⟩:=hin b ob rfl (by omega);have hd':SlTys w e1' f1 y.cons:=hd;rw[show ob+j * 1+1=ob+(j+1) * 1 by omega] at hR2;simp only[lB] at hRl;simp only[Nat.mul_one] at k0w;have k0:=hP.cle _ _ k0w
   have hally:layV l1 y=true∧pre.all (layV l1)=true:=by
    have:=HLAY.out;rw[← hcs] at this;simp only[List.all_append,List.all_cons,bA9] at this;exact ⟨this.2.1,this.1⟩
   have hpre:=laysB_len pre hally.2;have hyy:=hally.1;simp only[layV,bA9,dE9] at hyy;obtain ⟨⟨hc1,hc5⟩,hcons⟩:=hyy;have hcl:=hd'.1;rw[hcl] at hc1 hc5;have hcm:=hd'.2.1
   obtain ⟨b1,o1,rfl,hin1⟩:∃ b1 o1,e1' = some ⟨b1,o1,none⟩∧InTys w w y.cons b1 o1:=by
    rcases hd'.2.2 with h|h
    ·
     omega
    ·
     exact h
   have C1:Hid _:=putA w.heap.size _ _ ((f1:Nat):Int) wr hP.acc (by simp only[lA];omega);have FX:Hid ((pre++[y])++R' = x.lays∧(∀ b' ob',some (⟨b,ob,none⟩:Addr)=some ⟨b',ob',none⟩→0 < l1→InLayout w w R' b' (ob' + (j+1) * 1))∧(zz++laysB pre)++(numB (f1:Int)++consB y.cons)=zz++laysB (pre++[y])):=⟨by rw[lD9];exact hcs,fun b' ob' e _=>by injection e with e;injection e with h1 h2;subst h1 h2;exact hR2,by rw[laysB_app];simp [laysB,layB,hcl,lD9]⟩;have I1:Hid (InTys w w y.cons b1 o1∧y.cons.all (conV l1)=true):=⟨hin1,hcons⟩;have M0:Hid (WS w p0 wr u3 (zz++laysB pre) (some ⟨b,ob,none⟩) l1 c1 a2 l2 c2 a3 l3 c3):=hP;have K0W:Hid (w.cell? ⟨b,ob+j,none⟩=some (.slice (some ⟨b1,o1,none⟩) f1 g1)):=k0w;have hnf:=numB_len (f1:Int)
   have hj0:(0:Int)≤(j:Int):=by omega
   have hj1:(j:Int) < (l1:Int):=by omega
   clear hP hcs hin hd hd' hR2 HQ hin1 hcons hally k0w;go_wp2_with fail;refine Calls.mono C1.out ?_;rintro e t1 ⟨v3,rfl,hA,hg⟩;have M1:Hid (WS w p0 t1 v3 ((zz++laysB pre)++numB (f1:Int)) (some ⟨b,ob,none⟩) l1 c1 a2 l2 c2 a3 l3 c3):=M0.out.gr hA hg;clear C1 hA hg M0 k0 y0 y1 y2;obtain ⟨⟨y0,y1,y2⟩,-⟩:=blkProg M1.out.box;have k0:=M1.out.cle _ _ K0W.out;obtain ⟨zy,hzy⟩:∃ zy,zy=(zz++laysB pre)++numB (f1:Int):=⟨_,rfl⟩;rw[← hzy] at M1
   have hzyl:zy.length≤300000:=by rw[hzy];simp only[lA];omega
   have HZY:Hid (zy++consB y.cons=zz++laysB (pre++[y])):=by show _=_;rw[hzy,← FX.out.2.2];simp only[lD9]
   clear hzy;simp only[];go_wp2;clear k0 y0 y1 y2
   go_loopw [3,5] (fun vv i ww=>∃ (m:Nat) (P2 Q:List F),m≤f1∧i = .int .i64 m∧P2.length=m∧Q.length+m=f1∧Hid (WS w p0 ww vv (zy++consB P2) (some ⟨b,ob,none⟩) l1 c1 a2 l2 c2 a3 l3 c3∧P2++Q=y.cons∧InTys w w Q b1 (o1+m * 1))) (fun _ i _=>f1 - (intOf i).toNat)
   case atStart=>exact ⟨0,[],y.cons,Nat.zero_le _,rfl,rfl,by omega,by simpa [consB] using M1.out,rfl,by simpa using I1.out.1⟩
   case round =>
    clear M1;obtain ⟨m,P2,Q,hm,rfl,hml,hQl,HQ2⟩:=hrel;obtain ⟨⟨y0,y1,y2⟩,-⟩:=blkProg HQ2.out.1.box;have k0:=HQ2.out.1.cle _ _ K0W.out;by_cases hlt2:m < f1
    ·
     obtain ⟨f,Q',rfl⟩:∃ x R',Q=x::R':=by
      cases Q with
      | nil=>simp at hQl;omega
      | cons x R'=>exact ⟨x,R',rfl⟩
     obtain ⟨hP,hcs,⟨⟨e2',f2,g2,k1,hd⟩,hQ2⟩⟩:=HQ2.out;rw[show o1+m * 1+1=o1+(m+1) * 1 by omega] at hQ2;simp only[lB] at hQl;have k1:=hP.cle _ _ k1;simp only[Nat.mul_one] at k1
     have hallf:conV l1 f=true∧P2.all (conV l1)=true:=by
      have:=I1.out.2;rw[← hcs] at this;simp only[List.all_append,List.all_cons,bA9] at this;exact ⟨this.2.1,this.1⟩
     have hpre2:=consB_len P2 hallf.2;have hff:=hallf.1;simp only[conV,bA9,dE9] at hff;have hfs:=lwF_size f hff.2;have hf3:=hff.1;have FY:Hid ((P2++[f])++Q' = y.cons∧InTys w w Q' b1 (o1+(m+1) * 1)∧(zy++consB P2)++(numB (f.len:Int)++bytesF f)=zy++consB (P2++[f])):=⟨by rw[lD9];exact hcs,hQ2,by rw[consB_app];simp [consB,conB,tysB_eq f hff.2,lD9]⟩;have C3:Hid _:=l8tysT w l1 f e2' f2 g2 u3 (zy++consB P2) wr hd hP.fr.below hP.acc hff.2 (by simp only[lA];omega);have N0:Hid (WS w p0 wr u3 (zy++consB P2) (some ⟨b,ob,none⟩) l1 c1 a2 l2 c2 a3 l3 c3):=hP
     have hm0:(0:Int)≤(m:Int):=by omega
     have hm1:(m:Int) < (f1:Int):=by omega
     clear hP hcs hd hQ2 HQ2 hallf hff;go_wp2_with fail;refine Calls.mono C3.out ?_;rintro e t3 ⟨v6,rfl,hA,hF⟩
     have N2:Hid (WS w p0 t3 v6 (zy++consB (P2++[f])) (some ⟨b,ob,none⟩) l1 c1 a2 l2 c2 a3 l3 c3):=by rw[← FY.out.2.2];exact N0.out.go hA hF
     clear C3 hA hF N0 k0 k1 y0 y1 y2;simp only[];go_wp2;go_roundw
     case rel=>exact ⟨m+1,P2++[f],Q',by omega,by go_num,by simp [hml],by omega,N2.out,FY.out.1,FY.out.2.1⟩
     case measure=>simp [intOf];omega
    ·
     obtain rfl:m=f1:=by omega
     obtain rfl:Q=[]:=lz0 (by omega);obtain ⟨hP,hcs,-⟩:=HQ2.out;rw[List.append_nil] at hcs
     have FZ:Hid (WS w p0 wr u3 (zz++laysB (pre++[y])) (some ⟨b,ob,none⟩) l1 c1 a2 l2 c2 a3 l3 c3):=by rw[← HZY.out,← hcs];exact hP
     clear hP hcs HQ2;go_wp2;clear k0 y0 y1 y2;go_roundw
     case rel=>exact ⟨j+1,pre++[y],R',by omega,by go_num,by simp [hpl],by omega,FZ.out,FX.out.1,FX.out.2.1⟩
     case measure=>simp [intOf];omega
  ·
   obtain rfl:j=l1:=by omega
   obtain rfl:R=[]:=lz0 (by omega);obtain ⟨hP,hcs,-⟩:=HQ.out;rw[List.append_nil] at hcs;rw[hcs] at hP;have K0:Hid (WS w p0 wr u3 (zz++laysB x.lays) a1 j c1 a2 l2 c2 a3 l3 c3):=hP;clear hP HQ hcs hpl;have D0:Hid _:=putA w.heap.size _ _ ((l3:Nat):Int) wr K0.out.acc (by simp only[lA];omega);go_wp2_with fail;refine Calls.mono D0.out ?_;rintro e s1 ⟨x1,rfl,hA,hg⟩;have K1:Hid (WS w p0 s1 x1 ((zz++laysB x.lays)++numB (l3:Int)) a1 j c1 a2 l2 c2 a3 l3 c3):=K0.out.gr hA hg;clear D0 hA hg K0 y0 y1 y2;obtain ⟨⟨y0,y1,y2⟩,-⟩:=blkProg K1.out.box;obtain ⟨zc,hzc⟩:∃ z,z=(zz++laysB x.lays)++numB (l3:Int):=⟨_,rfl⟩;rw[← hzc] at K1
   have hzcl:zc.length≤300000:=by rw[hzc];simp only[lA];omega
   simp only[];go_wp2;clear y0 y1 y2
   go_loopw [3,6] (fun vv i ww=>∃ (m:Nat) (P2 Q:List Int),m≤l3∧i = .int .i64 m∧P2.length=m∧Q.length+m=l3∧Hid (WS w p0 ww vv (zc++numsB P2) a1 j c1 a2 l2 c2 a3 l3 c3∧P2++Q=x.caps)) (fun _ i _=>l3 - (intOf i).toNat)
   case atStart=>exact ⟨0,[],x.caps,Nat.zero_le _,rfl,rfl,by have:=HCR.out.1.1;omega,by simpa [numsB] using K1.out,rfl⟩
   case round =>
    clear K1;obtain ⟨m,P2,Q,hm,rfl,hml,hQl,HQ2⟩:=hrel;obtain ⟨⟨y0,y1,y2⟩,-⟩:=blkProg HQ2.out.1.box;by_cases hlt2:m < l3
    ·
     obtain ⟨z,Q',rfl⟩:∃ x R',Q=x::R':=by
      cases Q with
      | nil=>simp at hQl;omega
      | cons x R'=>exact ⟨x,R',rfl⟩
     obtain ⟨hP,hcs⟩:=HQ2.out;simp only[lB] at hQl
     obtain ⟨b,ob,rfl,hc⟩:∃ b o,a3=some ⟨b,o,none⟩∧∀ i,i < l3→w.cell? ⟨b,o+i,none⟩=some (.int .i64 (x.caps.getD i 0)):=by
      rcases HCR.out.1.2 with h|h
      ·
       omega
      ·
       exact h
     have k0:=hP.cle _ _ (hc m hlt2);rw[show x.caps.getD m 0=z by rw[← hcs,List.getD_eq_getElem?_getD,List.getElem?_append_right (by omega),hml,Nat.sub_self];rfl] at k0;have hn5:=numsB_len P2;have C3:Hid _:=putA w.heap.size u3 (zc++numsB P2) z wr hP.acc (by simp only[lA];omega);have N0:Hid (WS w p0 wr u3 (zc++numsB P2) a1 j c1 a2 l2 c2 (some ⟨b,ob,none⟩) l3 c3):=hP
     have FY:Hid ((P2++[z])++Q' = x.caps):=by show _=_;rw[lD9];exact hcs
     have hm0:(0:Int)≤(m:Int):=by omega
     have hm1:(m:Int) < (l3:Int):=by omega
     clear hP hcs hc HQ2;go_wp2_with fail;refine Calls.mono C3.out ?_;rintro e t3 ⟨v6,rfl,hA,hg⟩
     have N2:Hid (WS w p0 t3 v6 (zc++numsB (P2++[z])) a1 j c1 a2 l2 c2 (some ⟨b,ob,none⟩) l3 c3):=by rw[numsB_app,← lD9];exact N0.out.gr (by simpa [numsB] using hA) hg
     clear C3 hA hg N0 k0 y0 y1 y2;simp only[];go_wp2;go_roundw
     case rel=>exact ⟨m+1,P2++[z],Q',by omega,by go_num,by simp [hml],by omega,N2.out,FY.out⟩
     case measure=>simp [intOf];omega
    ·
     obtain rfl:m=l3:=by omega
     obtain rfl:Q=[]:=lz0 (by omega);obtain ⟨hP,hcs⟩:=HQ2.out;rw[List.append_nil] at hcs;rw[hcs] at hP;have K2:Hid (WS w p0 wr u3 (zc++numsB x.caps) a1 j c1 a2 l2 c2 a3 m c3):=hP;clear hP hcs HQ2 hml;have D2:Hid _:=putA w.heap.size _ _ ((l2:Nat):Int) wr K2.out.acc (by simp only[lA];omega);go_wp2_with fail;refine Calls.mono D2.out ?_;rintro e s3 ⟨x3,rfl,hA,hg⟩;have K3:Hid (WS w p0 s3 x3 ((zc++numsB x.caps)++numB (l2:Int)) a1 j c1 a2 l2 c2 a3 m c3):=K2.out.gr hA hg;clear D2 hA hg K2 y0 y1 y2;obtain ⟨⟨y0,y1,y2⟩,-⟩:=blkProg K3.out.box;obtain ⟨zt,hzt⟩:∃ zt,zt=(zc++numsB x.caps)++numB (l2:Int):=⟨_,rfl⟩;rw[← hzt] at K3
     have hztl:zt.length≤400000:=by rw[hzt];simp only[lA];omega
     have HZT:Hid (zt++blksB x.blks=[76,75]++progB x):=by show _=_;rw[hzt,hzc,hzz,HPB.out];simp only[lD9]
     clear hzt hzc hzz HPB;simp only[];go_wp2;clear y0 y1 y2
     go_loopw [3,7] (fun vv i ww=>∃ (k:Nat) (P2 Q:List RBlock),k≤l2∧i = .int .i64 k∧P2.length=k∧Q.length+k=l2∧Hid (WS w p0 ww vv (zt++blksB P2) a1 j c1 a2 l2 c2 a3 m c3∧P2++Q=x.blks∧∀ b ob,a2=some ⟨b,ob,none⟩→0 < l2→InBlock w w Q b (ob+k * 9))) (fun _ i _=>l2 - (intOf i).toNat)
     case atStart=>exact ⟨0,[],x.blks,Nat.zero_le _,rfl,rfl,by omega,by simpa [blksB] using K3.out,rfl,fun b ob e hp=>by simpa using HBY.out b ob e hp⟩
     case round =>
      clear K3;obtain ⟨k,P2,Q,hm,rfl,hml,hQl,HQ2⟩:=hrel;obtain ⟨⟨y0,y1,y2⟩,-⟩:=blkProg HQ2.out.1.box;by_cases hlt2:k < l2
      ·
       obtain ⟨y,Q',rfl⟩:∃ x R',Q=x::R':=by
        cases Q with
        | nil=>simp at hQl;omega
        | cons x R'=>exact ⟨x,R',rfl⟩
       obtain ⟨b,ob,rfl⟩:=HBA.out (by omega);obtain ⟨hP,hcs,hin⟩:=HQ2.out;obtain ⟨⟨e1,f1,g1,e2,f2,g2,e3,f3,g3,e4,f4,g4,e5,f5,g5,⟨k0,k1,k2,k3,k4,k5,k6,k7,k8⟩,hd⟩,hQ2⟩:=hin b ob rfl (by omega);rw[show ob+k * 9+9=ob+(k+1) * 9 by omega] at hQ2;simp only[lB] at hQl;have cl:=hP.cle;have k0:=cl _ _ k0;have k1:=cl _ _ k1;have k2:=cl _ _ k2;have k3:=cl _ _ k3;have k4:=cl _ _ k4;have k5:=cl _ _ k5;have k6:=cl _ _ k6;have k7:=cl _ _ k7;have k8:=cl _ _ k8
       have hally:blockV j y=true∧(P2.any fun b=>!blockV j b)=false:=by
        have:=HBLK.out;rw[← hcs] at this;simp only[List.any_append,List.any_cons,Bool.or_eq_false_iff,Bool.not_eq_false'] at this;exact ⟨this.2.1,this.1⟩
       have hpre2:=blksB_len P2 hally.2;have ga:=gal wr (.cells #[.slice e1 f1 g1,.int .i64 y.argk,.int .i64 y.argn,.slice e2 f2 g2,.int .i64 y.resk,.int .i64 y.resn,.slice e3 f3 g3,.slice e4 f4 g4,.slice e5 f5 g5] 49) none;have ba:=hnw wr (.cells #[.slice e1 f1 g1,.int .i64 y.argk,.int .i64 y.argn,.slice e2 f2 g2,.int .i64 y.resk,.int .i64 y.resn,.slice e3 f3 g3,.slice e4 f4 g4,.slice e5 f5 g5] 49);have N0:Hid (WS w p0 (wr.alloc (.cells #[.slice e1 f1 g1,.int .i64 y.argk,.int .i64 y.argn,.slice e2 f2 g2,.int .i64 y.resk,.int .i64 y.resn,.slice e3 f3 g3,.slice e4 f4 g4,.slice e5 f5 g5] 49)) u3 (zt++blksB P2) a1 j c1 (some ⟨b,ob,none⟩) l2 c2 a3 m c3∧(wr.alloc (.cells #[.slice e1 f1 g1,.int .i64 y.argk,.int .i64 y.argn,.slice e2 f2 g2,.int .i64 y.resk,.int .i64 y.resn,.slice e3 f3 g3,.slice e4 f4 g4,.slice e5 f5 g5] 49)).heap[wr.heap.size]? = some (Obj.cells #[.slice e1 f1 g1,.int .i64 y.argk,.int .i64 y.argn,.slice e2 f2 g2,.int .i64 y.resk,.int .i64 y.resn,.slice e3 f3 g3,.slice e4 f4 g4,.slice e5 f5 g5] 49)):=⟨hP.gr (hP.acc.fr ga) ga,ba⟩
       have FX:Hid ((P2++[y])++Q' = x.blks∧(∀ b' ob',some (⟨b,ob,none⟩:Addr)=some ⟨b',ob',none⟩→0 < l2→InBlock w w Q' b' (ob' + (k+1) * 9))∧(zt++blksB P2)++blockB y=zt++blksB (P2++[y])):=⟨by rw[lD9];exact hcs,fun b' ob' e _=>by injection e with e;injection e with h1 h2;subst h1 h2;exact hQ2,by rw[blksB_app];simp [blksB,lD9]⟩;have hbv:=hally.1;have HD:Hid (RdBlock w y e1 f1 e2 f2 e3 f3 e4 f4 e5 f5):=hd;have c1':y.env.len=f1:=hd.1.1;have c4':y.locs.len=f4:=hd.2.2.2.1.1;have c5':y.code.length=f5:=hd.2.2.2.2.1;have cm5:=hd.2.2.2.2.2.1;unfold blockV at hbv;simp only[bA9,dE9,Bool.not_eq_true'] at hbv;obtain ⟨⟨⟨⟨nn1,nn4⟩,nn5⟩,nn6⟩,⟨⟨hfun,henv⟩,hloc⟩,hall⟩:=hbv;rw[lwF_cons',bA9] at hfun;obtain ⟨hargL,hresL⟩:=fun_low hfun.1;unfold lwT at hargL hresL;rw[bA9] at hargL hresL;have hargO:=hargL.1;have hresO:=hresL.1;have hes:=lwF_size y.env henv;have hls:=lwF_size y.locs hloc;rw[c1'] at nn1 hes;rw[c4'] at nn4 hls
       rw[c5'] at nn5 nn6
       have HBB:Hid (blockB y=(numB (y.env.len:Int)++bytesF y.env)++((tyB y.argk y.argn y.argf++tyB y.resk y.resn y.resf)++((numB (y.locs.len:Int)++bytesF y.locs)++(numB (f5:Int)++codeB y.code)))):=by
        show _=_
        unfold blockB bytesV;rw[if_pos hargO,if_pos hresO,tysB_eq _ henv,tysB_eq _ hloc,c5'];simp only[lD9]
       simp only[okT,bA9,dE9] at hargO hresO;have HOK:Hid ((fitsB y.argk y.argn y.argf.len=true∧okF y.argf 9=true∧1+y.argf.size≤60)∧(fitsB y.resk y.resn y.resf.len=true∧okF y.resf 9=true∧1+y.resf.size≤60)∧lwF j y.env=true∧lwF j y.locs=true∧(y.code.any fun x=>!insV x)=false):=⟨⟨hargO.1.1,hargO.1.2,hargO.2⟩,⟨hresO.1.1,hresO.1.2,hresO.2⟩,henv,hloc,hall⟩
       have hk0:(0:Int)≤(k:Int):=by omega
       have hk1:(k:Int) < (l2:Int):=by omega
       have hP2l:(blksB P2).length≤30000000:=by omega
       clear hP hcs hin hd hQ2 HQ2 cl ga ba hally hargL hresL hargO hresO henv hloc hall hfun hpre2;go_upto_region 20 with fail;clear k0 k1 k2 k3 k4 k5 k6 k7 k8 y0 y1 y2;generalize wr.alloc (.cells #[.slice e1 f1 g1,.int .i64 y.argk,.int .i64 y.argn,.slice e2 f2 g2,.int .i64 y.resk,.int .i64 y.resn,.slice e3 f3 g3,.slice e4 f4 g4,.slice e5 f5 g5] 49)=t0 at *;generalize wr.heap.size=p6 at *;obtain ⟨⟨z0,z1,z2,z3,z4,z5,z6,z7,z8⟩,-⟩:=blkBlock N0.out.2;have C1:Hid _:=l8tysT w j y.env e1 f1 g1 u3 (zt++blksB P2) t0 HD.out.1 N0.out.1.fr.below N0.out.1.acc HOK.out.2.2.1 (by simp only[lA];omega);go_wp2_with fail;refine Calls.mono C1.out ?_;rintro e t1 ⟨v1,rfl,hA,hF⟩;obtain ⟨za,hza⟩:∃ z,z=(zt++blksB P2)++(numB (y.env.len:Int)++bytesF y.env):=⟨_,rfl⟩;rw[← hza] at hA
       have hzal:za.length≤30500000:=by have:=bytesF_len y.env;have:=numB_len (y.env.len:Int);rw[hza];simp only[lA];omega
       have N1:Hid (WS w p0 t1 v1 (za) a1 j c1 (some ⟨b,ob,none⟩) l2 c2 a3 m c3∧t1.heap[p6]? = some (Obj.cells #[.slice e1 f1 g1,.int .i64 y.argk,.int .i64 y.argn,.slice e2 f2 g2,.int .i64 y.resk,.int .i64 y.resn,.slice e3 f3 g3,.slice e4 f4 g4,.slice e5 f5 g5] 49)):=⟨N0.out.1.go hA hF,hF.other _ _ _ _ N0.out.2 (by decide)⟩;clear C1 hA hF N0 z0 z1 z2 z3 z4 z5 z6 z7 z8;simp only[];go_upto_region 21 with fail;have gd:=grown_drew (grf t1 none);obtain ⟨t2,ht2⟩:∃ u,u=t1.drew:=⟨_,rfl⟩
       have N2:Hid (WS w p0 t2 v1 (za) a1 j c1 (some ⟨b,ob,none⟩) l2 c2 a3 m c3∧t2.heap[p6]? = some (Obj.cells #[.slice e1 f1 g1,.int .i64 y.argk,.int .i64 y.argn,.slice e2 f2 g2,.int .i64 y.resk,.int .i64 y.resn,.slice e3 f3 g3,.slice e4 f4 g4,.slice e5 f5 g5] 49)):=by rw[ht2];exact ⟨N1.out.1.gr (N1.out.1.acc.fr gd) gd,(gd.block _ (lbk N1.out.2) (by simp)).trans N1.out.2⟩
       have SK:Hid (∀ u,Fr w.heap.size t2 u→(fun u:World=>u.cell? ⟨p6,0,none⟩=some (.slice e1 f1 g1)∧u.cell? ⟨p6,1,none⟩=some (.int .i64 y.argk)∧u.cell? ⟨p6,2,none⟩=some (.int .i64 y.argn)∧u.cell? ⟨p6,3,none⟩=some (.slice e2 f2 g2)∧u.cell? ⟨p6,4,none⟩=some (.int .i64 y.resk)∧u.cell? ⟨p6,5,none⟩=some (.int .i64 y.resn)∧u.cell? ⟨p6,6,none⟩=some (.slice e3 f3 g3)∧u.cell? ⟨p6,7,none⟩=some (.slice e4 f4 g4)∧u.cell? ⟨p6,8,none⟩=some (.slice e5 f5 g5)) u):=fun u hu=>(blkBlock (hu.other _ _ _ _ N2.out.2 (by decide))).1
       clear gd N1;refine wp_region_held_drew (S:=(fun u:World=>u.cell? ⟨p6,0,none⟩=some (.slice e1 f1 g1)∧u.cell? ⟨p6,1,none⟩=some (.int .i64 y.argk)∧u.cell? ⟨p6,2,none⟩=some (.int .i64 y.argn)∧u.cell? ⟨p6,3,none⟩=some (.slice e2 f2 g2)∧u.cell? ⟨p6,4,none⟩=some (.int .i64 y.resk)∧u.cell? ⟨p6,5,none⟩=some (.int .i64 y.resn)∧u.cell? ⟨p6,6,none⟩=some (.slice e3 f3 g3)∧u.cell? ⟨p6,7,none⟩=some (.slice e4 f4 g4)∧u.cell? ⟨p6,8,none⟩=some (.slice e5 f5 g5))) (by kernel_rfl) (by rw[← ht2];exact SK.out _ (Fr.refl _ _)) (fun hH=>?_);rw[← ht2] at hH ⊢;clear ht2;simp only[sA9,lB,lC,Nat.reduceAdd,Array.replicate,List.replicate];refine tk 0 ?_;refine tk 1 ?_;refine tk 2 ?_;refine tk 4 ?_;refine tk 5 ?_;have CA:=l3bytesT w (y.argf.size+1) y.argf y.argk y.argn e2 f2 g2 v1 za t2 9 (by omega) HD.out.2.1 N2.out.1.fr.below N2.out.1.acc.1 (by rw[← HD.out.2.1.1];exact HOK.out.1.1) HOK.out.1.2.1 (by have:=HOK.out.1.2.2;omega)
       refine rd 3 rfl (fun K hK=>?_);go_simp;refine Calls.mono CA ?_;rintro e t3 ⟨v2,he,hA,hF⟩;subst he;have N3:Hid (WS w p0 t3 v2 (za++tyB y.argk y.argn y.argf) a1 j c1 (some ⟨b,ob,none⟩) l2 c2 a3 m c3∧Fr w.heap.size t2 t3):=⟨N2.out.1.go hA hF,hF⟩;clear CA hA hF;refine hK.out _ _ (SK.out _ N3.out.2) ?_;clear hK K hH;intro hH;simp only[Act.put,nA,nB,nC,nD,nE,nF];have hal:=tyB_len y.argk y.argn y.argf;have CB':=l3bytesT w (y.resf.size+1) y.resf y.resk y.resn e3 f3 g3 v2 (za++tyB y.argk y.argn y.argf) t3 9 (by omega) HD.out.2.2.1 N3.out.1.fr.below N3.out.1.acc.1 (by rw[← HD.out.2.2.1.1];exact HOK.out.2.1.1) HOK.out.2.1.2.1 (by have:=HOK.out.2.1.2.2;have:=HOK.out.1.2.2;rw[lA];omega);refine rd 6 rfl (fun K hK=>?_);go_simp;refine Calls.mono CB' ?_;rintro e t4 ⟨v3,he,hA,hF⟩;subst he;obtain ⟨zb,hzb⟩:∃ z,z=za++tyB y.argk y.argn y.argf++tyB y.resk y.resn y.resf:=⟨_,rfl⟩;rw[← hzb] at hA
       have hzbl:zb.length≤30600000:=by have:=tyB_len y.resk y.resn y.resf;have:=HOK.out.2.1.2.2;have:=HOK.out.1.2.2;rw[hzb];simp only[lA];omega
       have N4:Hid (WS w p0 t4 v3 (zb) a1 j c1 (some ⟨b,ob,none⟩) l2 c2 a3 m c3∧t4.heap[p6]? = some (Obj.cells #[.slice e1 f1 g1,.int .i64 y.argk,.int .i64 y.argn,.slice e2 f2 g2,.int .i64 y.resk,.int .i64 y.resn,.slice e3 f3 g3,.slice e4 f4 g4,.slice e5 f5 g5] 49)):=⟨N3.out.1.go hA hF,(N3.out.2.trans hF).other _ _ _ _ N2.out.2 (by decide)⟩;refine hK.out _ _ (SK.out _ (N3.out.2.trans hF)) ?_;clear CB' hA hF;clear hK K hH;intro hH;simp only[Act.put,nA,nB,nC,nD,nE,nF];refine tk 7 ?_;refine wpAnyH_done (by kernel_rfl) ?_ _;clear hH SK N2 N3;obtain ⟨⟨z0,z1,z2,z3,z4,z5,z6,z7,z8⟩,-⟩:=blkBlock N4.out.2;have C1:Hid _:=l8tysT w j y.locs e4 f4 g4 v3 zb t4 HD.out.2.2.2.1 N4.out.1.fr.below N4.out.1.acc HOK.out.2.2.2.1 (by omega);go_wp2_with fail;refine Calls.mono C1.out ?_;rintro e t5 ⟨v4,rfl,hA,hF⟩;obtain ⟨zd,hzd⟩:∃ z,z=zb++(numB (y.locs.len:Int)++bytesF y.locs):=⟨_,rfl⟩;rw[← hzd] at hA
       have hzdl:zd.length≤30700000:=by have:=bytesF_len y.locs;have:=numB_len (y.locs.len:Int);rw[hzd];simp only[lA];omega
       have N5:Hid (WS w p0 t5 v4 (zd) a1 j c1 (some ⟨b,ob,none⟩) l2 c2 a3 m c3∧t5.heap[p6]? = some (Obj.cells #[.slice e1 f1 g1,.int .i64 y.argk,.int .i64 y.argn,.slice e2 f2 g2,.int .i64 y.resk,.int .i64 y.resn,.slice e3 f3 g3,.slice e4 f4 g4,.slice e5 f5 g5] 49)):=⟨N4.out.1.go hA hF,hF.other _ _ _ _ N4.out.2 (by decide)⟩;clear C1 hA hF N4 z0 z1 z2 z3 z4 z5 z6 z7 z8;obtain ⟨⟨z0,z1,z2,z3,z4,z5,z6,z7,z8⟩,-⟩:=blkBlock N5.out.2;have C2:Hid _:=putA w.heap.size v4 zd ((f5:Nat):Int) t5 N5.out.1.acc (by omega);simp only[];go_wp2_with fail;refine Calls.mono C2.out ?_;rintro e t6 ⟨v5,rfl,hA,hg⟩;obtain ⟨ze,hze⟩:∃ z,z=zd++numB (f5:Int):=⟨_,rfl⟩;rw[← hze] at hA
       have hzel:ze.length≤30800000:=by have:=numB_len (f5:Int);rw[hze];simp only[lA];omega
       have HZE:Hid (ze++codeB y.code=zt++blksB (P2++[y])):=by
        show _=_
        rw[← FX.out.2.2,HBB.out,hze,hzd,hzb,hza];simp only[lD9]
       have N6:Hid (WS w p0 t6 v5 (ze) a1 j c1 (some ⟨b,ob,none⟩) l2 c2 a3 m c3∧t6.heap[p6]? = some (Obj.cells #[.slice e1 f1 g1,.int .i64 y.argk,.int .i64 y.argn,.slice e2 f2 g2,.int .i64 y.resk,.int .i64 y.resn,.slice e3 f3 g3,.slice e4 f4 g4,.slice e5 f5 g5] 49)):=⟨N5.out.1.gr hA hg,(hg.block _ (lbk N5.out.2) (by simp)).trans N5.out.2⟩;clear C2 hA hg N5 z0 z1 z2 z3 z4 z5 z6 z7 z8 hza hzb hzd hze HBB;obtain ⟨⟨z0,z1,z2,z3,z4,z5,z6,z7,z8⟩,-⟩:=blkBlock N6.out.2
       have HCY:Hid (∀ b ob,e5=some ⟨b,ob,none⟩→0 < f5→InIns w w y.code b ob):=fun b ob e hp=>by
        rcases HD.out.2.2.2.2.2.2 with h|⟨b',ob',h,hi⟩
        ·
         omega
        ·
         rw[e] at h;injection h with h;injection h with h1 h2;subst h1 h2;exact hi
       have HCA2:Hid (0 < f5→∃ b ob,e5=some ⟨b,ob,none⟩):=fun hp=>by
        rcases HD.out.2.2.2.2.2.2 with h|⟨b',ob',h,hi⟩
        ·
         omega
        ·
         exact ⟨b',ob',h⟩
       have HALL:Hid ((y.code.any fun x=>!insV x)=false):=HOK.out.2.2.2.2;simp only[];go_wp2;clear z0 z1 z2 z3 z4 z5 z6 z7 z8
       go_loopw [3,9] (fun vv i ww=>∃ (n:Nat) (P3 R:List RIns),n≤f5∧i = .int .i64 n∧P3.length=n∧R.length+n=f5∧Hid (WS w p0 ww vv (ze++codeB P3) a1 j c1 (some ⟨b,ob,none⟩) l2 c2 a3 m c3∧ww.heap[p6]? = some (Obj.cells #[.slice e1 f1 g1,.int .i64 y.argk,.int .i64 y.argn,.slice e2 f2 g2,.int .i64 y.resk,.int .i64 y.resn,.slice e3 f3 g3,.slice e4 f4 g4,.slice e5 f5 g5] 49)∧P3++R=y.code∧∀ b ob,e5=some ⟨b,ob,none⟩→0 < f5→InIns w w R b (ob+n * 5))) (fun _ i _=>f5 - (intOf i).toNat)
       case atStart=>exact ⟨0,[],y.code,Nat.zero_le _,rfl,rfl,by omega,by simpa [codeB] using N6.out.1,N6.out.2,rfl,fun b ob e hp=>by simpa using HCY.out b ob e hp⟩
       case round =>
        clear N6;obtain ⟨n,P3,R,hn,rfl,hnl,hRl,HR3⟩:=hrel;obtain ⟨⟨z0,z1,z2,z3,z4,z5,z6,z7,z8⟩,-⟩:=blkBlock HR3.out.2.1;by_cases hlt3:n < f5
        ·
         obtain ⟨z,R',rfl⟩:∃ x R',R=x::R':=by
          cases R with
          | nil=>simp at hRl;omega
          | cons x R'=>exact ⟨x,R',rfl⟩
         obtain ⟨b5,o5,rfl⟩:=HCA2.out (by omega);obtain ⟨hW,hb6,hcs,hin⟩:=HR3.out;obtain ⟨⟨za1,zl1,zc1,za2,zl2,zc2,⟨n0,n1',n2',n3',n4'⟩,hdz⟩,hR2⟩:=hin b5 o5 rfl (by omega);rw[show o5+n * 5+5=o5+(n+1) * 5 by omega] at hR2;simp only[lB] at hRl;have n0:=hW.cle _ _ n0;have n1':=hW.cle _ _ n1';have n2':=hW.cle _ _ n2';have n3':=hW.cle _ _ n3';have n4':=hW.cle _ _ n4'
         have hallz:insV z=true∧(P3.any fun x=>!insV x)=false:=by
          have:=HALL.out;rw[← hcs] at this;simp only[List.any_append,List.any_cons,Bool.or_eq_false_iff,Bool.not_eq_false'] at this;exact ⟨this.2.1,this.1⟩
         have hc3:=codeB_len P3 hallz.2;have CC:Hid _:=l8insT w z za1 zl1 zc1 za2 zl2 zc2 u3 (ze++codeB P3) wr hdz hW.fr.below hW.acc hallz.1 (by rw[lA];omega);have FZ:Hid (WS w p0 wr u3 (ze++codeB P3) a1 j c1 (some ⟨b,ob,none⟩) l2 c2 a3 m c3∧wr.heap[p6]? = some (Obj.cells #[.slice e1 f1 g1,.int .i64 y.argk,.int .i64 y.argn,.slice e2 f2 g2,.int .i64 y.resk,.int .i64 y.resn,.slice e3 f3 g3,.slice e4 f4 g4,.slice (some ⟨b5,o5,none⟩) f5 g5] 49)∧(P3++[z])++R' = y.code∧∀ b ob,some (⟨b5,o5,none⟩:Addr)=some ⟨b,ob,none⟩→0 < f5→InIns w w R' b (ob+(n+1) * 5)):=⟨hW,hb6,by rw[lD9];exact hcs,fun b ob e _=>by injection e with e;injection e with h1 h2;subst h1 h2;exact hR2⟩
         have hn0:(0:Int)≤(n:Int):=by omega
         have hn1:(n:Int) < (f5:Int):=by omega
         clear hW hb6 hcs hin hdz hR2 HR3 hallz;go_wp2_with fail;refine Calls.mono CC.out ?_;rintro e t7 ⟨v7,rfl,hA,hF⟩;have FW:Hid (WS w p0 t7 v7 (ze++codeB (P3++[z])) a1 j c1 (some ⟨b,ob,none⟩) l2 c2 a3 m c3∧t7.heap[p6]? = some (Obj.cells #[.slice e1 f1 g1,.int .i64 y.argk,.int .i64 y.argn,.slice e2 f2 g2,.int .i64 y.resk,.int .i64 y.resn,.slice e3 f3 g3,.slice e4 f4 g4,.slice (some ⟨b5,o5,none⟩) f5 g5] 49)):=⟨by rw[codeB_app,← lD9];exact FZ.out.1.go (by simpa [codeB] using hA) hF,hF.other _ _ _ _ FZ.out.2.1 (by decide)⟩;clear CC hA hF n0 n1' n2' n3' n4' z0 z1 z2 z3 z4 z5 z6 z7 z8;simp only[];go_wp2;go_roundw
         case rel=>exact ⟨n+1,P3++[z],R',by omega,by go_num,by simp [hnl],by omega,FW.out.1,FW.out.2,FZ.out.2.2.1,FZ.out.2.2.2⟩
         case measure=>simp [intOf];omega
        ·
         obtain rfl:n=f5:=by omega
         obtain rfl:R=[]:=lz0 (by omega);obtain ⟨hW,hb6,hcs,-⟩:=HR3.out;rw[List.append_nil] at hcs
         have FW:Hid (WS w p0 wr u3 (zt++blksB (P2++[y])) a1 j c1 (some ⟨b,ob,none⟩) l2 c2 a3 m c3):=by rw[← HZE.out,← hcs];exact hW
         clear hW hb6 hcs HR3;go_wp2;clear z0 z1 z2 z3 z4 z5 z6 z7 z8;go_roundw
         case rel=>exact ⟨k+1,P2++[y],Q',by omega,by go_num,by simp [hml],by omega,FW.out,FX.out.1,FX.out.2.1⟩
         case measure=>simp [intOf];omega
      ·
       obtain rfl:k=l2:=by omega
       obtain rfl:Q=[]:=lz0 (by omega);obtain ⟨hP,hcs,-⟩:=HQ2.out;rw[List.append_nil] at hcs;rw[hcs] at hP;have FQ:Hid (Acc w.heap.size wr u3 ([76,75]++progB x)∧w.grownBy wr none):=⟨by rw[← HZT.out];exact hP.acc,grown_of_below hP.fr.below⟩;clear hP hcs HQ2;go_wp2;go_ret;exact ⟨_,rfl,FQ.out.1,FQ.out.2⟩
end Go.Proofs.YtnmlbeefjjohfaaGreatDoor.By
