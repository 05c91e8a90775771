/-
  No statement is proved here.
-/
import Derived.Test.YtblbnillilbacaaGreatDoorEZaAlsoa
import Derived.Test.YtblbnillilbacaaGreatDoorEYa
namespace Go.Proofs.YtblbnillilbacaaGreatDoor.By
set_option maxRecDepth 100000
set_option maxHeartbeats 16000000
open Go.RowKit
set_option linter.unusedVariables false
set_option linter.unusedSimpArgs false
theorem specDatasT (ds:List Da) (a:Option Addr) (l c:Nat) (w:World) (h:SlDa w a l ds) (hlc:l≤c) :
  Calls Tryz.prog 24 #[.slice a l c] w fun e u=>e = .returned (.bool (specV ds))∧w.grownBy u none:=by
 have hl:=h.2.1;have hfl:=h.1;by_cases h6:l≤6
 rotate_left
 ·
  have EV:Hid (specV ds=false):=by show _=_;unfold specV;rw[hfl];simp [h6]
  have h6':(l:Int) > 6:=by omega
  have GF:Hid (w.grownBy w none):=grf _ _;go_enter Tryz.func24,Tryz.ntmps24;go_wp2;go_ret;exact ⟨by rw[EV.out];rfl,GF.out⟩
 have h6':¬ (l:Int) > 6:=by omega
 have h6b:decide ((l:Int) > 6)=false:=by simpa using h6'
 have EV:Hid (specV ds=sV ds [] ds):=by show _=_;unfold specV;rw[hfl];simp [h6]
 have HD:Hid (∀ u,w.grownBy u none→SlDa u a l ds):=fun u hu=>h.none hu
 clear h;go_enter Tryz.func24,Tryz.ntmps24;go_wp2
 go_loopw [3] (fun i wr=>∃ (j:Nat) (P R:List Da),j≤l∧i = .int .i64 j∧P.length=j∧R.length+j=l∧Hid (w.grownBy wr none∧P++R=ds∧sV ds [] ds=sV ds P R)) (fun i _=>l - (intOf i).toNat)
 case atStart=>exact ⟨0,[],ds,Nat.zero_le _,rfl,rfl,by omega,grf _ _,rfl,rfl⟩
 case round =>
  obtain ⟨j,P,R,hj,rfl,hPl,hRl,HR⟩:=hrel;by_cases hlt:j < l
  ·
   obtain ⟨x,R',rfl⟩:∃ x R',R=x::R':=by
    cases R with
    | nil=>simp at hRl;omega
    | cons x R'=>exact ⟨x,R',rfl⟩
   obtain ⟨hg,hcs,hv⟩:=HR.out
   have hcs2:(P++[x])++R' = ds:=by rw[List.append_assoc];exact hcs
   have hD:=HD.out wr hg
   obtain ⟨b,o,rfl,hin,-⟩:∃ b o,a=some ⟨b,o,none⟩∧InDa wr wr ds b o∧0 < l:=by
    rcases hD.cases with ⟨z1,z2⟩|hh
    ·
     omega
    ·
     exact hh
   obtain ⟨x',a1,n1,c1,a2,l2,c2,hx,k0,k1,k2,hd1,hd2⟩:=hin.nth (i:=j) (by omega)
   have hxx:x=x':=by
    rw[← hcs,List.getElem?_append_right (by omega),hPl] at hx;simpa using hx
   rw[← hxx] at k1 hd1 hd2;clear hxx hx;rw[← hcs2] at hin;have sP1:SlDa wr (some ⟨b,o,none⟩) (j+1) (P++[x]):=⟨by simp [hPl],by omega,.inr ⟨b,o,rfl,hin.fst⟩⟩;have sP0:SlDa wr (some ⟨b,o,none⟩) j P:=⟨hPl,by omega,.inr ⟨b,o,rfl,hin.fst.fst⟩⟩;have ga:=gal wr (.cells #[.slice a1 n1 c1,.int .i64 x.vars,.slice a2 l2 c2] 68) none;have ba:=heap_alloc_new wr (.cells #[.slice a1 n1 c1,.int .i64 x.vars,.slice a2 l2 c2] 68);have hl2:=hd2.1;have hl2m:=hd2.2.1
   have FT:Hid (∀ u,(wr.alloc (.cells #[.slice a1 n1 c1,.int .i64 x.vars,.slice a2 l2 c2] 68)).grownBy u none→u.heap[wr.heap.size]? = some (Obj.cells #[.slice a1 n1 c1,.int .i64 x.vars,.slice a2 l2 c2] 68)∧SlCo u a2 l2 x.cons∧SlDa u (some ⟨b,o,none⟩) j P∧SlDa u (some ⟨b,o,none⟩) (j+1) (P++[x])∧RdB u a1 n1 x.name∧w.grownBy u none):=fun u hu=>⟨(hu.block _ (lt_of_block ba) (by simp)).trans ba,hd2.none (gtr ga hu),sP0.none (gtr ga hu),sP1.none (gtr ga hu),hd1.none (gtr ga hu),gtr hg (gtr ga hu)⟩
   have FX:Hid (ds=P++x::R'∧sV ds [] ds=sV ds P (x::R')):=⟨hcs.symm,hv⟩
   have hjc0:(j:Int)≤(c:Int):=by omega
   have hjc:(j:Int)+1≤(c:Int):=by omega
   have hj1:(0:Int)≤(j:Int)+1:=by omega
   have ew:IntKind.i64.wrap ((j:Int)+1)=(j:Int)+1:=IntWalk.i64_in _ (by omega)
   have hlt':(j:Int) < (l:Int):=by omega
   obtain ⟨⟨y0,y1,y2⟩,-⟩:=three ba;clear hg hcs hv hcs2 hD hin HR sP0 sP1 hd1 hd2 ga ba;simp only[lB] at hRl;go_wp2_with fail;clear k0 k1 k2 y0 y1 y2;generalize wr.alloc (.cells #[.slice a1 n1 c1,.int .i64 x.vars,.slice a2 l2 c2] 68)=w1 at *;generalize wr.heap.size=p4 at *;have gd:=grown_drew (grf w1 none);have H1:Hid (w1.grownBy w1.drew none):=gd;clear gd;refine wp_region_held_drew (S:=(fun u=>Tri p4 0 (.slice a1 n1 c1) (.int .i64 x.vars) (.slice a2 l2 c2) u)) (by kernel_rfl) (three (FT.out _ H1.out).1).1 (fun hH=>?_);generalize w1.drew=w2 at *;simp only[List.size_toArray,lB,lC,Nat.reduceAdd,Array.replicate,List.replicate];refine tk 0 ?_;refine tk 1 ?_;refine rd 2 rfl (fun K hK=>?_);go_simp;refine Calls.mono (l5nameT a1 n1 c1 x.name w2 (FT.out _ H1.out).2.2.2.2.1) ?_;rintro e w3 ⟨he,hg3⟩;subst he;have H3:Hid (w1.grownBy w3 none):=gtr H1.out hg3;have GF:Hid (w.grownBy w3 none):=(FT.out _ H3.out).2.2.2.2.2
   clear hg3;refine hK.out _ _ (three (FT.out _ H3.out).1).1 ?_;clear hK K hH;intro hH;simp only[Act.put,nA,nB,nC,nD,nE,nF]
   cases hnm:nameV x.name with
   | false =>
    have E2:Hid (specV ds=false):=by show _=_;rw[EV.out,FX.out.2,sV_cons,hnm];rfl
    clear hnm;refine tk 3 ?_;refine tk 4 ?_;refine tks 5 ?_;refine tks 6 ?_;refine tks 7 ?_;refine tks 8 ?_;refine tks 9 ?_;refine tks 10 ?_;refine tks 11 ?_;refine tk 12 ?_;refine tk 13 ?_;refine tks 14 ?_;refine tks 15 ?_;refine tks 16 ?_;refine tk 17 ?_;refine tk 18 ?_;refine tks 19 ?_;refine tks 20 ?_;refine tks 21 ?_;refine tk 22 ?_;refine tk 23 ?_;refine tks 24 ?_;refine tks 25 ?_;refine tks 26 ?_;refine tks 27 ?_;refine tk 28 ?_;refine tk 29 ?_;refine tks 30 ?_;refine tks 31 ?_;refine tks 32 ?_;refine tks 33 ?_;refine tk 34 ?_;refine wpAnyH_done (by kernel_rfl) ?_ _;clear hH;go_wp2;go_ret;exact ⟨by rw[E2.out];rfl,GF.out⟩
   | true =>
    refine tk 3 ?_;refine tk 4 ?_;refine tk 5 ?_;refine tk 6 ?_;refine tk 7 ?_;refine tk 8 ?_;refine tk 9 ?_;refine rd 10 rfl (fun K hK=>?_);go_simp;refine Calls.mono (l5dataT P (some ⟨b,o,none⟩) j c x.name a1 n1 c1 w3 (FT.out _ H3.out).2.2.1 (FT.out _ H3.out).2.2.2.2.1) ?_;rintro e w4 ⟨he,hg4⟩;subst he;have H4:Hid (w1.grownBy w4 none):=gtr H3.out hg4;clear hg4 GF;have GF:Hid (w.grownBy w4 none):=(FT.out _ H4.out).2.2.2.2.2;refine hK.out _ _ (three (FT.out _ H4.out).1).1 ?_;clear hK K hH;intro hH;simp only[Act.put,nA,nB,nC,nD,nE,nF];generalize hdv:dIx x.name P 0=dv;by_cases q0:0≤dv
    ·
     have E2:Hid (specV ds=false):=by show _=_;rw[EV.out,FX.out.2,sV_cons,hnm,hdv,decide_eq_true q0];rfl
     have e0:dv ≥ 0:=q0
     have f0:decide (dv ≥ 0)=true:=by simpa using q0
     clear hnm hdv q0;refine tk 11 ?_;refine tk 12 ?_;refine tk 13 ?_;refine tks 14 ?_;refine tks 15 ?_;refine tks 16 ?_;refine tk 17 ?_;refine tk 18 ?_;refine tks 19 ?_;refine tks 20 ?_;refine tks 21 ?_;refine tk 22 ?_;refine tk 23 ?_;refine tks 24 ?_;refine tks 25 ?_;refine tks 26 ?_;refine tks 27 ?_;refine tk 28 ?_;refine tk 29 ?_;refine tks 30 ?_;refine tks 31 ?_;refine tks 32 ?_;refine tks 33 ?_;refine tk 34 ?_;refine wpAnyH_done (by kernel_rfl) ?_ _;clear hH;go_wp2;go_ret;exact ⟨by rw[E2.out];rfl,GF.out⟩
    have e0:¬ dv ≥ 0:=q0
    have f0:decide (dv ≥ 0)=false:=by simpa using q0
    by_cases q1:0≤x.vars∧x.vars≤2∧1≤l2∧l2≤5
    rotate_left
    ·
     have E2:Hid (specV ds=false):=by
      show _=_
      rw[EV.out,FX.out.2,sV_cons,hnm,hdv,decide_eq_false q0,hl2]
      have:(decide (0≤x.vars) && (decide (x.vars≤2) && (decide (1≤l2) && decide (l2≤5))))=false:=by
       rw[Bool.eq_false_iff];intro hh;simp only[Bool.and_eq_true,decide_eq_true_eq] at hh;exact q1 hh
      rw[this];rfl
     clear hnm hdv q0;by_cases e1:x.vars < 0
     ·
      have f1:decide (x.vars < 0)=true:=by simpa using e1
      refine tk 11 ?_;refine tk 12 ?_;refine tk 13 ?_;refine tk 14 ?_;refine tk 15 ?_;refine tk 16 ?_;refine tk 17 ?_;refine tk 18 ?_;refine tks 19 ?_;refine tks 20 ?_;refine tks 21 ?_;refine tk 22 ?_;refine tk 23 ?_;refine tks 24 ?_;refine tks 25 ?_;refine tks 26 ?_;refine tks 27 ?_;refine tk 28 ?_;refine tk 29 ?_;refine tks 30 ?_;refine tks 31 ?_;refine tks 32 ?_;refine tks 33 ?_;refine tk 34 ?_;refine wpAnyH_done (by kernel_rfl) ?_ _;clear hH;go_wp2;go_ret;exact ⟨by rw[E2.out];rfl,GF.out⟩
     have f1:decide (x.vars < 0)=false:=by simpa using e1
     by_cases e2:x.vars > 2
     ·
      have f2:decide (x.vars > 2)=true:=by simpa using e2
      refine tk 11 ?_;refine tk 12 ?_;refine tk 13 ?_;refine tk 14 ?_;refine tk 15 ?_;refine tk 16 ?_;refine tk 17 ?_;refine tk 18 ?_;refine tk 19 ?_;refine tk 20 ?_;refine tk 21 ?_;refine tk 22 ?_;refine tk 23 ?_;refine tks 24 ?_;refine tks 25 ?_;refine tks 26 ?_;refine tks 27 ?_;refine tk 28 ?_;refine tk 29 ?_;refine tks 30 ?_;refine tks 31 ?_;refine tks 32 ?_;refine tks 33 ?_;refine tk 34 ?_;refine wpAnyH_done (by kernel_rfl) ?_ _;clear hH;go_wp2;go_ret;exact ⟨by rw[E2.out];rfl,GF.out⟩
     have f2:decide (x.vars > 2)=false:=by simpa using e2
     by_cases e3:(l2:Int) < 1
     ·
      have f3:decide ((l2:Int) < 1)=true:=by simpa using e3
      refine tk 11 ?_;refine tk 12 ?_;refine tk 13 ?_;refine tk 14 ?_;refine tk 15 ?_;refine tk 16 ?_;refine tk 17 ?_;refine tk 18 ?_;refine tk 19 ?_;refine tk 20 ?_;refine tk 21 ?_;refine tk 22 ?_;refine tk 23 ?_;refine tk 24 ?_;refine tk 25 ?_;refine tk 26 ?_;refine tk 27 ?_;refine tk 28 ?_;refine tk 29 ?_;refine tks 30 ?_;refine tks 31 ?_;refine tks 32 ?_;refine tks 33 ?_;refine tk 34 ?_;refine wpAnyH_done (by kernel_rfl) ?_ _;clear hH;go_wp2;go_ret;exact ⟨by rw[E2.out];rfl,GF.out⟩
     have f3:decide ((l2:Int) < 1)=false:=by simpa using e3
     have e4:(l2:Int) > 5:=by omega
     have f4:decide ((l2:Int) > 5)=true:=by simpa using e4
     refine tk 11 ?_;refine tk 12 ?_;refine tk 13 ?_;refine tk 14 ?_;refine tk 15 ?_;refine tk 16 ?_;refine tk 17 ?_;refine tk 18 ?_;refine tk 19 ?_;refine tk 20 ?_;refine tk 21 ?_;refine tk 22 ?_;refine tk 23 ?_;refine tk 24 ?_;refine tk 25 ?_;refine tk 26 ?_;refine tk 27 ?_;refine tk 28 ?_;refine tk 29 ?_;refine tk 30 ?_;refine tk 31 ?_;refine tk 32 ?_;refine tk 33 ?_;refine tk 34 ?_;refine wpAnyH_done (by kernel_rfl) ?_ _;clear hH;go_wp2;go_ret;exact ⟨by rw[E2.out];rfl,GF.out⟩
    obtain ⟨q1,q2,q3,q4⟩:=q1
    have e1:¬ x.vars < 0:=by omega
    have e2:¬ x.vars > 2:=by omega
    have e3:¬ (l2:Int) < 1:=by omega
    have e4:¬ (l2:Int) > 5:=by omega
    have f1:decide (x.vars < 0)=false:=by simpa using e1
    have f2:decide (x.vars > 2)=false:=by simpa using e2
    have f3:decide ((l2:Int) < 1)=false:=by simpa using e3
    have f4:decide ((l2:Int) > 5)=false:=by simpa using e4
    have EC:Hid (sV ds [] ds=(cS x.vars ds (P++[x]) j x.cons 0 && sV ds (P++[x]) R')):=by
     show _=_
     rw[FX.out.2,sV_cons,hnm,hdv,decide_eq_false q0,hl2,hPl];simp [q1,q2,q3,q4]
    clear hnm hdv q0;refine tk 11 ?_;refine tk 12 ?_;refine tk 13 ?_;refine tk 14 ?_;refine tk 15 ?_;refine tk 16 ?_;refine tk 17 ?_;refine tk 18 ?_;refine tk 19 ?_;refine tk 20 ?_;refine tk 21 ?_;refine tk 22 ?_;refine tk 23 ?_;refine tk 24 ?_;refine tk 25 ?_;refine tk 26 ?_;refine tk 27 ?_;refine tk 28 ?_;refine tk 29 ?_;refine tk 30 ?_;refine tk 31 ?_;refine tk 32 ?_;refine tk 33 ?_;refine tk 34 ?_;refine wpAnyH_done (by kernel_rfl) ?_ _;clear hH;clear e0 f0 e1 e2 e3 e4 f1 f2 f3 f4
    obtain ⟨b2,o2,rfl,hin2,-⟩:∃ b2 o2,a2=some ⟨b2,o2,none⟩∧InCo w4 w4 x.cons b2 o2∧0 < l2:=by
     rcases (FT.out w4 H4.out).2.1.cases with ⟨z1,z2⟩|hh
     ·
      omega
     ·
      exact hh
    have IN:Hid (InCo w4 w4 x.cons b2 o2):=hin2;clear hin2 GF;obtain ⟨⟨y0,y1,y2⟩,-⟩:=three (FT.out w4 H4.out).1;go_wp2;clear y0 y1 y2
    go_loopw [5] (fun i wr=>∃ (q:Nat) (S:List Co),q≤l2∧i = .int .i64 q∧S.length+q=l2∧Hid (w4.grownBy wr none∧InCo w4 w4 S b2 (o2+q * 2)∧cS x.vars ds (P++[x]) j x.cons 0=cS x.vars ds (P++[x]) j S q)) (fun i _=>l2 - (intOf i).toNat)
    case atStart=>exact ⟨0,x.cons,Nat.zero_le _,rfl,by omega,grf _ _,by simpa using IN.out,rfl⟩
    case round =>
     obtain ⟨q,S,hq,rfl,hSl,HQ⟩:=hrel;obtain ⟨⟨y0,y1,y2⟩,-⟩:=three (FT.out wr (gtr H4.out HQ.out.1)).1;by_cases hltq:q < l2
     ·
      obtain ⟨y,S',rfl⟩:∃ y S',S=y::S':=by
       cases S with
       | nil=>simp at hSl;omega
       | cons y S'=>exact ⟨y,S',rfl⟩
      obtain ⟨hg,⟨⟨a4,n4,c4,a5,l5,c5,m0,m1,hd4,hd5⟩,hS2⟩,hv⟩:=HQ.out;rw[show o2+q * 2+2=o2+(q+1) * 2 by omega] at hS2;have m0:=hg.cell m0 (by simp);have m1:=hg.cell m1 (by simp);have ga:=gal wr (.cells #[.slice a4 n4 c4,.slice a5 l5 c5] 73) none;have ba:=heap_alloc_new wr (.cells #[.slice a4 n4 c4,.slice a5 l5 c5] 73);have gb:=gtr hg ga
      have FQ:Hid (∀ u,(wr.alloc (.cells #[.slice a4 n4 c4,.slice a5 l5 c5] 73)).grownBy u none→u.heap[wr.heap.size]? = some (Obj.cells #[.slice a4 n4 c4,.slice a5 l5 c5] 73)∧RdB u a4 n4 y.name∧SlF u a5 l5 y.flds∧w4.grownBy u none∧w1.grownBy u none∧w.grownBy u none):=fun u hu=>⟨(hu.block _ (lt_of_block ba) (by simp)).trans ba,hd4.none (gtr gb hu),hd5.none (gtr gb hu),gtr gb hu,gtr H4.out (gtr gb hu),(FT.out u (gtr H4.out (gtr gb hu))).2.2.2.2.2⟩
      have CW:Hid _:=l5wordT a4 n4 c4 y.name true _ (hd4.none gb);have FZ:Hid (InCo w4 w4 S' b2 (o2+(q+1) * 2)∧cS x.vars ds (P++[x]) j x.cons 0=(wordV 65 90 y.name && (decide (y.flds.len≤3) && (decide (cIx y.name ds 0=((j:Int),(q:Int))) && (fldsV x.vars (P++[x]) y.flds && cS x.vars ds (P++[x]) j S' (q+1)))))):=⟨hS2,by rw[hv];rfl⟩;obtain ⟨⟨z0,z1⟩,-⟩:=two2 ba;have hl5:=hd5.1;have hl5m:=hd5.2.1
      have hltq':(q:Int) < (l2:Int):=by omega
      rw[show wordV (loG true) (hiG true) y.name=wordV 65 90 y.name from rfl] at CW;clear hg hd4 hd5 hS2 hv ga ba gb HQ IN;simp only[lB] at hSl;go_wp2_with fail;clear m0 m1 z0 z1 y0 y1 y2;generalize wr.alloc (.cells #[.slice a4 n4 c4,.slice a5 l5 c5] 73)=w5 at *;generalize wr.heap.size=p6 at *;refine Calls.mono CW.out ?_;rintro e w6 ⟨he,hg⟩;subst he;have H6:Hid (w5.grownBy w6 none):=hg;have GF:Hid (w.grownBy w6 none):=(FQ.out w6 hg).2.2.2.2.2;clear CW hg;simp only[];obtain ⟨⟨z0,z1⟩,-⟩:=two2 (FQ.out w6 H6.out).1
      cases hw:wordV 65 90 y.name with
      | false =>
       have E2:Hid (specV ds=false):=by show _=_;rw[EV.out,EC.out,FZ.out.2,hw];rfl
       clear hw;go_wp2;go_ret;exact ⟨by rw[E2.out];rfl,GF.out⟩
      | true =>
       by_cases h3:l5≤3
       rotate_left
       ·
        have E2:Hid (specV ds=false):=by
         show _=_
         rw[EV.out,EC.out,FZ.out.2,hw,hl5];simp [h3]
        have h3':(l5:Int) > 3:=by omega
        clear hw;go_wp2;go_ret;exact ⟨by rw[E2.out];rfl,GF.out⟩
       have h3':¬ (l5:Int) > 3:=by omega
       have h3b:decide ((l5:Int) > 3)=false:=by simpa using h3'
       have E3:Hid (cS x.vars ds (P++[x]) j x.cons 0=(decide (cIx y.name ds 0=((j:Int),(q:Int))) && (fldsV x.vars (P++[x]) y.flds && cS x.vars ds (P++[x]) j S' (q+1)))):=by
        show _=_
        rw[FZ.out.2,hw,hl5];simp [h3]
       have CI:Hid _:=l5conT ds (some ⟨b,o,none⟩) l c y.name a4 n4 c4 w6 (HD.out w6 (FQ.out w6 H6.out).2.2.2.2.2) (FQ.out w6 H6.out).2.1;clear hw GF;go_wp2_with fail;refine Calls.mono CI.out ?_;rintro e w7 ⟨he,hg⟩;subst he;have H7:Hid (w5.grownBy w7 none):=gtr H6.out hg;have GF:Hid (w.grownBy w7 none):=(FQ.out w7 H7.out).2.2.2.2.2;clear CI hg z0 z1;simp only[];obtain ⟨⟨z0,z1⟩,-⟩:=two2 (FQ.out w7 H7.out).1;have hci:∃ ci,cIx y.name ds 0=ci:=⟨_,rfl⟩;obtain ⟨⟨ci,ck⟩,hci⟩:=hci;rw[hci]
       try simp only[]
       by_cases g1:ci=(j:Int)
       rotate_left
       ·
        have E2:Hid (specV ds=false):=by
         show _=_
         rw[EV.out,EC.out,E3.out];simp [hci,g1]
        have g1b:(ci != (j:Int))=true:=by simp [g1]
        clear hci;go_wp2;go_ret;exact ⟨by rw[E2.out];rfl,GF.out⟩
       have g1b:(ci != (j:Int))=false:=by simp [g1]
       by_cases g2:ck=(q:Int)
       rotate_left
       ·
        have E2:Hid (specV ds=false):=by
         show _=_
         rw[EV.out,EC.out,E3.out];simp [hci,g2]
        have g2b:(ck != (q:Int))=true:=by simp [g2]
        clear hci;go_wp2;go_ret;exact ⟨by rw[E2.out];rfl,GF.out⟩
       have g2b:(ck != (q:Int))=false:=by simp [g2]
       have E4:Hid (cS x.vars ds (P++[x]) j x.cons 0=(fldsV x.vars (P++[x]) y.flds && cS x.vars ds (P++[x]) j S' (q+1))):=by
        show _=_
        rw[E3.out];simp [hci,g1,g2]
       clear hci GF g1 g2 E3;rcases (FQ.out w7 H7.out).2.2.1.cases with ⟨r1,r2⟩|⟨b5,o5,r1,hin5,-,r3⟩
       ·
        have E2:Hid (cS x.vars ds (P++[x]) j x.cons 0=cS x.vars ds (P++[x]) j S' (q+1)):=by show _=_;rw[E4.out,r2];rfl
        subst r1;clear r2 hl5;go_wp2;refine wp_loop_rounds 1 ?_;rw[rounds_succ];go_wp2;go_roundw
        case rel=>exact ⟨q+1,S',by omega,by go_num,by omega,(FQ.out w7 H7.out).2.2.2.1,FZ.out.1,E2.out⟩
        case measure=>simp [intOf];omega
       ·
        subst r1;have IN5:Hid (InF w7 y.flds b5 o5):=hin5;clear hin5;go_wp2;clear z0 z1
        go_loopw [9] (fun i wr=>∃ (m:Nat) (T:F),m≤l5∧i = .int .i64 m∧T.len+m=l5∧Hid (w7.grownBy wr none∧InF w7 T b5 (o5+m * 3)∧fldsV x.vars (P++[x]) y.flds=fldsV x.vars (P++[x]) T)) (fun i _=>l5 - (intOf i).toNat)
        case atStart=>exact ⟨0,y.flds,Nat.zero_le _,rfl,by omega,grf _ _,by simpa using IN5.out,rfl⟩
        case round =>
         obtain ⟨m,T,hm,rfl,hTl,HM⟩:=hrel;obtain ⟨⟨z0,z1⟩,-⟩:=two2 (FQ.out wr (gtr H7.out HM.out.1)).1;by_cases hltm:m < l5
         ·
          obtain ⟨q5,hq5⟩:∃ q5,T.len=q5+1:=⟨T.len - 1,by omega⟩;obtain ⟨kk,nn,d,T',rfl,hT'⟩:=F.cons_of_len hq5;obtain ⟨hg,hT,hv⟩:=HM.out;obtain ⟨a',l',c',d0,d1,d2,hd,hT2⟩:=hT.out;rw[show o5+m * 3+3=o5+(m+1) * 3 by omega] at hT2
          have hltm':(m:Int) < (l5:Int):=by omega
          have FM:Hid (∀ u,wr.grownBy u none→((u.cell? ⟨p6,1,none⟩=some (.slice (some ⟨b5,o5,none⟩) l5 c5)∧u.cell? ⟨p4,1,none⟩=some (.int .i64 x.vars))∧Tri b5 (o5+m * 3) (.int .i64 kk) (.int .i64 nn) (.slice a' l' c') u)∧SlF u a' l' d∧w7.grownBy u none∧w.grownBy u none∧SlDa u (some ⟨b,o,none⟩) (j+1) (P++[x])):=by
           intro u hu;have g7:=gtr hg hu;have fq:=FQ.out u (gtr H7.out g7);have ft:=FT.out u fq.2.2.2.2.1;exact ⟨⟨⟨(two2 fq.1).1.2,(three ft.1).1.2.1⟩,g7.cell d0 (by simp),g7.cell d1 (by simp),g7.cell d2 (by simp)⟩,hd.none g7,g7,fq.2.2.2.2.2,ft.2.2.2.1⟩
          have FY:Hid (InF w7 T' b5 (o5+(m+1) * 3)∧fldsV x.vars (P++[x]) y.flds=((okT kk nn d && tyD x.vars (P++[x]) kk nn d) && fldsV x.vars (P++[x]) T')):=⟨hT2,by rw[hv];rfl⟩;have hvl:=hd.1;clear hg hT hv hd hT2 d0 d1 d2 HM IN5;go_wp2_with fail;clear z0 z1;have gd:=grown_drew (grf wr none);have G1:Hid (wr.grownBy wr.drew none):=gd;clear gd;refine wp_region_held_drew (S:=(fun u=>(u.cell? ⟨p6,1,none⟩=some (.slice (some ⟨b5,o5,none⟩) l5 c5)∧u.cell? ⟨p4,1,none⟩=some (.int .i64 x.vars))∧Tri b5 (o5+m * 3) (.int .i64 kk) (.int .i64 nn) (.slice a' l' c') u)) (by kernel_rfl) (FM.out _ G1.out).1 (fun hH=>?_);generalize wr.drew=w8 at *;simp only[List.size_toArray,lB,lC,Nat.reduceAdd,Array.replicate,List.replicate];refine tk 0 ?_;refine tk 1 ?_;refine tk 2 ?_;refine tk 3 ?_;refine tk 4 ?_;refine rd 5 rfl (fun K hK=>?_);go_simp;refine Calls.mono (specTyOkT d kk nn a' l' c' w8 (FM.out _ G1.out).2.1) ?_
          rintro e w9 ⟨he,hg9⟩;subst he;have G2:Hid (wr.grownBy w9 none):=gtr G1.out hg9;have GF:Hid (w.grownBy w9 none):=(FM.out _ G2.out).2.2.2.1;clear hg9;refine hK.out _ _ (FM.out _ G2.out).1 ?_;clear hK K hH;intro hH;simp only[Act.put,nA,nB,nC,nD,nE,nF]
          cases hok:okT kk nn d with
          | false =>
           have E2:Hid (specV ds=false):=by show _=_;rw[EV.out,EC.out,E4.out,FY.out.2,hok];rfl
           clear hok;refine tk 6 ?_;refine tk 7 ?_;refine tks 8 ?_;refine tks 9 ?_;refine tks 10 ?_;refine tks 11 ?_;refine tks 12 ?_;refine tks 13 ?_;refine tks 14 ?_;refine tks 15 ?_;refine tks 16 ?_;refine tks 17 ?_;refine tks 18 ?_;refine tks 19 ?_;refine tks 20 ?_;refine tk 21 ?_;refine wpAnyH_done (by kernel_rfl) ?_ _;clear hH;go_wp2;go_ret;exact ⟨by rw[E2.out];rfl,GF.out⟩
          | true =>
           have ho:=hok;simp only[okT,Bool.and_eq_true,decide_eq_true_eq] at ho;have CS:Hid _:=l5tyT x.vars (P++[x]) (d.size+1) d kk nn a' l' c' 9 (some ⟨b,o,none⟩) (j+1) c w9 (Nat.lt_succ_self _) (by omega) (FM.out _ G2.out).2.1 (by rw[← hvl];exact ho.1.1) ho.1.2 (FM.out _ G2.out).2.2.2.2
           have E5:Hid (fldsV x.vars (P++[x]) y.flds=(tyD x.vars (P++[x]) kk nn d && fldsV x.vars (P++[x]) T')):=by show _=_;rw[FY.out.2,hok];rfl
           clear ho hok GF;refine tk 6 ?_;refine tk 7 ?_;refine tk 8 ?_;refine tk 9 ?_;refine tk 10 ?_;refine tk 11 ?_;refine tk 12 ?_;refine tk 13 ?_;refine tk 14 ?_;refine tk 15 ?_;refine tk 16 ?_;refine tk 17 ?_;refine tk 18 ?_;refine rd 19 rfl (fun K hK=>?_);go_simp;refine Calls.mono CS.out ?_;rintro e w10 ⟨he,hg10⟩;subst he;have G3:Hid (wr.grownBy w10 none):=gtr G2.out hg10;have GF:Hid (w.grownBy w10 none):=(FM.out _ G3.out).2.2.2.1;clear hg10 CS;refine hK.out _ _ (FM.out _ G3.out).1 ?_;clear hK K hH;intro hH;simp only[Act.put,nA,nB,nC,nD,nE,nF]
           cases hty:tyD x.vars (P++[x]) kk nn d with
           | false =>
            have E2:Hid (specV ds=false):=by show _=_;rw[EV.out,EC.out,E4.out,E5.out,hty];rfl
            clear hty;refine tk 20 ?_;refine tk 21 ?_;refine wpAnyH_done (by kernel_rfl) ?_ _;clear hH;go_wp2;go_ret;exact ⟨by rw[E2.out];rfl,GF.out⟩
           | true =>
            have E2:Hid (fldsV x.vars (P++[x]) y.flds=fldsV x.vars (P++[x]) T'):=by show _=_;rw[E5.out,hty];rfl
            clear hty GF;refine tk 20 ?_;refine tk 21 ?_;refine wpAnyH_done (by kernel_rfl) ?_ _;clear hH;go_wp2;go_roundw
            case rel=>exact ⟨m+1,T',by omega,by go_num,by omega,(FM.out _ G3.out).2.2.1,FY.out.1,E2.out⟩
            case measure=>simp [intOf];omega
         ·
          obtain rfl:m=l5:=by omega
          obtain rfl:T = .nil:=F.nil_of_len (by omega);have E2:Hid (cS x.vars ds (P++[x]) j x.cons 0=cS x.vars ds (P++[x]) j S' (q+1)∧w4.grownBy wr none):=⟨by rw[E4.out,HM.out.2.2];rfl,(FQ.out wr (gtr H7.out HM.out.1)).2.2.2.1⟩;clear HM IN5;go_wp2;go_roundw
          case rel=>exact ⟨q+1,S',by omega,by go_num,by omega,E2.out.2,FZ.out.1,E2.out.1⟩
          case measure=>simp [intOf];omega
     ·
      obtain rfl:q=l2:=by omega
      obtain rfl:S=[]:=List.eq_nil_of_length_eq_zero (by omega);have E2:Hid (sV ds [] ds=sV ds (P++[x]) R'∧w.grownBy wr none∧(P++[x])++R' = ds):=⟨by rw[EC.out,HQ.out.2.2];rfl,(FT.out wr (gtr H4.out HQ.out.1)).2.2.2.2.2,by rw[List.append_assoc];exact FX.out.1.symm⟩;clear HQ IN;go_wp2;go_roundw
      case rel=>exact ⟨j+1,P++[x],R',by omega,by go_num,by simp [hPl],by omega,E2.out.2.1,E2.out.2.2,E2.out.1⟩
      case measure=>simp [intOf];omega
  ·
   obtain rfl:j=l:=by omega
   obtain rfl:R=[]:=List.eq_nil_of_length_eq_zero (by omega)
   have E1:Hid (specV ds=true):=by show _=_;rw[EV.out,HR.out.2.2];rfl
   have GF:Hid (w.grownBy wr none):=HR.out.1;clear HR;go_wp2;go_ret;exact ⟨by rw[E1.out];rfl,GF.out⟩
end Go.Proofs.YtblbnillilbacaaGreatDoor.By
