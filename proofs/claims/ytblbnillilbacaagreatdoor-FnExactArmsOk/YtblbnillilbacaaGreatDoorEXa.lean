/-
  No statement is proved here.
-/
import Derived.Test.YtblbnillilbacaaGreatDoorENAlsoa
import Derived.Test.YtblbnillilbacaaGreatDoorETa
namespace Go.Proofs.YtblbnillilbacaaGreatDoor.By
set_option maxRecDepth 100000
set_option maxHeartbeats 16000000
open Go.RowKit
set_option linter.unusedVariables false
set_option linter.unusedSimpArgs false
def dIx (z:List Int):List Da→Nat→Int
 | [],_=>-1
 | x::r,i=>if x.name=z then (i:Int) else dIx z r (i+1)
def kIx (z:List Int):List Co→Nat→Int
 | [],_=>-1
 | y::r,i=>if y.name=z then (i:Int) else kIx z r (i+1)
def cIx (z:List Int):List Da→Nat→Int × Int
 | [],_=>(-1,-1)
 | x::r,i=>if 0≤kIx z x.cons 0 then ((i:Int),kIx z x.cons 0) else cIx z r (i+1)
theorem dIx_cons (z:List Int) (x:Da) (r:List Da) (i:Nat):dIx z (x::r) i=if x.name=z then (i:Int) else dIx z r (i+1):=rfl
theorem kIx_cons (z:List Int) (y:Co) (r:List Co) (i:Nat):kIx z (y::r) i=if y.name=z then (i:Int) else kIx z r (i+1):=rfl
theorem cIx_cons (z:List Int) (x:Da) (r:List Da) (i:Nat):cIx z (x::r) i=if 0≤kIx z x.cons 0 then ((i:Int),kIx z x.cons 0) else cIx z r (i+1):=rfl
theorem l5dataT (ds:List Da) (a:Option Addr) (l c:Nat) (z:List Int) (a':Option Addr) (n' c':Nat) (w:World) (h:SlDa w a l ds) (hz:RdB w a' n' z) :
  Calls Tryz.prog 45 #[.slice a l c,.slice a' n' c'] w fun e u=>e = .returned (.int .i64 (dIx z ds 0))∧w.grownBy u none:=by
 have hl:=h.2.1;have hfl:=h.1;rcases h.cases with ⟨rfl,rfl⟩|⟨b,o,rfl,hin,hpos⟩
 ·
  go_enter Tryz.func45,Tryz.ntmps45;go_wp2;refine wp_loop_rounds 1 ?_;rw[rounds_succ];go_wp2;go_ret;exact ⟨rfl,grf _ _⟩
 have IN:Hid (InDa w w ds b o∧RdB w a' n' z):=⟨hin,hz⟩;clear hin h hz;go_enter Tryz.func45,Tryz.ntmps45;go_wp2
 go_loopw [5] (fun i wr=>∃ (j:Nat) (R:List Da),j≤l∧i = .int .i64 j∧R.length+j=l∧Hid (w.grownBy wr none∧InDa w w R b (o+j * 3)∧dIx z ds 0=dIx z R j)) (fun i _=>l - (intOf i).toNat)
 case atStart=>exact ⟨0,ds,Nat.zero_le _,rfl,by omega,grf _ _,by simpa using IN.out.1,rfl⟩
 case round =>
  obtain ⟨j,R,hj,rfl,hRl,HR⟩:=hrel;by_cases hlt:j < l
  ·
   obtain ⟨x,R',rfl⟩:∃ x R',R=x::R':=by
    cases R with
    | nil=>simp at hRl;omega
    | cons x R'=>exact ⟨x,R',rfl⟩
   obtain ⟨hg,⟨⟨a1,n1,c1,a2,l2,c2,k0,k1,k2,hd1,hd2⟩,hR2⟩,hv⟩:=HR.out;rw[show o+j * 3+3=o+(j+1) * 3 by omega] at hR2;have gd:=grown_drew hg
   have hlt':(j:Int) < (l:Int):=by omega
   have hcl:Hid (wr.drew.cell? ⟨b,o+j * 3,none⟩=some (.slice a1 n1 c1)):=gd.cell k0 (by simp);have hc1:(convert 23 9 (.slice a1 n1 c1)).run Tryz.prog wr.drew = .ok (.string (strOfNums x.name)) wr.drew:=conv_run (hd1.none gd).1;have hc2:(convert 23 9 (.slice a' n' c')).run Tryz.prog wr.drew = .ok (.string (strOfNums z)) wr.drew:=conv_run (IN.out.2.none gd).1
   have hcmp:((strOfNums x.name).toList == (strOfNums z).toList)=decide (x.name=z):=by rw[toL_beq,str_eq hd1.2.1 IN.out.2.2.1]
   have FX:Hid (w.grownBy wr none∧InDa w w R' b (o+(j+1) * 3)∧dIx z ds 0=dIx z (x::R') j∧w.grownBy wr.drew none):=⟨hg,hR2,hv,gd⟩;have k0:=hg.cell k0 (by simp);clear hd1 hd2 hR2 hg hv HR gd k1 k2;simp only[lB] at hRl;go_wp2_with fail;clear k0;refine wp_region_held_drew (S:=(fun u=>u.cell? ⟨b,o+j * 3,none⟩=some (.slice a1 n1 c1))) (by kernel_rfl) hcl.out (fun hH=>?_);generalize wr.drew=x0 at *;simp only[List.size_toArray,lB,lC,Nat.reduceAdd,Array.replicate,List.replicate];refine tk 0 ?_;refine tk 1 ?_;refine tk 2 ?_;refine tk 3 ?_;refine tk 4 ?_;refine tk 6 ?_;generalize hnm:x.name=nm at *;refine wpAnyH_ready (rs:=[5,7]) (by kernel_rfl) (by simp) ?_;refine AllReadyH.cons rfl (fun K hK=>?_) ?_
   ·
    skip
    go_simp;refine hK.out _ _ hcl.out ?_;clear hK K hH;intro hH;simp only[Act.put,nA,nB,nC,nD,nE,nF];refine rd 7 rfl (fun K hK=>?_);go_simp;refine hK.out _ _ hcl.out ?_;clear hK K hH;intro hH;simp only[Act.put,nA,nB,nC,nD,nE,nF];refine tk 8 ?_;refine wpAnyH_done (by kernel_rfl) ?_ _;clear hH;by_cases hxz:nm=z
    ·
     have hd2:decide (nm=z)=true:=by simp [hxz]
     try rw[hd2]
     have EQ:Hid (nm=z):=hxz;clear hcmp hc1 hc2 hd2 hxz
     have E2:Hid (dIx z ds 0=(j:Int)):=by show _=_;rw[FX.out.2.2.1,dIx_cons,if_pos (hnm.trans EQ.out)]
     go_wp2;go_ret;exact ⟨by rw[E2.out];rfl,FX.out.2.2.2⟩
    ·
     have hd2:decide (nm=z)=false:=by simp [hxz]
     try rw[hd2]
     have NQ:Hid (¬ nm=z):=hxz;clear hcmp hc1 hc2 hd2 hxz
     have E2:Hid (dIx z ds 0=dIx z R' (j+1)):=by show _=_;rw[FX.out.2.2.1,dIx_cons,if_neg (by rw[hnm];exact NQ.out)]
     go_wp2;go_roundw
     case rel=>exact ⟨j+1,R',by omega,by go_num,by omega,FX.out.2.2.2,FX.out.2.1,E2.out⟩
     case measure=>simp [intOf];omega
   refine AllReadyH.cons rfl (fun K hK=>?_) AllReadyH.nil;go_simp;refine hK.out _ _ hcl.out ?_;clear hK K hH;intro hH;simp only[Act.put,nA,nB,nC,nD,nE,nF];refine rd 5 rfl (fun K hK=>?_);go_simp;refine hK.out _ _ hcl.out ?_;clear hK K hH;intro hH;simp only[Act.put,nA,nB,nC,nD,nE,nF];refine tk 8 ?_;refine wpAnyH_done (by kernel_rfl) ?_ _;clear hH;by_cases hxz:nm=z
   ·
    have hd2:decide (nm=z)=true:=by simp [hxz]
    try rw[hd2]
    have EQ:Hid (nm=z):=hxz;clear hcmp hc1 hc2 hd2 hxz
    have E2:Hid (dIx z ds 0=(j:Int)):=by show _=_;rw[FX.out.2.2.1,dIx_cons,if_pos (hnm.trans EQ.out)]
    go_wp2;go_ret;exact ⟨by rw[E2.out];rfl,FX.out.2.2.2⟩
   ·
    have hd2:decide (nm=z)=false:=by simp [hxz]
    try rw[hd2]
    have NQ:Hid (¬ nm=z):=hxz;clear hcmp hc1 hc2 hd2 hxz
    have E2:Hid (dIx z ds 0=dIx z R' (j+1)):=by show _=_;rw[FX.out.2.2.1,dIx_cons,if_neg (by rw[hnm];exact NQ.out)]
    go_wp2;go_roundw
    case rel=>exact ⟨j+1,R',by omega,by go_num,by omega,FX.out.2.2.2,FX.out.2.1,E2.out⟩
    case measure=>simp [intOf];omega
  ·
   obtain rfl:j=l:=by omega
   obtain rfl:R=[]:=List.eq_nil_of_length_eq_zero (by omega);have E:Hid (dIx z ds 0 = -1∧w.grownBy wr none):=⟨HR.out.2.2,HR.out.1⟩;clear HR;go_wp2;go_ret;exact ⟨by rw[E.out.1];rfl,E.out.2⟩
theorem l5conT (ds:List Da) (a:Option Addr) (l c:Nat) (z:List Int) (a':Option Addr) (n' c':Nat) (w:World) (h:SlDa w a l ds) (hz:RdB w a' n' z) :
  Calls Tryz.prog 47 #[.slice a l c,.slice a' n' c'] w fun e u=>e = .returned (.tuple #[.int .i64 (cIx z ds 0).1,.int .i64 (cIx z ds 0).2])∧w.grownBy u none:=by
 have hl:=h.2.1;have hfl:=h.1;rcases h.cases with ⟨rfl,rfl⟩|⟨b,o,rfl,hin,hpos⟩
 ·
  go_enter Tryz.func47,Tryz.ntmps47;go_wp2;refine wp_loop_rounds 1 ?_;rw[rounds_succ];go_wp2;refine bodyPost_ret (results_tmp2 Tryz.results47 _ _ _) rfl ?_;exact ⟨rfl,grf _ _⟩
 have IN:Hid (InDa w w ds b o∧RdB w a' n' z):=⟨hin,hz⟩;clear hin h hz;go_enter Tryz.func47,Tryz.ntmps47;go_wp2
 go_loopw [6] (fun i wr=>∃ (j:Nat) (R:List Da),j≤l∧i = .int .i64 j∧R.length+j=l∧Hid (w.grownBy wr none∧InDa w w R b (o+j * 3)∧cIx z ds 0=cIx z R j)) (fun i _=>l - (intOf i).toNat)
 case atStart=>exact ⟨0,ds,Nat.zero_le _,rfl,by omega,grf _ _,by simpa using IN.out.1,rfl⟩
 case round =>
  obtain ⟨j,R,hj,rfl,hRl,HR⟩:=hrel;by_cases hlt:j < l
  ·
   obtain ⟨x,R',rfl⟩:∃ x R',R=x::R':=by
    cases R with
    | nil=>simp at hRl;omega
    | cons x R'=>exact ⟨x,R',rfl⟩
   obtain ⟨hg,⟨⟨a1,n1,c1,a2,l2,c2,k0,k1,k2,hd1,hd2⟩,hR2⟩,hv⟩:=HR.out;rw[show o+j * 3+3=o+(j+1) * 3 by omega] at hR2
   have hlt':(j:Int) < (l:Int):=by omega
   have FX:Hid (w.grownBy wr none∧InDa w w R' b (o+(j+1) * 3)∧(∀ u,w.grownBy u none→u.cell? ⟨b,o+j * 3+2,none⟩=some (.slice a2 l2 c2))∧cIx z ds 0=cIx z (x::R') j):=⟨hg,hR2,fun u hu=>hu.cell k2 (by simp),hv⟩;have hl2:=hd2.1;have hl2m:=hd2.2.1;have HD2:Hid (SlCo w a2 l2 x.cons):=hd2;clear hd1 hd2 hR2 hv HR k0 k1 k2 hg;simp only[lB] at hRl;rcases HD2.out.cases with ⟨r1,r2⟩|⟨b2,o2,r1,hin2,r3⟩
   ·
    have y2:=FX.out.2.2.1 wr FX.out.1
    have E2:Hid (cIx z ds 0=cIx z R' (j+1)):=by show _=_;rw[FX.out.2.2.2,cIx_cons,r2,if_neg (by unfold kIx;omega)]
    subst r1;clear r2 hl2;go_wp2;refine wp_loop_rounds 1 ?_;rw[rounds_succ];go_wp2;go_roundw
    case rel=>exact ⟨j+1,R',by omega,by go_num,by omega,FX.out.1,FX.out.2.1,E2.out⟩
    case measure=>simp [intOf];omega
   ·
    subst r1;have IN2:Hid (InCo w w x.cons b2 o2):=hin2;clear hin2 HD2;go_wp2
    go_loopw [7] (fun i wr2=>∃ (q:Nat) (S:List Co),q≤l2∧i = .int .i64 q∧S.length+q=l2∧Hid (w.grownBy wr2 none∧InCo w w S b2 (o2+q * 2)∧kIx z x.cons 0=kIx z S q)) (fun i _=>l2 - (intOf i).toNat)
    case atStart=>exact ⟨0,x.cons,Nat.zero_le _,rfl,by omega,FX.out.1,by simpa using IN2.out,rfl⟩
    case round =>
     obtain ⟨q,S,hq,rfl,hSl,HQ⟩:=hrel;have y2:=FX.out.2.2.1 wr HQ.out.1;by_cases hltq:q < l2
     ·
      obtain ⟨y,S',rfl⟩:∃ y S',S=y::S':=by
       cases S with
       | nil=>simp at hSl;omega
       | cons y S'=>exact ⟨y,S',rfl⟩
      obtain ⟨hg,⟨⟨a4,n4,c4,a5,l5,c5,m0,m1,hd4,hd5⟩,hS2⟩,hv⟩:=HQ.out;rw[show o2+q * 2+2=o2+(q+1) * 2 by omega] at hS2;have gd:=grown_drew hg
      have hltq':(q:Int) < (l2:Int):=by omega
      have hcl:Hid (wr.drew.cell? ⟨b,o+j * 3+2,none⟩=some (.slice (some ⟨b2,o2,none⟩) l2 c2)∧wr.drew.cell? ⟨b2,o2+q * 2,none⟩=some (.slice a4 n4 c4)):=⟨FX.out.2.2.1 _ gd,gd.cell m0 (by simp)⟩;have hc1:(convert 23 9 (.slice a4 n4 c4)).run Tryz.prog wr.drew = .ok (.string (strOfNums y.name)) wr.drew:=conv_run (hd4.none gd).1;have hc2:(convert 23 9 (.slice a' n' c')).run Tryz.prog wr.drew = .ok (.string (strOfNums z)) wr.drew:=conv_run (IN.out.2.none gd).1
      have hcmp:((strOfNums y.name).toList == (strOfNums z).toList)=decide (y.name=z):=by rw[toL_beq,str_eq hd4.2.1 IN.out.2.2.1]
      have FZ:Hid (w.grownBy wr none∧InCo w w S' b2 (o2+(q+1) * 2)∧kIx z x.cons 0=kIx z (y::S') q∧w.grownBy wr.drew none):=⟨hg,hS2,hv,gd⟩;clear hd4 hd5 hS2 hg hv HQ gd m0 m1;simp only[lB] at hSl;go_wp2_with fail;clear y2;refine wp_region_held_drew (S:=(fun u=>u.cell? ⟨b,o+j * 3+2,none⟩=some (.slice (some ⟨b2,o2,none⟩) l2 c2)∧u.cell? ⟨b2,o2+q * 2,none⟩=some (.slice a4 n4 c4))) (by kernel_rfl) hcl.out (fun hH=>?_);generalize wr.drew=x0 at *;simp only[List.size_toArray,lB,lC,Nat.reduceAdd,Array.replicate,List.replicate];refine tk 0 ?_;refine tk 1 ?_;refine tk 2 ?_;refine tk 3 ?_;refine tk 4 ?_;refine tk 5 ?_;refine tk 6 ?_;refine tk 7 ?_;refine tk 8 ?_;refine tk 10 ?_;generalize hnm:y.name=nm at *;refine wpAnyH_ready (rs:=[9,11]) (by kernel_rfl) (by simp) ?_;refine AllReadyH.cons rfl (fun K hK=>?_) ?_
      ·
       skip
       go_simp;refine hK.out _ _ hcl.out ?_;clear hK K hH;intro hH;simp only[Act.put,nA,nB,nC,nD,nE,nF];refine rd 11 rfl (fun K hK=>?_);go_simp;refine hK.out _ _ hcl.out ?_;clear hK K hH;intro hH;simp only[Act.put,nA,nB,nC,nD,nE,nF];refine tk 12 ?_;refine wpAnyH_done (by kernel_rfl) ?_ _;clear hH;by_cases hxz:nm=z
       ·
        have hd2:decide (nm=z)=true:=by simp [hxz]
        try rw[hd2]
        have EQ:Hid (nm=z):=hxz;clear hcmp hc1 hc2 hd2 hxz
        have E2:Hid (kIx z x.cons 0=(q:Int)):=by show _=_;rw[FZ.out.2.2.1,kIx_cons,if_pos (hnm.trans EQ.out)]
        have E3:Hid (cIx z ds 0=((j:Int),(q:Int))):=by show _=_;rw[FX.out.2.2.2,cIx_cons,E2.out,if_pos (by omega)]
        go_wp2;refine bodyPost_ret (results_tmp2 Tryz.results47 _ _ _) rfl ?_;exact ⟨by rw[E3.out];rfl,FZ.out.2.2.2⟩
       ·
        have hd2:decide (nm=z)=false:=by simp [hxz]
        try rw[hd2]
        have NQ:Hid (¬ nm=z):=hxz;clear hcmp hc1 hc2 hd2 hxz
        have E2:Hid (kIx z x.cons 0=kIx z S' (q+1)):=by show _=_;rw[FZ.out.2.2.1,kIx_cons,if_neg (by rw[hnm];exact NQ.out)]
        go_wp2;go_roundw
        case rel=>exact ⟨q+1,S',by omega,by go_num,by omega,FZ.out.2.2.2,FZ.out.2.1,E2.out⟩
        case measure=>simp [intOf];omega
      refine AllReadyH.cons rfl (fun K hK=>?_) AllReadyH.nil;go_simp;refine hK.out _ _ hcl.out ?_;clear hK K hH;intro hH;simp only[Act.put,nA,nB,nC,nD,nE,nF];refine rd 9 rfl (fun K hK=>?_);go_simp;refine hK.out _ _ hcl.out ?_;clear hK K hH;intro hH;simp only[Act.put,nA,nB,nC,nD,nE,nF];refine tk 12 ?_;refine wpAnyH_done (by kernel_rfl) ?_ _;clear hH;by_cases hxz:nm=z
      ·
       have hd2:decide (nm=z)=true:=by simp [hxz]
       try rw[hd2]
       have EQ:Hid (nm=z):=hxz;clear hcmp hc1 hc2 hd2 hxz
       have E2:Hid (kIx z x.cons 0=(q:Int)):=by show _=_;rw[FZ.out.2.2.1,kIx_cons,if_pos (hnm.trans EQ.out)]
       have E3:Hid (cIx z ds 0=((j:Int),(q:Int))):=by show _=_;rw[FX.out.2.2.2,cIx_cons,E2.out,if_pos (by omega)]
       go_wp2;refine bodyPost_ret (results_tmp2 Tryz.results47 _ _ _) rfl ?_;exact ⟨by rw[E3.out];rfl,FZ.out.2.2.2⟩
      ·
       have hd2:decide (nm=z)=false:=by simp [hxz]
       try rw[hd2]
       have NQ:Hid (¬ nm=z):=hxz;clear hcmp hc1 hc2 hd2 hxz
       have E2:Hid (kIx z x.cons 0=kIx z S' (q+1)):=by show _=_;rw[FZ.out.2.2.1,kIx_cons,if_neg (by rw[hnm];exact NQ.out)]
       go_wp2;go_roundw
       case rel=>exact ⟨q+1,S',by omega,by go_num,by omega,FZ.out.2.2.2,FZ.out.2.1,E2.out⟩
       case measure=>simp [intOf];omega
     ·
      obtain rfl:q=l2:=by omega
      obtain rfl:S=[]:=List.eq_nil_of_length_eq_zero (by omega);have E2:Hid (cIx z ds 0=cIx z R' (j+1)∧w.grownBy wr none):=⟨by rw[FX.out.2.2.2,cIx_cons,HQ.out.2.2,if_neg (by unfold kIx;omega)],HQ.out.1⟩;clear HQ;go_wp2;go_roundw
      case rel=>exact ⟨j+1,R',by omega,by go_num,by omega,E2.out.2,FX.out.2.1,E2.out.1⟩
      case measure=>simp [intOf];omega
  ·
   obtain rfl:j=l:=by omega
   obtain rfl:R=[]:=List.eq_nil_of_length_eq_zero (by omega);have E:Hid (cIx z ds 0=(-1,-1)∧w.grownBy wr none):=⟨HR.out.2.2,HR.out.1⟩;clear HR;go_wp2;refine bodyPost_ret (results_tmp2 Tryz.results47 _ _ _) rfl ?_;exact ⟨by rw[E.out.1];rfl,E.out.2⟩
end Go.Proofs.YtblbnillilbacaaGreatDoor.By
