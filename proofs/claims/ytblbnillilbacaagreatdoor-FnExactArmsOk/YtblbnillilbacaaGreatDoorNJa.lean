/-
  No statement is proved here.
-/
import Derived.Test.YtblbnillilbacaaGreatDoorNIAlsoa
import Derived.Test.YtblbnillilbacaaGreatDoorNGAlsoa
namespace Go.Proofs.YtblbnillilbacaaGreatDoor.By
set_option maxRecDepth 100000
set_option maxHeartbeats 16000000
open Go.RowKit
set_option linter.unusedVariables false
set_option linter.unusedSimpArgs false
def armR (b:Bool) (r:Int):Int:=if b then r else -1
theorem am_drop (x:List Int) (P:List (List Int)) (k:Nat) (y:List Int) (h:P[k]? = some y):amV x (P.drop k)=(decide (y=x) || amV x (P.drop (k+1))):=by
 have hk:k < P.length:=(List.getElem?_eq_some_iff.1 h).1;have e:P[k]=y:=(List.getElem?_eq_some_iff.1 h).2;rw[List.drop_eq_getElem_cons hk,e];rfl
theorem InSS.nth {w wp:World}:∀ {xs:List (List Int)} {b o:Nat},InSS w wp xs b o→∀ k y,xs[k]? = some y→∃ a n c,w.cell? ⟨b,o+k,none⟩=some (.slice a n c)∧RdB wp a n y
 | [],_,_,_,k,y,h=>by simp at h
 | x::r,b,o,hin,0,y,h=>by
  obtain rfl:=Option.some.inj h;exact hin.1
 | x::r,b,o,hin,k+1,y,h=>by
  have:=hin.2.nth k y (by simpa using h);rw[show o+(k+1)=o+1+k by omega];exact this
theorem l5armT (hc:List Int) (hv:List (List Int)) (p:PE) (r:Int) (e0:Option Addr) (q0 d0:Nat) (e1:Option Addr) (q1 d1:Nat) (a1:Option Addr) (l1 c1:Nat) (a2:Option Addr) (l2 c2:Nat) (a3:Option Addr) (l3 c3:Nat) (a4:Option Addr) (l4 c4:Nat) (a5:Option Addr) (l5 c5:Nat) (dp:Nat) (w:World) (h0:RdB w e0 q0 hc) (h1:SlSC w e1 q1 d1 hv)
  (Hb:∀ u,w.grownBy u none→Calls Tryz.prog 25 #[.agg #[.int .i64 p.k,.int .i64 p.n,.slice a1 l1 c1,.slice a2 l2 c2,.slice a3 l3 c3,.slice a4 l4 c4,.slice a5 l5 c5],.int .i64 (dp:Int)] u fun e v=>e = .returned (.int .i64 r)∧u.grownBy v none) :
  Calls Tryz.prog 53 #[.agg #[.slice e0 q0 d0,.slice e1 q1 d1,.int .i64 p.k,.int .i64 p.n,.slice a1 l1 c1,.slice a2 l2 c2,.slice a3 l3 c3,.slice a4 l4 c4,.slice a5 l5 c5],.int .i64 (dp:Int)] w fun e u=>e = .returned (.int .i64 (armR (armV hc hv) r))∧w.grownBy u none:=by
 have g0:=gal w (.cells #[.slice e0 q0 d0,.slice e1 q1 d1,.int .i64 p.k,.int .i64 p.n,.slice a1 l1 c1,.slice a2 l2 c2,.slice a3 l3 c3,.slice a4 l4 c4,.slice a5 l5 c5] 87) none;have b0:=heap_alloc_new w (.cells #[.slice e0 q0 d0,.slice e1 q1 d1,.int .i64 p.k,.int .i64 p.n,.slice a1 l1 c1,.slice a2 l2 c2,.slice a3 l3 c3,.slice a4 l4 c4,.slice a5 l5 c5] 87);have hl0:=h0.1.1;have hl1:=h1.1.1;have hm1:=h1.1.2.1
 have HS:Hid (∀ u,w.grownBy u none→RdB u e0 q0 hc∧SlSC u e1 q1 d1 hv):=fun u hu=>⟨h0.none hu,h1.none hu⟩
 have HB:Hid _:=Hb;have L0:Hid (w.grownBy _ none∧_=some (Obj.cells #[.slice e0 q0 d0,.slice e1 q1 d1,.int .i64 p.k,.int .i64 p.n,.slice a1 l1 c1,.slice a2 l2 c2,.slice a3 l3 c3,.slice a4 l4 c4,.slice a5 l5 c5] 87)):=⟨g0,b0⟩;have HC:Hid _:=h1.1.cases;obtain ⟨⟨y0,y1,y2,y3,y4,y5,y6,y7,y8⟩,-⟩:=blkEA b0;have C0:Hid _:=l5wordT e0 q0 d0 hc true _ (h0.none g0);clear g0 b0 h0 h1 Hb;by_cases hz:q0=0
 ·
  have e:armV hc hv=decide (q1=0):=by unfold armV;rw[hl0,hl1,if_pos hz]
  subst hz;clear C0;by_cases hz1:q1=0
  ·
   have E:Hid (armV hc hv=true):=by show _=_;rw[e];simp [hz1]
   clear e;subst hz1;have L1:Hid _:=L0.out;go_enter Tryz.func53,Tryz.ntmps53;have CB:Hid _:=HB.out _ L0.out.1;go_wp2_with fail;refine Calls.mono CB.out ?_;rintro e ub ⟨rfl,hgb⟩;have GB:Hid (w.grownBy ub none):=gtr L0.out.1 hgb;clear CB hgb;simp only[];go_wp2;go_ret;exact ⟨by rw[E.out];rfl,GB.out⟩
  ·
   have E:Hid (armV hc hv=false):=by show _=_;rw[e];simp [hz1]
   clear e
   have hz2:(q1:Int) > 0:=by omega
   go_enter Tryz.func53,Tryz.ntmps53;go_wp2;go_ret;exact ⟨by rw[E.out];rfl,L0.out.1⟩
 have hz':¬ (q0:Int)=0:=by omega
 have EA:Hid (armV hc hv=(wordV 65 90 hc && decide (q1≤3) && !(hv.any fun x=>!nameV x) && unV [] hv)):=by show _=_;unfold armV;rw[hl0,hl1,if_neg hz]
 go_enter Tryz.func53,Tryz.ntmps53;go_wp2_with fail;refine Calls.mono C0.out ?_;rintro e u ⟨rfl,hg⟩;have L1:Hid (w.grownBy u none∧u.heap[w.heap.size]? = some (Obj.cells #[.slice e0 q0 d0,.slice e1 q1 d1,.int .i64 p.k,.int .i64 p.n,.slice a1 l1 c1,.slice a2 l2 c2,.slice a3 l3 c3,.slice a4 l4 c4,.slice a5 l5 c5] 87)):=⟨gtr L0.out.1 hg,(hg.block _ (lt_of_block L0.out.2) (by simp)).trans L0.out.2⟩;clear C0 hg L0 y0 y1 y2 y3 y4 y5 y6 y7 y8;obtain ⟨⟨y0,y1,y2,y3,y4,y5,y6,y7,y8⟩,-⟩:=blkEA L1.out.2;have eG:wordV (loG true) (hiG true) hc=wordV 65 90 hc:=rfl;rw[eG];simp only[]
 cases hb:wordV 65 90 hc with
 | false =>
  have E:Hid (armV hc hv=false):=by show _=_;rw[EA.out,hb];rfl
  go_wp2;go_ret;exact ⟨by rw[E.out];rfl,L1.out.1⟩
 | true =>
  by_cases hq:q1≤3
  ·
   have hq':¬ (q1:Int) > 3:=by omega
   have EB:Hid (armV hc hv=(!(hv.any fun x=>!nameV x) && unV [] hv)):=by show _=_;rw[EA.out,hb];simp [hq]
   go_wp2
   go_loopw [5] (fun i wr=>∃ (j:Nat) (P R:List (List Int)),j≤q1∧i = .int .i64 j∧P.length=j∧R.length+j=q1∧Hid (w.grownBy wr none∧wr.heap[w.heap.size]? = some (Obj.cells #[.slice e0 q0 d0,.slice e1 q1 d1,.int .i64 p.k,.int .i64 p.n,.slice a1 l1 c1,.slice a2 l2 c2,.slice a3 l3 c3,.slice a4 l4 c4,.slice a5 l5 c5] 87)∧armV hc hv=(!(R.any fun x=>!nameV x) && unV P R)∧P++R=hv)) (fun i _=>q1 - (intOf i).toNat)
   case atStart=>exact ⟨0,[],hv,Nat.zero_le _,rfl,rfl,by omega,L1.out.1,L1.out.2,EB.out,rfl⟩
   case round =>
    clear L1 y0 y1 y2 y3 y4 y5 y6 y7 y8;obtain ⟨j,P,R,hj,rfl,hPl,hRl,HR⟩:=hrel;obtain ⟨⟨y0,y1,y2,y3,y4,y5,y6,y7,y8⟩,-⟩:=blkEA HR.out.2.1;by_cases hlt:j < q1
    ·
     obtain ⟨x,R',rfl⟩:∃ x R',R=x::R':=by
      cases R with
      | nil=>simp at hRl;omega
      | cons x R'=>exact ⟨x,R',rfl⟩
     simp only[lB] at hRl
     have hx:hv[j]? = some x:=by rw[← HR.out.2.2.2,List.getElem?_append_right (by omega),hPl];simp
     rcases HC.out with ⟨hc0,-⟩|⟨b,o,ea,hin,-⟩
     ·
      exact absurd hc0 (by omega)
     obtain ⟨ax,nx,cx,kx,hdx⟩:=hin.nth j x hx;have kx:=HR.out.1.cell kx (by simp);have CN:Hid _:=l5nameT ax nx cx x wr (hdx.none HR.out.1);have FW:Hid (RdB w ax nx x∧InSS w w hv b o):=⟨hdx,hin⟩;have EAa:Hid _:=ea;rw[ea] at y1;clear hdx hin ea;go_wp2_with fail;refine Calls.mono CN.out ?_;rintro e u2 ⟨rfl,hg⟩;have L2:Hid (w.grownBy u2 none∧u2.heap[w.heap.size]? = some (Obj.cells #[.slice e0 q0 d0,.slice e1 q1 d1,.int .i64 p.k,.int .i64 p.n,.slice a1 l1 c1,.slice a2 l2 c2,.slice a3 l3 c3,.slice a4 l4 c4,.slice a5 l5 c5] 87)∧armV hc hv=(!((x::R').any fun x=>!nameV x) && unV P (x::R'))∧P++x::R' = hv):=⟨gtr HR.out.1 hg,(hg.block _ (lt_of_block HR.out.2.1) (by simp)).trans HR.out.2.1,HR.out.2.2.1,HR.out.2.2.2⟩;have kx2:=hg.cell kx (by simp);clear CN hg HR y0 y1 y2 y3 y4 y5 y6 y7 y8 kx;simp only[]
     cases hn:nameV x with
     | false =>
      have E:Hid (armV hc hv=false):=by show _=_;rw[L2.out.2.2.1];simp [hn]
      go_wp2;go_ret;exact ⟨by rw[E.out];rfl,L2.out.1⟩
     | true =>
      have EC:Hid (armV hc hv=(!(R'.any fun x=>!nameV x) && unV P (x::R'))):=by show _=_;rw[L2.out.2.2.1];simp [hn]
      have L3:Hid (w.grownBy u2 none∧u2.heap[w.heap.size]? = some (Obj.cells #[.slice e0 q0 d0,.slice e1 q1 d1,.int .i64 p.k,.int .i64 p.n,.slice a1 l1 c1,.slice a2 l2 c2,.slice a3 l3 c3,.slice a4 l4 c4,.slice a5 l5 c5] 87)∧P++x::R' = hv):=⟨L2.out.1,L2.out.2.1,L2.out.2.2.2⟩;clear L2 kx2;go_wp2
      go_loopw [6] (fun i wr=>∃ k:Nat,k≤j∧i = .int .i64 k∧Hid (w.grownBy wr none∧wr.heap[w.heap.size]? = some (Obj.cells #[.slice e0 q0 d0,.slice e1 q1 d1,.int .i64 p.k,.int .i64 p.n,.slice a1 l1 c1,.slice a2 l2 c2,.slice a3 l3 c3,.slice a4 l4 c4,.slice a5 l5 c5] 87)∧amV x P=amV x (P.drop k))) (fun i _=>j - (intOf i).toNat)
      case atStart=>exact ⟨0,Nat.zero_le _,rfl,L3.out.1,L3.out.2.1,rfl⟩
      case round =>
       have HP:Hid (P++x::R' = hv):=L3.out.2.2;clear L3;obtain ⟨k,hk,rfl,HQ⟩:=hrel;obtain ⟨⟨y0,y1,y2,y3,y4,y5,y6,y7,y8⟩,-⟩:=blkEA HQ.out.2.1;by_cases hkj:k < j
       ·
        obtain ⟨nm,hyk⟩:∃ y,P[k]? = some y:=⟨P[k]'(by omega),List.getElem?_eq_getElem _⟩;obtain ⟨ay,ny,cy,ky,hdy⟩:=FW.out.2.nth k nm (by rw[← HP.out,List.getElem?_append_left (by omega)];exact hyk);obtain ⟨ax2,nx2,cx2,kx,hdx⟩:=FW.out.2.nth j x hx;have gd:=grown_drew HQ.out.1
        have hkj':(k:Int) < (j:Int):=by omega
        have hkq:k < q1:=by omega
        have hkq':(k:Int) < (q1:Int):=by omega
        have hc1:(convert 23 9 (.slice ax2 nx2 cx2)).run Tryz.prog wr.drew = .ok (.string (strOfNums x)) wr.drew:=conv_run (hdx.none gd).1;have hc2:(convert 23 9 (.slice ay ny cy)).run Tryz.prog wr.drew = .ok (.string (strOfNums nm)) wr.drew:=conv_run (hdy.none gd).1
        have hcmp:((strOfNums x).toList == (strOfNums nm).toList)=decide (nm=x):=by rw[toL_beq,str_eq hdx.2.1 hdy.2.1];simp [eq_comm]
        have gq:=grown_drew (grf wr none);have bq:=(gq.block _ (lt_of_block HQ.out.2.1) (by simp)).trans HQ.out.2.1;have hcl:Hid (wr.drew.cell? ⟨w.heap.size,1,none⟩=some (.slice (some ⟨b,o,none⟩) q1 d1)∧wr.drew.cell? ⟨b,o+j,none⟩=some (.slice ax2 nx2 cx2)∧wr.drew.cell? ⟨b,o+k,none⟩=some (.slice ay ny cy)):=⟨by rw[← EAa.out];exact (blkEA bq).1.2.1,gd.cell kx (by simp),gd.cell ky (by simp)⟩;have AM:Hid (amV x P=amV x (P.drop k)):=HQ.out.2.2;have FZ:Hid (w.grownBy wr.drew none∧wr.drew.heap[w.heap.size]? = some (Obj.cells #[.slice e0 q0 d0,.slice e1 q1 d1,.int .i64 p.k,.int .i64 p.n,.slice a1 l1 c1,.slice a2 l2 c2,.slice a3 l3 c3,.slice a4 l4 c4,.slice a5 l5 c5] 87)):=⟨gd,bq⟩;clear hdx hdy kx ky gd gq bq HQ y0 y1 y2 y3 y4 y5 y6 y7 y8;go_wp2_with fail;refine wp_region_held_drew (S:=(fun u=>(u.cell? ⟨w.heap.size,1,none⟩=some (.slice (some ⟨b,o,none⟩) q1 d1)∧u.cell? ⟨b,o+j,none⟩=some (.slice ax2 nx2 cx2)∧u.cell? ⟨b,o+k,none⟩=some (.slice ay ny cy)))) (by kernel_rfl) hcl.out (fun hH=>?_)
        generalize wr.drew=x0 at *;simp only[List.size_toArray,lB,lC,Nat.reduceAdd,Array.replicate,List.replicate];refine tk 0 ?_;refine tk 1 ?_;refine tk 2 ?_;refine tk 3 ?_;refine tk 4 ?_;refine tk 6 ?_;refine tk 7 ?_;refine tk 8 ?_;refine tk 9 ?_;refine tk 10 ?_;refine wpAnyH_ready (rs:=[5,11]) (by kernel_rfl) (by simp) ?_;refine AllReadyH.cons rfl (fun K hK=>?_) ?_
        ·
         skip
         go_simp;refine hK.out _ _ hcl.out ?_;clear hK K hH;intro hH;simp only[Act.put,nA,nB,nC,nD,nE,nF];refine rd 11 rfl (fun K hK=>?_);go_simp;refine hK.out _ _ hcl.out ?_;clear hK K hH;intro hH;simp only[Act.put,nA,nB,nC,nD,nE,nF];refine tk 12 ?_;refine wpAnyH_done (by kernel_rfl) ?_ _;clear hH;by_cases hxz:nm=x
         ·
          have hd2:decide (nm=x)=true:=by simp [hxz]
          try rw[hd2]
          have EQ:Hid (nm=x):=hxz;clear hcmp hc1 hc2 hd2 hxz
          have E2:Hid (armV hc hv=false):=by
           show _=_
           have h1:amV x P=true:=by rw[AM.out,am_drop x P k nm hyk,EQ.out];simp
           rw[EC.out];unfold unV;rw[h1];simp
          go_wp2;go_ret;exact ⟨by rw[E2.out];rfl,FZ.out.1⟩
         ·
          have hd2:decide (nm=x)=false:=by simp [hxz]
          try rw[hd2]
          have NQ:Hid (¬ nm=x):=hxz;clear hcmp hc1 hc2 hd2 hxz
          have E2:Hid (amV x P=amV x (P.drop (k+1))):=by show _=_;rw[AM.out,am_drop x P k nm hyk];simp [NQ.out]
          go_wp2;go_roundw
          case rel=>exact ⟨k+1,by omega,by go_num,FZ.out.1,FZ.out.2,E2.out⟩
          case measure=>simp [intOf];omega
        refine AllReadyH.cons rfl (fun K hK=>?_) AllReadyH.nil;go_simp;refine hK.out _ _ hcl.out ?_;clear hK K hH;intro hH;simp only[Act.put,nA,nB,nC,nD,nE,nF];refine rd 5 rfl (fun K hK=>?_);go_simp;refine hK.out _ _ hcl.out ?_;clear hK K hH;intro hH;simp only[Act.put,nA,nB,nC,nD,nE,nF];refine tk 12 ?_;refine wpAnyH_done (by kernel_rfl) ?_ _;clear hH;by_cases hxz:nm=x
        ·
         have hd2:decide (nm=x)=true:=by simp [hxz]
         try rw[hd2]
         have EQ:Hid (nm=x):=hxz;clear hcmp hc1 hc2 hd2 hxz
         have E2:Hid (armV hc hv=false):=by
          show _=_
          have h1:amV x P=true:=by rw[AM.out,am_drop x P k nm hyk,EQ.out];simp
          rw[EC.out];unfold unV;rw[h1];simp
         go_wp2;go_ret;exact ⟨by rw[E2.out];rfl,FZ.out.1⟩
        ·
         have hd2:decide (nm=x)=false:=by simp [hxz]
         try rw[hd2]
         have NQ:Hid (¬ nm=x):=hxz;clear hcmp hc1 hc2 hd2 hxz
         have E2:Hid (amV x P=amV x (P.drop (k+1))):=by show _=_;rw[AM.out,am_drop x P k nm hyk];simp [NQ.out]
         go_wp2;go_roundw
         case rel=>exact ⟨k+1,by omega,by go_num,FZ.out.1,FZ.out.2,E2.out⟩
         case measure=>simp [intOf];omega
       ·
        obtain rfl:k=j:=by omega
        have E3:Hid (armV hc hv=(!(R'.any fun x=>!nameV x) && unV (P++[x]) R')):=by
         show _=_
         have h1:amV x P=false:=by rw[HQ.out.2.2,List.drop_of_length_le (by omega)];rfl
         rw[EC.out]
         show (!(R'.any fun x=>!nameV x) && (!amV x P && unV (P++[x]) R'))=_
         rw[h1];rfl
        have L5:Hid (w.grownBy wr none∧wr.heap[w.heap.size]? = some (Obj.cells #[.slice e0 q0 d0,.slice e1 q1 d1,.int .i64 p.k,.int .i64 p.n,.slice a1 l1 c1,.slice a2 l2 c2,.slice a3 l3 c3,.slice a4 l4 c4,.slice a5 l5 c5] 87)):=⟨HQ.out.1,HQ.out.2.1⟩;clear HQ y0 y1 y2 y3 y4 y5 y6 y7 y8;go_wp2;go_roundw
        case rel=>exact ⟨k+1,P++[x],R',by omega,by go_num,by simp [hPl],by omega,L5.out.1,L5.out.2,E3.out,by rw[List.append_assoc];exact HP.out⟩
        case measure=>simp [intOf];omega
    ·
     obtain rfl:j=q1:=by omega
     obtain rfl:R=[]:=List.eq_nil_of_length_eq_zero (by omega)
     have E:Hid (armV hc hv=true):=by show _=_;rw[HR.out.2.2.1];rfl
     have L9:Hid (w.grownBy wr none):=HR.out.1;clear HR;have CB:Hid _:=HB.out _ L9.out;go_wp2_with fail;refine Calls.mono CB.out ?_;rintro e ub ⟨rfl,hgb⟩;have GB:Hid (w.grownBy ub none):=gtr L9.out hgb;clear CB hgb y0 y1 y2 y3 y4 y5 y6 y7 y8;simp only[];go_wp2;go_ret;exact ⟨by rw[E.out];rfl,GB.out⟩
  ·
   have hq':(q1:Int) > 3:=by omega
   have E:Hid (armV hc hv=false):=by show _=_;rw[EA.out,hb];simp [hq]
   go_wp2;go_ret;exact ⟨by rw[E.out];rfl,L1.out.1⟩
end Go.Proofs.YtblbnillilbacaaGreatDoor.By
