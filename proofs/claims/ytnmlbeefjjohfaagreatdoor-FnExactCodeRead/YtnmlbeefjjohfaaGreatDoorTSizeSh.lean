/-
  No statement is proved here.
-/
import Derived.Test.YtnmlbeefjjohfaaGreatDoorTShapeAlsoSh
namespace Go.Proofs.YtnmlbeefjjohfaaGreatDoor.By
set_option maxRecDepth 100000
set_option maxHeartbeats 16000000
open Go.RowKit
set_option linter.unusedVariables false
set_option linter.unusedSimpArgs false
theorem fixV_is (k n:Int) (l:Nat) (h0:0≤k) (h1:k≤5):∃ s z b,fixV k = .agg #[.string s,.int .i64 z,.bool b]∧(decide (n=0) && decide ((l:Int)=z))=fitsB k n l:=by
 have hk:k=0∨k=1∨k=2∨k=3∨k=4∨k=5:=by omega
 have hd:∀ z:Nat,decide ((l:Int)=(z:Int))=decide (l=z):=fun z=>by simp [Int.ofNat_inj]
 rcases hk with rfl|rfl|rfl|rfl|rfl|rfl
 ·
  exact ⟨_,0,_,rfl,by rw[fits012 (by simp),n0,Bool.and_comm,show decide ((l:Int)=0)=decide (l=0) from hd 0]⟩
 ·
  exact ⟨_,0,_,rfl,by rw[fits012 (by simp),n0,Bool.and_comm,show decide ((l:Int)=0)=decide (l=0) from hd 0]⟩
 ·
  exact ⟨_,0,_,rfl,by rw[fits012 (by simp),n0,Bool.and_comm,show decide ((l:Int)=0)=decide (l=0) from hd 0]⟩
 ·
  exact ⟨_,2,_,rfl,by rw[fits34 (by simp),Bool.and_comm,n0];congr 1;exact hd 2⟩
 ·
  exact ⟨_,2,_,rfl,by rw[fits34 (by simp),Bool.and_comm,n0];congr 1;exact hd 2⟩
 ·
  exact ⟨_,1,_,rfl,by rw[fits5,Bool.and_comm,n0];congr 1;exact hd 1⟩
theorem sizeT (m:Nat):∀ (d:F) (k n:Int) (a:Option Addr) (l c depth room:Nat) (w:World),d.size < m→SlF w a l d→depth≤10→room≤60 →
  Calls Tryz.prog 127 #[.agg #[.int .i64 k,.int .i64 n,.slice a l c],.int .i64 depth,.int .i64 room] w fun e u=>e = .returned (.int .i64 (tyV 0 k n d depth room))∧w.grownBy u none:=by
 induction m with
 | zero=>intro d k n a l c depth room w hm;exact absurd hm (Nat.not_lt_zero _)
 | succ m ih =>
  intro d k n a l c depth room w hm h h0 h1;have hfl:=h.1;have hl:=h.2.1;by_cases hdep:depth=0
  ·
   subst hdep;have E:Hid (tyV 0 k n d 0 room=0):=tyV_bad (by simp);have G:Hid _:=grown_drew (gal w (.cells #[.int .i64 k,.int .i64 n,.slice a l c] 46) none);clear ih;go_enter Tryz.func127,Tryz.ntmps127;go_wp2_with fail;refine wp_region_held_drew (S:=(fun _=>True)) (by kernel_rfl) trivial (fun hH=>?_);generalize (World.drew _)=u0 at *;simp only[sA9,lB,lC,Nat.reduceAdd,Array.replicate,List.replicate];refine tk 0 ?_;refine tk 1 ?_;refine tk 2 ?_;refine tks 3 ?_;refine tks 4 ?_;refine tk 5 ?_;refine tk 6 ?_;refine tks 7 ?_;refine tks 8 ?_;refine tks 9 ?_;refine tks 10 ?_;refine tks 11 ?_;refine tks 12 ?_;refine tks 13 ?_;refine tks 14 ?_;refine tks 15 ?_;refine tks 16 ?_;refine tk 17 ?_;refine wpAnyH_done (by kernel_rfl) ?_ _;go_wp2;go_ret;exact ⟨by rw[E.out];rfl,G.out⟩
  have hdep':((depth:Int) == 0)=false:=by simp;omega
  by_cases hroom:room=0
  ·
   subst hroom;have E:Hid (tyV 0 k n d depth 0=0):=if_neg (fun x=>by omega);have G:Hid _:=grown_drew (gal w (.cells #[.int .i64 k,.int .i64 n,.slice a l c] 46) none);clear ih;go_enter Tryz.func127,Tryz.ntmps127;go_wp2_with fail;refine wp_region_held_drew (S:=(fun _=>True)) (by kernel_rfl) trivial (fun hH=>?_);generalize (World.drew _)=u0 at *;simp only[sA9,lB,lC,Nat.reduceAdd,Array.replicate,List.replicate];refine tk 0 ?_;refine tk 1 ?_;refine tk 2 ?_;refine tk 3 ?_;refine tk 4 ?_;refine tk 5 ?_;refine tk 6 ?_;refine tks 7 ?_;refine tks 8 ?_;refine tks 9 ?_;refine tks 10 ?_;refine tks 11 ?_;refine tks 12 ?_;refine tks 13 ?_;refine tks 14 ?_;refine tks 15 ?_;refine tks 16 ?_;refine tk 17 ?_;refine wpAnyH_done (by kernel_rfl) ?_ _;go_wp2;go_ret;exact ⟨by rw[E.out];rfl,G.out⟩
  have hroom':((room:Int) == 0)=false:=by simp;omega
  have g0:=gal w (.cells #[.int .i64 k,.int .i64 n,.slice a l c] 46) none;have t0:Tri w.heap.size 0 (.int .i64 k) (.int .i64 n) (.slice a l c) (w.alloc (.cells #[.int .i64 k,.int .i64 n,.slice a l c] 46)):=(three (hnw w (.cells #[.int .i64 k,.int .i64 n,.slice a l c] 46))).1;have gd:=grown_drew (grf (w.alloc (.cells #[.int .i64 k,.int .i64 n,.slice a l c] 46)) none);have T0:Hid (Tri w.heap.size 0 (.int .i64 k) (.int .i64 n) (.slice a l c) _):=t0.none gd;have G0:Hid (w.grownBy _ none):=gtr g0 gd;have IH:Hid _:=ih;have HS:Hid (SlF w a l d):=h;clear ih h g0 t0 gd;go_enter Tryz.func127,Tryz.ntmps127;go_upto_if 1 with fail
  go_cut [28] (fun s28 wx=>s28 = .bool (!fitsB k n l)∧Hid (w.grownBy wx none)∧Hid (Tri w.heap.size 0 (.int .i64 k) (.int .i64 n) (.slice a l c) wx))
  case first =>
   clear IH HS;go_wp2_with fail;by_cases h6:k=6
   ·
    have ES:Hid (shpV k = .iface 156 (.agg #[])):=by show _=_;rw[h6];rfl
    have EF:Hid (fitsB 6 n l=fitsB k n l):=by show _=_;rw[h6]
    clear h6;have hmeth:=methData;refine wp_region_held_drew (S:=(fun u=>Tri w.heap.size 0 (.int .i64 k) (.int .i64 n) (.slice a l c) u)) (by kernel_rfl) T0.out (fun hH=>?_);generalize (World.drew _)=u0 at *;simp only[sA9,lB,lC,Nat.reduceAdd,Array.replicate,List.replicate];refine tk 0 ?_;refine tk 1 ?_;refine tk 2 ?_;refine tk 3 ?_;refine tk 4 ?_;refine tk 5 ?_;refine tk 6 ?_;refine tk 7 ?_;refine tk 8 ?_;refine tk 10 ?_;refine tk 11 ?_;refine tk 12 ?_;refine tk 13 ?_;refine tk 14 ?_;refine rd 9 rfl (fun K hK=>?_);go_simp;refine Calls.mono (shpT _ u0) ?_;rintro e u1 ⟨rfl,hg1⟩;refine hK.out _ _ (Tri.none T0.out hg1) ?_;clear hK K hH;intro hH;have G1:Hid (w.grownBy u1 none):=gtr G0.out hg1;have T1:Hid _:=Tri.none T0.out hg1;clear hg1;rw[ES.out];simp only[Act.put,nA,nB,nC,nD,nE,nF];refine rd 15 rfl (fun K hK=>?_);go_simp;refine Calls.mono (dataFits n l u1) ?_;rintro e u2 ⟨he,hg2⟩;subst he;refine hK.out _ _ (Tri.none T1.out hg2) ?_
    clear hK K hH;intro hH;have G2:Hid (w.grownBy u2 none):=gtr G1.out hg2;have T2:Hid _:=Tri.none T1.out hg2;clear hg2 G1 T1 T0 G0;rw[EF.out];simp only[Act.put,nA,nB,nC,nD,nE,nF];refine tk 16 ?_;refine tk 17 ?_;refine wpAnyH_done (by kernel_rfl) ?_ _;go_wp2;go_meet
    case rel=>exact ⟨rfl,G2,T2⟩
   by_cases h7:k=7
   ·
    have ES:Hid (shpV k = .iface 155 (.agg #[])):=by show _=_;rw[h7];rfl
    have EF:Hid (fitsB 7 n l=fitsB k n l):=by show _=_;rw[h7]
    clear h7 h6;have hmeth:=methVar;refine wp_region_held_drew (S:=(fun u=>Tri w.heap.size 0 (.int .i64 k) (.int .i64 n) (.slice a l c) u)) (by kernel_rfl) T0.out (fun hH=>?_);generalize (World.drew _)=u0 at *;simp only[sA9,lB,lC,Nat.reduceAdd,Array.replicate,List.replicate];refine tk 0 ?_;refine tk 1 ?_;refine tk 2 ?_;refine tk 3 ?_;refine tk 4 ?_;refine tk 5 ?_;refine tk 6 ?_;refine tk 7 ?_;refine tk 8 ?_;refine tk 10 ?_;refine tk 11 ?_;refine tk 12 ?_;refine tk 13 ?_;refine tk 14 ?_;refine rd 9 rfl (fun K hK=>?_);go_simp;refine Calls.mono (shpT _ u0) ?_;rintro e u1 ⟨rfl,hg1⟩;refine hK.out _ _ (Tri.none T0.out hg1) ?_;clear hK K hH;intro hH;have G1:Hid (w.grownBy u1 none):=gtr G0.out hg1;have T1:Hid _:=Tri.none T0.out hg1;clear hg1;rw[ES.out];simp only[Act.put,nA,nB,nC,nD,nE,nF];refine rd 15 rfl (fun K hK=>?_);go_simp;refine Calls.mono (varFits n l u1) ?_;rintro e u2 ⟨he,hg2⟩;subst he;refine hK.out _ _ (Tri.none T1.out hg2) ?_
    clear hK K hH;intro hH;have G2:Hid (w.grownBy u2 none):=gtr G1.out hg2;have T2:Hid _:=Tri.none T1.out hg2;clear hg2 G1 T1 T0 G0;rw[EF.out];simp only[Act.put,nA,nB,nC,nD,nE,nF];refine tk 16 ?_;refine tk 17 ?_;refine wpAnyH_done (by kernel_rfl) ?_ _;go_wp2;go_meet
    case rel=>exact ⟨rfl,G2,T2⟩
   by_cases hx:k < 0∨7 < k
   ·
    have ES:Hid (shpV k = .iface 163 (.agg #[])):=by show _=_;unfold shpV;rw[if_neg h6,if_neg h7,if_pos hx]
    have EF:Hid (fitsB 8 n l=fitsB k n l):=by show _=_;rw[fitsx (k:=k) (by omega) (by omega) (by omega) (by omega) (by omega) (by omega) (by omega) (by omega),fitsx (by omega) (by omega) (by omega) (by omega) (by omega) (by omega) (by omega) (by omega)]
    clear h7 h6 hx;have hmeth:=methNo;refine wp_region_held_drew (S:=(fun u=>Tri w.heap.size 0 (.int .i64 k) (.int .i64 n) (.slice a l c) u)) (by kernel_rfl) T0.out (fun hH=>?_);generalize (World.drew _)=u0 at *;simp only[sA9,lB,lC,Nat.reduceAdd,Array.replicate,List.replicate];refine tk 0 ?_;refine tk 1 ?_;refine tk 2 ?_;refine tk 3 ?_;refine tk 4 ?_;refine tk 5 ?_;refine tk 6 ?_;refine tk 7 ?_;refine tk 8 ?_;refine tk 10 ?_;refine tk 11 ?_;refine tk 12 ?_;refine tk 13 ?_;refine tk 14 ?_;refine rd 9 rfl (fun K hK=>?_);go_simp;refine Calls.mono (shpT _ u0) ?_;rintro e u1 ⟨rfl,hg1⟩;refine hK.out _ _ (Tri.none T0.out hg1) ?_;clear hK K hH;intro hH;have G1:Hid (w.grownBy u1 none):=gtr G0.out hg1;have T1:Hid _:=Tri.none T0.out hg1;clear hg1;rw[ES.out];simp only[Act.put,nA,nB,nC,nD,nE,nF];refine rd 15 rfl (fun K hK=>?_);go_simp;refine Calls.mono (noFits n l u1) ?_;rintro e u2 ⟨he,hg2⟩;subst he
    refine hK.out _ _ (Tri.none T1.out hg2) ?_;clear hK K hH;intro hH;have G2:Hid (w.grownBy u2 none):=gtr G1.out hg2;have T2:Hid _:=Tri.none T1.out hg2;clear hg2 G1 T1 T0 G0;rw[EF.out];simp only[Act.put,nA,nB,nC,nD,nE,nF];refine tk 16 ?_;refine tk 17 ?_;refine wpAnyH_done (by kernel_rfl) ?_ _;go_wp2;go_meet
    case rel=>exact ⟨rfl,G2,T2⟩
   obtain ⟨sv,z,bv,hV,hF⟩:=fixV_is k n l (by omega) (by omega)
   have ES:Hid (shpV k = .iface 153 (.agg #[.string sv,.int .i64 z,.bool bv])):=by show _=_;unfold shpV;rw[if_neg h6,if_neg h7,if_neg hx,hV]
   have EF:Hid ((decide (n=0) && decide ((l:Int)=z))=fitsB k n l):=hF;clear h7 h6 hx hV hF;have hmeth:=methFix (.agg #[.string sv,.int .i64 z,.bool bv]);refine wp_region_held_drew (S:=(fun u=>Tri w.heap.size 0 (.int .i64 k) (.int .i64 n) (.slice a l c) u)) (by kernel_rfl) T0.out (fun hH=>?_);generalize (World.drew _)=u0 at *;simp only[sA9,lB,lC,Nat.reduceAdd,Array.replicate,List.replicate];refine tk 0 ?_;refine tk 1 ?_;refine tk 2 ?_;refine tk 3 ?_;refine tk 4 ?_;refine tk 5 ?_;refine tk 6 ?_;refine tk 7 ?_;refine tk 8 ?_;refine tk 10 ?_;refine tk 11 ?_;refine tk 12 ?_;refine tk 13 ?_;refine tk 14 ?_;refine rd 9 rfl (fun K hK=>?_);go_simp;refine Calls.mono (shpT _ u0) ?_;rintro e u1 ⟨rfl,hg1⟩;refine hK.out _ _ (Tri.none T0.out hg1) ?_;clear hK K hH;intro hH;have G1:Hid (w.grownBy u1 none):=gtr G0.out hg1;have T1:Hid _:=Tri.none T0.out hg1;clear hg1;rw[ES.out];simp only[Act.put,nA,nB,nC,nD,nE,nF]
   refine rd 15 rfl (fun K hK=>?_);go_simp;refine Calls.mono (fixFits sv bv z n l u1) ?_;rintro e u2 ⟨he,hg2⟩;subst he;refine hK.out _ _ (Tri.none T1.out hg2) ?_;clear hK K hH;intro hH;have G2:Hid (w.grownBy u2 none):=gtr G1.out hg2;have T2:Hid _:=Tri.none T1.out hg2;clear hg2 G1 T1 T0 G0;rw[EF.out];simp only[Act.put,nA,nB,nC,nD,nE,nF];refine tk 16 ?_;refine tk 17 ?_;refine wpAnyH_done (by kernel_rfl) ?_ _;go_wp2;go_meet
   case rel=>exact ⟨rfl,G2,T2⟩
  case rest =>
   obtain ⟨rfl,hG,hT⟩:=hcut;clear T0 G0
   cases hb:fitsB k n l with
   | false =>
    have E:Hid (tyV 0 k n d depth room=0):=tyV_bad (by rw[hfl,hb];simp);simp only[Bool.not_false];go_wp2;go_ret;exact ⟨by rw[E.out];rfl,hG.out⟩
   | true =>
    have E:Hid (tyV 0 k n d depth room=accV 0 d (depth - 1) 1 room):=tyV_acc hdep (by rw[hfl];exact hb);simp only[Bool.not_true];obtain ⟨t0,t1,t2⟩:=hT.out;have t2':wc.cell? ⟨w.heap.size,2,none⟩=some (.slice a l c):=t2;clear t0 t1 t2 hT hb;rcases HS.out.cases with ⟨rfl,rfl⟩|⟨b,o,rfl,hin,-,hpos⟩
    ·
     have E2:Hid (tyV 0 k n .nil depth room=1):=E.out.trans (accV_nil (by omega));clear E;go_wp2;refine wp_loop_rounds 1 ?_;rw[rounds_succ];go_wp2;go_ret;exact ⟨by rw[E2.out];rfl,hG.out⟩
    have IN:Hid (InF wc d b o):=hin.none hG.out;clear hin HS;go_wp2
    go_loopw [7,32] (fun v i wr=>∃ (j s:Nat) (R:F),j≤l∧i = .int .i64 j∧v = .int .i64 s∧1≤s∧s≤room∧wc.grownBy wr none∧InF wr R b (o+j * 3)∧R.len+j=l∧R.size≤d.size∧Hid (accV 0 d (depth - 1) 1 room=accV 0 R (depth - 1) s room)) (fun _ i _=>l - (intOf i).toNat)
    case atStart=>exact ⟨0,1,d,Nat.zero_le _,rfl,rfl,by omega,by omega,grf _ _,by simpa using IN.out,by omega,Nat.le_refl _,rfl⟩
    case round =>
     obtain ⟨j,s,R,hj,rfl,rfl,hs1,hs2,hg,hR,hRl,hRs,hv⟩:=hrel;by_cases hlt:j < l
     ·
      obtain ⟨q,hq⟩:∃ q,R.len=q+1:=⟨R.len - 1,by omega⟩;obtain ⟨kk,nn,d',R',rfl,hR'⟩:=F.cons_of_len hq;obtain ⟨a',l',c',c0,c1,c2,hd,hR2⟩:=hR.out
      have e3:o+j * 3+3=o+(j+1) * 3:=by omega
      rw[e3] at hR2
      have hds:d'.size < m:=by simp only[F.size] at hRs hm;omega
      have hRs':R'.size≤d.size:=by simp only[F.size] at hRs;omega
      have ga:=gal wr (.cells #[.int .i64 kk,.int .i64 nn,.slice a' l' c'] 46) none;have C:=IH.out d' kk nn a' l' c' (depth - 1) (room - s) _ hds (hd.none ga) (by omega) (by omega)
      have ed:((depth - 1:Nat):Int)=(depth:Int) - 1:=by omega
      have er:((room - s:Nat):Int)=(room:Int) - s:=by omega
      rw[ed,er] at C;have CC:Hid _:=C;have FX:Hid (InF _ R' b (o+(j+1) * 3)∧wc.grownBy _ none):=⟨hR2.none ga,gtr hg ga⟩;clear hd hR hR2 hg IN IH hRs C ga ed er hdep' hroom';go_wp2_with fail;refine Calls.mono CC.out ?_;rintro e u ⟨rfl,hgu⟩;obtain ⟨hR2,hg⟩:=FX.out;have FY:Hid (InF u R' b (o+(j+1) * 3)∧wc.grownBy u none):=⟨hR2.none hgu,gtr hg hgu⟩;clear hR2 hg hgu CC c0 c1 c2 FX;simp only[];by_cases hh:depth - 1≠0∧fitsB kk nn d'.len=true∧okF d' (depth - 1 - 1)=true∧1+d'.size≤room - s
      ·
       have e1:tyV 0 kk nn d' (depth - 1) (room - s)=((1+d'.size:Nat):Int):=if_pos hh;rw[e1];obtain ⟨q0,q1,q2,q3⟩:=hh;have hv2:Hid (accV 0 d (depth - 1) 1 room=accV 0 R' (depth - 1) (s+(1+d'.size)) room):=hv.out.trans (accV_cons q0 q1 q2);generalize hz:1+d'.size=z at *
       have hz0:¬ (z:Int)=0:=by omega
       clear e1 hv q0 q1 q2;go_wp2;go_roundw
       case rel=>exact ⟨j+1,s+z,R',by omega,by go_num,by go_num,by omega,by omega,FY.out.2,FY.out.1,by omega,hRs',hv2⟩
       case measure=>simp [intOf];omega
      ·
       have e1:tyV 0 kk nn d' (depth - 1) (room - s)=0:=if_neg hh;rw[e1];have hv2:Hid (accV 0 d (depth - 1) 1 room=0):=hv.out.trans (accV_bad (fun x=>hh ⟨x.1,x.2.1,x.2.2.1,by omega⟩));clear e1 hv hh;go_wp2;go_ret;exact ⟨by rw[E.out,hv2.out];rfl,gtr hG.out FY.out.2⟩
     ·
      obtain rfl:j=l:=by omega
      obtain rfl:R = .nil:=F.nil_of_len (by omega);have E2:Hid (tyV 0 k n d depth room=(s:Int)):=(E.out.trans hv.out).trans (accV_nil hs2);clear hv;go_wp2;go_ret;exact ⟨by rw[E2.out];rfl,gtr hG.out hg⟩
theorem implTyOkT (d:F) (k n:Int) (a:Option Addr) (l c:Nat) (w:World) (h:SlF w a l d) :
  Calls Tryz.prog 112 #[.agg #[.int .i64 k,.int .i64 n,.slice a l c]] w fun e u=>e = .returned (.bool (okT k n d))∧w.grownBy u none:=by
 have g0:w.grownBy (w.alloc (.cells #[.int .i64 k,.int .i64 n,.slice a l c] 46)) none:=gal _ _ _;have CC:Hid _:=sizeT (d.size+1) d k n a l c 10 60 _ (Nat.lt_succ_self _) (h.none g0) (by omega) (by omega);have G0:Hid _:=g0;clear h g0;go_enter Tryz.func112,Tryz.ntmps112;go_wp2_with fail;refine Calls.mono CC.out ?_;rintro e u ⟨rfl,hg⟩;have G:Hid (w.grownBy u none):=gtr G0.out hg;clear hg G0 CC;simp only[]
 cases hb:okT k n d with
 | true =>
  rw[tyV_ok hb]
  have hpos:(0:Int) < ((1+d.size:Nat):Int):=by omega
  generalize ((1+d.size:Nat):Int)=z at *;go_wp2;go_ret;exact ⟨by simp [hb],G.out⟩
 | false =>
  rw[tyV_no hb];go_wp2;go_ret;exact ⟨by rw[hb];rfl,G.out⟩
end Go.Proofs.YtnmlbeefjjohfaaGreatDoor.By
