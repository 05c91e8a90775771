/-
  No statement is proved here.
-/
import Derived.Test.YtnmlbeefjjohfaaGreatDoorTRdSAlsoSh
namespace Go.Proofs.YtnmlbeefjjohfaaGreatDoor.By
set_option maxRecDepth 100000
set_option maxHeartbeats 16000000
open Go.RowKit
set_option linter.unusedVariables false
set_option linter.unusedSimpArgs false
theorem specTyReadT (a:Option Addr) (N cap:Nat) (zs:List Int) (hz:Byt zs) (hN:N≤1048576) (p:Int) (w:World) (h:Reads w a N zs) (hp:p≤9223372036854775807) :
  Calls Tryz.prog 30 #[.slice a N cap,.int .i64 p] w fun e u=>RdP w (readV zs p) e u:=by
 have g0:w.grownBy (w.alloc (.cells #[.int .i64 0,.int .i64 0,.slice none 0 0] 46)) none:=gal _ _ _;have L0:Hid (w.grownBy (w.alloc (.cells #[.int .i64 0,.int .i64 0,.slice none 0 0] 46)) none∧(w.alloc (.cells #[.int .i64 0,.int .i64 0,.slice none 0 0] 46)).heap[w.heap.size]? = some (Obj.cells #[.int .i64 0,.int .i64 0,.slice none 0 0] 46)∧(w.alloc (.cells #[.int .i64 0,.int .i64 0,.slice none 0 0] 46)).heap.size=w.heap.size+1):=⟨g0,hnw w _,by simp⟩;have CC:Hid _:=l3readT a N cap zs hz hN 10 p _ (Nat.le_refl _) (h.none g0) hp;clear h g0;go_enter Tryz.func30,Tryz.ntmps30;go_wp2_with fail;refine Calls.mono CC.out ?_;rintro e u ⟨a2,l2,c2,bd,he,hg,hnew⟩;subst he;obtain ⟨g0,b4,sz⟩:=L0.out;have LV:Hid (w.grownBy u none∧u.heap[w.heap.size]? = some (Obj.cells #[.int .i64 0,.int .i64 0,.slice none 0 0] 46)∧SlO u 46 a2 l2 c2 (rdR zs 10 p).2.2.1 bd∧bd.Nodup∧(∀ y ∈ bd,w.heap.size < y)):=⟨gtr g0 hg,(hg.block _ (lbk b4) (by simp)).trans b4,hnew.1,hnew.2.1,fun y hy=>by have:=hnew.2.2 y hy;omega⟩
 clear CC hg hnew g0 b4 sz L0
 have zero:∀ u,w.grownBy u none→u.heap[w.heap.size]? = some (Obj.cells #[.int .i64 0,.int .i64 0,.slice none 0 0] 46)→_∧w.grownBy (((u.setCell ⟨w.heap.size,0,none⟩ (.int .i64 0)).setCell ⟨w.heap.size,1,none⟩ (.int .i64 0)).setCell ⟨w.heap.size,2,none⟩ (.slice none 0 0)) none:=fun u hu hp=>⟨(fill3 (.int .i64 0) (.int .i64 0) (.slice none 0 0) hp).1,grown_into hu (fill3 (.int .i64 0) (.int .i64 0) (.slice none 0 0) hp).2 (Nat.le_refl _)⟩
 have ZR:Hid _:=zero;clear zero;generalize e4:w.heap.size=q4 at *;have PQ:Hid (w.heap.size=q4):=e4;clear e4
 cases hT:rdT zs 10 p with
 | none =>
  have eR:rdR zs 10 p=(0,0,.nil,-1):=by unfold rdR;rw[hT]
  have EN:Hid (readV zs p=(0,0,.nil,-1)):=by show _=_;unfold readV;rw[hT]
  rw[eR];have ga:=gal u (.cells #[.int .i64 0,.int .i64 0,.slice a2 l2 c2] 46) none;have b4:=(ga.block _ (lbk LV.out.2.1) (by simp)).trans LV.out.2.1;have FQ:Hid _:=ZR.out _ (gtr LV.out.1 ga) b4;obtain ⟨⟨z0,z1,z2⟩,h0,h3,h4⟩:=three b4;clear hT eR ga ZR LV b4;simp only[];go_wp2
  (try simp only[Exit.inBlock,Exit.then])
  refine bodyPost_ret (results_cell2 (P:=Tryz.prog) Tryz.results30 _ _ q4 _ _ _ _ rfl FQ.out.1 Tryz.underlying46 rfl (by kernel_rfl)) rfl ?_;rw[EN.out];exact ⟨none,0,0,[],rfl,FQ.out.2,New.nil _ _ _⟩
 | some y =>
  have eR:rdR zs 10 p=y:=by unfold rdR;rw[hT]
  have hyb:=rdT_bounds hz 10 p y hT
  have ER:Hid (readV zs p=if okT y.1 y.2.1 y.2.2.1=true then y else (0,0,.nil,-1)):=by show _=_;unfold readV;rw[hT]
  rw[eR] at LV ⊢;obtain ⟨rk,rn,rd,x'⟩:=y;simp only[] at LV ER hyb ⊢;obtain ⟨hy0,hy1⟩:=hyb
  have hyn:¬ x' < 0:=by omega
  have ga:=gal u (.cells #[.int .i64 rk,.int .i64 rn,.slice a2 l2 c2] 46) none;have bt:=hnw u (.cells #[.int .i64 rk,.int .i64 rn,.slice a2 l2 c2] 46);have b4:=(ga.block _ (lbk LV.out.2.1) (by simp)).trans LV.out.2.1;have LA:Hid (w.grownBy (u.alloc (.cells #[.int .i64 rk,.int .i64 rn,.slice a2 l2 c2] 46)) none∧(u.alloc (.cells #[.int .i64 rk,.int .i64 rn,.slice a2 l2 c2] 46)).heap[q4]? = some (Obj.cells #[.int .i64 0,.int .i64 0,.slice none 0 0] 46)∧(u.alloc (.cells #[.int .i64 rk,.int .i64 rn,.slice a2 l2 c2] 46)).heap[u.heap.size]? = some (Obj.cells #[.int .i64 rk,.int .i64 rn,.slice a2 l2 c2] 46)∧SlO (u.alloc (.cells #[.int .i64 rk,.int .i64 rn,.slice a2 l2 c2] 46)) 46 a2 l2 c2 rd bd∧bd.Nodup∧(∀ y ∈ bd,q4 < y)):=⟨gtr LV.out.1 ga,b4,bt,LV.out.2.2.1.old ga,LV.out.2.2.2.1,LV.out.2.2.2.2⟩;have CC:Hid _:=specTyOkT rd rk rn a2 l2 c2 _ LA.out.2.2.2.1.reads;obtain ⟨⟨z0,z1,z2⟩,h0,h3,h4⟩:=three bt
  clear hT eR ga bt b4 LV;go_wp2_with fail;refine Calls.mono CC.out ?_;rintro e u2 ⟨rfl,hg⟩;obtain ⟨g1,b4,bt,acc,nd,gt⟩:=LA.out;have LB:Hid (w.grownBy u2 none∧u2.heap[q4]? = some (Obj.cells #[.int .i64 0,.int .i64 0,.slice none 0 0] 46)∧u2.heap[u.heap.size]? = some (Obj.cells #[.int .i64 rk,.int .i64 rn,.slice a2 l2 c2] 46)∧SlO u2 46 a2 l2 c2 rd bd∧bd.Nodup∧(∀ y ∈ bd,q4 < y)):=⟨gtr g1 hg,(hg.block _ (lbk b4) (by simp)).trans b4,(hg.block _ (lbk bt) (by simp)).trans bt,acc.old hg,nd,gt⟩;clear hg CC LA g1 b4 bt acc nd gt z0 z1 z2 h0 h3 h4;obtain ⟨⟨z0,z1,z2⟩,h0,h3,h4⟩:=three LB.out.2.1;obtain ⟨⟨y0,y1,y2⟩,f0,f1,f2⟩:=three LB.out.2.2.1;simp only[]
  cases hb:okT rk rn rd with
  | false =>
   have EN:Hid (readV zs p=(0,0,.nil,-1)):=by show _=_;rw[ER.out,hb];rfl
   have FQ:Hid _:=ZR.out u2 LB.out.1 LB.out.2.1;clear hb ER ZR LB;go_wp2
   (try simp only[Exit.inBlock,Exit.then])
   refine bodyPost_ret (results_cell2 (P:=Tryz.prog) Tryz.results30 _ _ q4 _ _ _ _ rfl FQ.out.1 Tryz.underlying46 rfl (by kernel_rfl)) rfl ?_;rw[EN.out];exact ⟨none,0,0,[],rfl,FQ.out.2,New.nil _ _ _⟩
  | true =>
   have EN:Hid (readV zs p=(rk,rn,rd,x')):=by show _=_;rw[ER.out,hb];rfl
   obtain ⟨d1,k1⟩:=fill3 (.int .i64 rk) (.int .i64 rn) (.slice a2 l2 c2) LB.out.2.1;have FQ:Hid (_∧w.grownBy _ none∧New w _ 46 a2 l2 c2 rd bd):=⟨d1,grown_into LB.out.1 k1 (by have:=PQ.out;omega),LB.out.2.2.2.1.kept k1 (fun y hy=>by have:=LB.out.2.2.2.2.2 y hy;simp;omega),LB.out.2.2.2.2.1,fun y hy=>by have:=LB.out.2.2.2.2.2 y hy;have:=PQ.out;omega⟩;clear hb ER ZR LB d1 k1;go_wp2
   (try simp only[Exit.inBlock,Exit.then])
   refine bodyPost_ret (results_cell2 (P:=Tryz.prog) Tryz.results30 _ _ q4 _ _ _ _ rfl FQ.out.1 Tryz.underlying46 rfl (by kernel_rfl)) rfl ?_;rw[EN.out];exact ⟨a2,l2,c2,bd,rfl,FQ.out.2.1,FQ.out.2.2⟩
theorem pow7 (k:Nat):(2:Int) ^ (7 * (k:Int)).toNat=128 ^ k:=by
 have e:(7 * (k:Int)).toNat=7 * k:=by omega
 rw[e,Int.pow_mul];rfl
theorem implGet (a:Option Addr) (n cap:Nat) (zs:List Int) (p:Int) (w:World) (h:Reads w a n zs) (hz:Byt zs) (hn:n≤4194304) (hp:p≤9223372036854775807) :
  Calls Tryz.prog 64 #[.slice a n cap,.int .i64 p] w fun e w'=>e = .returned (.tuple #[.int .i64 (getNum zs p).1,.int .i64 (getNum zs p).2])∧∃ m,w' = w.drewN m:=by
 obtain ⟨hl,h⟩:=h;by_cases hneg:p < 0
 ·
  have e:getNum zs p=(0,-1):=by rw[getNum,if_pos hneg]
  rw[e];clear h hl hz e;go_enter Tryz.func64,Tryz.ntmps64;go_wp2;go_ret2;exact ⟨rfl,0,rfl⟩
 have e0:getNum zs p=getAt zs p.toNat 5 0 0:=by rw[getNum,if_neg hneg]
 rw[e0];by_cases hfar:(n:Int)≤p
 ·
  rw[getAt_out (by omega)];clear h hl hz e0;go_enter Tryz.func64,Tryz.ntmps64;go_wp2;refine wp_loop_rounds 1 ?_;rw[rounds_succ];go_wp2;go_ret2;exact ⟨rfl,0,rfl⟩
 obtain ⟨q,rfl⟩:∃ q:Nat,p=q:=⟨p.toNat,by omega⟩
 have hq:q < n:=by omega
 rcases h with h|⟨b,off,rfl,hc⟩
 ·
  omega
 rw[Int.toNat_natCast];clear e0 hfar;obtain ⟨r1,r2,hr⟩:∃ r1 r2,getAt zs q 5 0 0=(r1,r2):=⟨_,_,rfl⟩;rw[hr];have HR:Hid (getAt zs q 5 0 0=(r1,r2)):=hr;clear hr;go_enter Tryz.func64,Tryz.ntmps64;go_wp2
 go_loopw [6,7] (fun v i wr=>∃ (k m:Nat) (N U:Int),k≤5∧i = .int .i64 k∧v = .int .i64 N∧Hid (U=128 ^ k)∧0≤N∧N < U∧Hid (getAt zs q (5 - k) k N=(r1,r2))∧wr=w.drewN m) (fun _ i _=>5 - (intOf i).toNat)
 case atStart=>exact ⟨0,0,0,1,by omega,rfl,rfl,rfl,by omega,by decide,HR,rfl⟩
 case round =>
  obtain ⟨k,m,N,U,hk,rfl,rfl,HU,hN0,hN1,HK,rfl⟩:=hrel;clear HR;by_cases hk5:k < 5
  ·
   by_cases hqk:q+k < n
   ·
    obtain ⟨x,hx⟩:∃ x,x=zs.getD (q+k) 0:=⟨_,rfl⟩;have hb:=byt_get hz (q+k);rw[← List.getD_eq_getElem?_getD,← hx] at hb;obtain ⟨hx0,hx1⟩:=hb
    have hcx:w.cell? ⟨b,off+(q+k),none⟩=some (.int .u8 x):=by rw[hx];exact hc (q+k) hqk
    have hpow:(2:Int) ^ (7 * (k:Int)).toNat=U:=by rw[pow7,HU.out]
    have HX:Hid (x=zs.getD (q+k) 0):=hx;obtain ⟨hU0,hU1⟩:=unit_le HU.out hk5;obtain ⟨hP0,hP1⟩:=prod_le (x:=x) hx0 hU0
    have HK':Hid (getAt zs q ((4 - k)+1) k N=(r1,r2)):=by have:=HK.out;rwa [show 5 - k=(4 - k)+1 by omega] at this
    have HL:Hid (q+k < zs.length):=by rw[hl];exact hqk
    clear hx hc hz hl HK;by_cases h1:128≤x
    ·
     have HN:Hid (getAt zs q (5 - (k+1)) (k+1) (N+x % 128 * U)=(r1,r2)):=by
      have:=HK'.out;rw[getAt_more HL.out HX.out HU.out h1] at this;rwa [show 5 - (k+1)=4 - k by omega]
     go_wp2;go_roundw
     case rel=>exact ⟨k+1,m,N+x % 128 * U,U * 128,by omega,by go_num,rfl,unit_step HU.out,by omega,by omega,HN,rfl⟩
     case measure=>simp [intOf];omega
    ·
     by_cases hA:x≤0∧0 < k
     ·
      obtain ⟨hA,hB⟩:=hA
      have HF:Hid ((0,-1)=(r1,r2)):=by have:=HK'.out;rwa [getAt_no HL.out HX.out HU.out (by omega) (.inl ⟨by omega,hB⟩)] at this
      go_wp2
      all_goals (go_ret2;exact ⟨ret2 HF.out,m,rfl⟩)
     ·
      by_cases hC:2147483647 < N+x % 128 * U
      ·
       have HF:Hid ((0,-1)=(r1,r2)):=by have:=HK'.out;rwa [getAt_no HL.out HX.out HU.out (by omega) (.inr hC)] at this
       have h3:0 < x:=by
        rcases (show 0 < x∨k=0 by omega) with h3|rfl
        ·
         exact h3
        ·
         have:=HU.out;rw[Int.pow_zero] at this;omega
       go_wp2
       all_goals (go_ret2;exact ⟨ret2 HF.out,m,rfl⟩)
      ·
       have HF:Hid ((N+x % 128 * U,(q:Int)+k+1)=(r1,r2)):=by have:=HK'.out;rwa [getAt_yes HL.out HX.out HU.out (by omega) (by omega)] at this
       rcases (show 0 < x∨(x≤0∧k < 1) by omega) with h3|⟨h3,h4⟩
       ·
        go_wp2
        all_goals (go_ret2;exact ⟨ret2 HF.out,m,rfl⟩)
       ·
        have HF':Hid ((N,(q:Int)+1)=(r1,r2)):=at_zero (by omega) (by omega) HF.out;go_wp2
        all_goals (go_ret2;first|exact ⟨ret2 HF.out,m,rfl⟩|exact ⟨ret2 HF'.out,m,rfl⟩)
   ·
    have HF:Hid ((0,-1)=(r1,r2)):=by have:=HK.out;rwa [getAt_out (by omega)] at this
    clear hc hz hl;go_wp2
    all_goals (go_ret2;exact ⟨ret2 HF.out,m,rfl⟩)
  ·
   obtain rfl:k=5:=by omega
   have HF:Hid ((0,-1)=(r1,r2)):=HK.out;clear hc hz hl;go_wp2
   all_goals (go_ret2;exact ⟨ret2 HF.out,m,rfl⟩)
def Tri (b off:Nat) (v0 v1 v2:Value) (w:World):Prop:=w.cell? ⟨b,off,none⟩=some v0∧w.cell? ⟨b,off+1,none⟩=some v1∧w.cell? ⟨b,off+2,none⟩=some v2
theorem Tri.none {b off:Nat} {v0 v1 v2:Value} {w w':World} (h:Tri b off v0 v1 v2 w) (hg:w.grownBy w' Option.none):Tri b off v0 v1 v2 w' :=
 ⟨hg.cell h.1 (by simp),hg.cell h.2.1 (by simp),hg.cell h.2.2 (by simp)⟩
theorem eqT_of {a a':Option Addr} {l c c':Nat} (k n:Int) (w:World)
  (H:∀ w',w.grownBy w' none→Calls Tryz.prog 71 #[.slice a l c,.slice a' l c'] w' fun e u=>e = .returned (.bool true)∧w'.grownBy u none) :
  Calls Tryz.prog 72 #[.agg #[.int .i64 k,.int .i64 n,.slice a l c],.agg #[.int .i64 k,.int .i64 n,.slice a' l c']] w fun e u=>e = .returned (.bool true)∧w.grownBy u none:=by
 have HH:Hid _:=H;clear H;go_enter Tryz.func72,Tryz.ntmps72;go_wp2_with fail;have g0:=grown_alloc (grown_alloc (grf w none) (.cells #[.int .i64 k,.int .i64 n,.slice a l c] 46)) (.cells #[.int .i64 k,.int .i64 n,.slice a' l c'] 46);refine Calls.mono (HH.out _ g0) ?_;rintro e u ⟨rfl,hg⟩;have G:Hid (w.grownBy u none):=gtr g0 hg;clear g0 hg HH;simp only[];go_wp2;go_ret;exact ⟨rfl,G.out⟩
theorem eqS (m:Nat):∀ (f:F) (a a':Option Addr) (l c c':Nat) (w:World),f.size≤m→SlF w a l f→SlF w a' l f →
  Calls Tryz.prog 71 #[.slice a l c,.slice a' l c'] w fun e u=>e = .returned (.bool true)∧w.grownBy u none:=by
 induction m with
 | zero =>
  intro f a a' l c c' w hm h h';have hlen:=f.len_le;obtain ⟨e1,e2,-⟩:=h
  obtain rfl:l=0:=by omega
  go_enter Tryz.func71,Tryz.ntmps71;go_wp2;refine wp_loop_rounds 1 ?_;rw[rounds_succ];go_wp2;go_ret;exact ⟨rfl,grf _ _⟩
 | succ m ih =>
  intro f a a' l c c' w hm h h';have hlen:=f.len_le;have hl:=h.2.1;have hfl:=h.1;rcases h.cases with ⟨rfl,rfl⟩|⟨b,o,rfl,hin,-,hpos⟩
  ·
   go_enter Tryz.func71,Tryz.ntmps71;go_wp2;refine wp_loop_rounds 1 ?_;rw[rounds_succ];go_wp2;go_ret;exact ⟨rfl,grf _ _⟩
  rcases h'.cases with ⟨rfl,rfl⟩|⟨b',o',rfl,hin',-,-⟩
  ·
   exact absurd hpos (by omega)
  have IH:Hid _:=ih;have IN:Hid (InF w f b o∧InF w f b' o'):=⟨hin,hin'⟩;clear ih hin hin' h h';go_enter Tryz.func71,Tryz.ntmps71;go_wp2
  go_loopw [5] (fun i wr=>∃ (j:Nat) (R:F),j≤l∧i = .int .i64 j∧w.grownBy wr none∧InF wr R b (o+j * 3)∧InF wr R b' (o' + j * 3)∧R.size≤f.size∧R.len+j=l) (fun i _=>l - (intOf i).toNat)
  case atStart=>exact ⟨0,f,Nat.zero_le _,rfl,grf _ _,by simpa using IN.out.1,by simpa using IN.out.2,Nat.le_refl _,by omega⟩
  case round =>
   obtain ⟨j,R,hj,rfl,hg,hR,hR',hRs,hRl⟩:=hrel;by_cases hlt:j < l
   ·
    obtain ⟨q,hq⟩:∃ q,R.len=q+1:=⟨R.len - 1,by omega⟩;obtain ⟨kk,nn,d,R1,rfl,hR1⟩:=F.cons_of_len hq;obtain ⟨a1,l1,x1,c0,c1,c2,hd,hR2⟩:=hR.out;obtain ⟨a2,l2,x2,d0,d1,d2,hd',hR2'⟩:=hR'.out;obtain rfl:l1=l2:=hd.1.symm.trans hd'.1
    have e3:o+j * 3+3=o+(j+1) * 3:=by omega
    have e3':o' + j * 3+3=o' + (j+1) * 3:=by omega
    rw[e3] at hR2;rw[e3'] at hR2'
    have hds:d.size≤m:=by simp only[F.size] at hRs hm;omega
    have gd:=grown_drew (grf wr none);have C:=eqT_of (a:=a1) (a':=a2) (l:=l1) (c:=x1) (c':=x2) kk nn wr.drew (fun w' hw'=>IH.out d a1 a2 l1 x1 x2 w' hds (hd.none (gtr gd hw')) (hd'.none (gtr gd hw')));have CC:Hid _:=C;have TT:Hid (Tri b (o+j * 3) (.int .i64 kk) (.int .i64 nn) (.slice a1 l1 x1) wr.drew∧Tri b' (o' + j * 3) (.int .i64 kk) (.int .i64 nn) (.slice a2 l1 x2) wr.drew):=⟨Tri.none ⟨c0,c1,c2⟩ gd,Tri.none ⟨d0,d1,d2⟩ gd⟩;have FX:Hid (InF wr.drew R1 b (o+(j+1) * 3)∧InF wr.drew R1 b' (o' + (j+1) * 3)∧w.grownBy wr.drew none):=⟨hR2.none gd,hR2'.none gd,gtr hg gd⟩
    have hRs':R1.size≤f.size:=by simp only[F.size] at hRs;omega
    clear C hd hd' hR hR' hR2 hR2' hg IN IH c0 c1 c2 d0 d1 d2 gd hRs;go_wp2_with fail;refine wp_region_held_drew (S:=(fun u=>Tri b (o+j * 3) (.int .i64 kk) (.int .i64 nn) (.slice a1 l1 x1) u∧Tri b' (o' + j * 3) (.int .i64 kk) (.int .i64 nn) (.slice a2 l1 x2) u)) (by kernel_rfl) TT.out (fun hH=>?_);generalize wr.drew=u at *;clear wr;simp only[sA9,lB,lC,Nat.reduceAdd,Array.replicate,List.replicate];refine tk 0 ?_;refine tk 1 ?_;refine tk 2 ?_;refine tk 3 ?_;refine tk 4 ?_;refine tk 5 ?_;refine tk 6 ?_;refine tk 7 ?_;refine rd 8 rfl (fun K hK=>?_);go_simp;refine Calls.mono CC.out ?_;rintro e u2 ⟨rfl,hgu⟩;refine hK.out _ _ ⟨TT.out.1.none hgu,TT.out.2.none hgu⟩ ?_;clear hK K hH;intro hH;have FY:Hid (InF u2 R1 b (o+(j+1) * 3)∧InF u2 R1 b' (o' + (j+1) * 3)∧w.grownBy u2 none):=⟨FX.out.1.none hgu,FX.out.2.1.none hgu,gtr FX.out.2.2 hgu⟩;clear FX hgu CC;simp only[Act.put,nA,nB,nC,nD,nE,nF];refine tk 9 ?_
    refine wpAnyH_done (by kernel_rfl) ?_ _;go_wp2;go_roundw
    case rel=>exact ⟨j+1,R1,by omega,by go_num,FY.out.2.2,FY.out.1,FY.out.2.1,hRs',by omega⟩
    case measure=>simp [intOf];omega
   ·
    obtain rfl:j=l:=by omega
    go_wp2;go_ret;exact ⟨rfl,hg⟩
theorem implGet2 (a:Option Addr) (n cap:Nat) (zs:List Int) (p:Int) (w:World) (h:Reads w a n zs) (hz:Byt zs) (hn:n≤4194304) (hp:p≤9223372036854775807) :
  Calls Tryz.prog 64 #[.slice a n cap,.int .i64 p] w fun e u=>e = .returned (.tuple #[.int .i64 (getNum zs p).1,.int .i64 (getNum zs p).2])∧w.grownBy u none :=
 (implGet a n cap zs p w h hz hn hp).mono fun e u ⟨he,hq⟩=>⟨he,quiet hq⟩
theorem wide_none {a b:World} (h:a.grownBy b none) (row:Option Nat):a.grownBy b row:=⟨h.os,h.tape,h.output,h.size,fun i hi _=>h.block i hi (by simp)⟩
theorem numberT (q:Nat) (a:Option Addr) (N cap:Nat) (zs:List Int) (hz:Byt zs) (hN:N≤1048576) (p:Int) (rm:Int) (w:World) (b:w.heap[q]? = some (.cells #[.slice a N cap,.int .i64 p,.int .i64 rm] 128)) (h:Reads w a N zs) (hp:p≤9223372036854775807) :
  Calls Tryz.prog 117 #[.pointer (some ⟨q,0,none⟩)] w fun e u=>e = .returned (.int .i64 (getNum zs p).1)∧w.grownBy u (some q)∧u.heap[q]? = some (.cells #[.slice a N cap,.int .i64 (getNum zs p).2,.int .i64 rm] 128):=by
 have CC:Hid _:=fun u (hu:w.grownBy u none)=>implGet2 a N cap zs p u (h.none hu) hz (by omega) hp
 have HB:Hid _:=b;obtain ⟨⟨z0,z1,z2⟩,h0,h3,h4⟩:=three b;clear h b;go_enter Tryz.func117,Tryz.ntmps117;go_wp2_with fail;have L1:Hid (w.grownBy w.drew none∧w.drew.heap[q]? = some (.cells #[.slice a N cap,.int .i64 p,.int .i64 rm] 128)):=⟨grown_drew (grf w none),(World.grownBy.block (grown_drew (grf w none)) _ (lbk HB.out) (by simp)).trans HB.out⟩;refine wp_region_held_drew (S:=(fun u0=>Tri q 0 (.slice a N cap) (.int .i64 p) (.int .i64 rm) u0)) (by kernel_rfl) (three L1.out.2).1 (fun hH=>?_);generalize w.drew=u0 at *;simp only[sA9,lB,lC,Nat.reduceAdd,Array.replicate,List.replicate];refine tk 0 ?_;refine tk 1 ?_;refine tk 2 ?_;refine tk 3 ?_;refine tk 4 ?_;refine tk 5 ?_;refine tk 6 ?_;refine tk 7 ?_;refine rd 8 rfl (fun K hK=>?_);go_simp;refine Calls.mono (CC.out u0 L1.out.1) ?_;rintro e u ⟨rfl,hg⟩;have b1:=(hg.block _ (lbk L1.out.2) (by simp)).trans L1.out.2;have LQ:Hid (w.grownBy u none∧u.heap[q]? = some (.cells #[.slice a N cap,.int .i64 p,.int .i64 rm] 128)):=⟨gtr L1.out.1 hg,b1⟩
 refine hK.out _ _ (three b1).1 (fun hH2=>?_);clear hK K hH;have hH:=hH2;clear hH2 hg L1 b1 CC HB z0 z1 z2 h0 h3 h4;simp only[Act.put,nA,nB,nC,nD,nE,nF];refine tk 9 ?_;refine tk 10 ?_;refine tk 11 ?_;refine tk 12 ?_;refine tk 13 ?_;refine wpAnyH_done (by kernel_rfl) ?_ _;have FQ:Hid ((u.setCell ⟨q,1,none⟩ (.int .i64 (getNum zs p).2)).heap[q]? = some (.cells #[.slice a N cap,.int .i64 (getNum zs p).2,.int .i64 rm] 128)∧w.grownBy (u.setCell ⟨q,1,none⟩ (.int .i64 (getNum zs p).2)) (some q)):=⟨hsm u q 1 _ _ _ LQ.out.2,gtr (wide_none LQ.out.1 (some q)) (gsc u q 1 (.int .i64 (getNum zs p).2))⟩;obtain ⟨⟨z0,z1,z2⟩,h0,h3,h4⟩:=three LQ.out.2;clear LQ;go_wp2;go_ret;exact ⟨rfl,FQ.out.2,FQ.out.1⟩
def fixV (k:Int):Value :=
 if k=1 then .agg #[.string ⟨#[105,110,116]⟩,.int .i64 0,.bool false]
 else if k=2 then .agg #[.string ⟨#[116,101,120,116]⟩,.int .i64 0,.bool true]
 else if k=3 then .agg #[.string ⟨#[112,97,105,114]⟩,.int .i64 2,.bool true]
 else if k=4 then .agg #[.string ⟨#[102,117,110]⟩,.int .i64 2,.bool true]
 else if k=5 then .agg #[.string ⟨#[114,101,102]⟩,.int .i64 1,.bool true]
 else .agg #[.string ⟨#[117,110,105,116]⟩,.int .i64 0,.bool false]
def shpV (k:Int):Value :=
 if k=6 then .iface 156 (.agg #[])
 else if k=7 then .iface 155 (.agg #[])
 else if k < 0∨7 < k then .iface 163 (.agg #[])
 else .iface 153 (fixV k)
theorem fixT (k:Int) (h0:0≤k) (h1:k≤5) (w:World) :
  Calls Tryz.prog 128 #[.int .i64 k] w fun e u=>e = .returned (fixV k)∧w.grownBy u none:=by
 have hk:k=0∨k=1∨k=2∨k=3∨k=4∨k=5:=by omega
 clear h0 h1;rcases hk with rfl|rfl|rfl|rfl|rfl|rfl
 all_goals (go_enter Tryz.func128,Tryz.ntmps128;go_wp2;go_returns;exact ⟨rfl,gal _ _ _⟩)
theorem shpT (k:Int) (w:World) :
  Calls Tryz.prog 116 #[.int .i64 k] w fun e u=>e = .returned (shpV k)∧w.grownBy u none:=by
 by_cases h6:k=6
 ·
  subst h6;go_enter Tryz.func116,Tryz.ntmps116;go_wp2;go_ret;exact ⟨rfl,grf _ _⟩
 by_cases h7:k=7
 ·
  subst h7;go_enter Tryz.func116,Tryz.ntmps116;go_wp2;go_ret;exact ⟨rfl,grf _ _⟩
 by_cases hx:k < 0
 ·
  have E:Hid (shpV k = .iface 163 (.agg #[])):=by show shpV k=_;unfold shpV;rw[if_neg h6,if_neg h7,if_pos (.inl hx)]
  go_enter Tryz.func116,Tryz.ntmps116;go_wp2;go_ret;exact ⟨by rw[E.out];rfl,grf _ _⟩
 by_cases hy:7 < k
 ·
  have E:Hid (shpV k = .iface 163 (.agg #[])):=by show shpV k=_;unfold shpV;rw[if_neg h6,if_neg h7,if_pos (.inr hy)]
  go_enter Tryz.func116,Tryz.ntmps116;go_wp2;go_ret;exact ⟨by rw[E.out];rfl,grf _ _⟩
 have E:Hid (shpV k = .iface 153 (fixV k)):=by show shpV k=_;unfold shpV;rw[if_neg h6,if_neg h7,if_neg (by omega)]
 have CC:Hid _:=fixT k (by omega) (by omega) w;go_enter Tryz.func116,Tryz.ntmps116;go_wp2_with fail;refine Calls.mono CC.out ?_;rintro e u ⟨rfl,hg⟩;have G:Hid (w.grownBy u none):=hg;clear hg CC;simp only[];go_wp2;go_ret;exact ⟨by rw[E.out];rfl,G.out⟩
theorem asVarVar (w:World):Sem.run Tryz.prog (Instr.typeAssert (.iface 155 (.agg #[])) 150 155 true) w = .ok (.tuple #[.agg #[],.bool true]) w:=by kernel_rfl
theorem asVarData (w:World):Sem.run Tryz.prog (Instr.typeAssert (.iface 156 (.agg #[])) 150 155 true) w = .ok (.tuple #[.agg #[],.bool false]) w:=by kernel_rfl
theorem asVarFix (v:Value) (w:World):Sem.run Tryz.prog (Instr.typeAssert (.iface 153 v) 150 155 true) w = .ok (.tuple #[.agg #[],.bool false]) w:=by kernel_rfl
theorem asVarNo (w:World):Sem.run Tryz.prog (Instr.typeAssert (.iface 163 (.agg #[])) 150 155 true) w = .ok (.tuple #[.agg #[],.bool false]) w:=by kernel_rfl
theorem asDataData (w:World):Sem.run Tryz.prog (Instr.typeAssert (.iface 156 (.agg #[])) 150 156 true) w = .ok (.tuple #[.agg #[],.bool true]) w:=by kernel_rfl
theorem asDataFix (v:Value) (w:World):Sem.run Tryz.prog (Instr.typeAssert (.iface 153 v) 150 156 true) w = .ok (.tuple #[.agg #[],.bool false]) w:=by kernel_rfl
theorem asDataNo (w:World):Sem.run Tryz.prog (Instr.typeAssert (.iface 163 (.agg #[])) 150 156 true) w = .ok (.tuple #[.agg #[],.bool false]) w:=by kernel_rfl
theorem asFixFix (v:Value) (w:World):Sem.run Tryz.prog (Instr.typeAssert (.iface 153 v) 150 153 true) w = .ok (.tuple #[v,.bool true]) w:=by kernel_rfl
theorem asFixVar (w:World):Sem.run Tryz.prog (Instr.typeAssert (.iface 155 (.agg #[])) 150 153 true) w = .ok (.tuple #[.agg #[.string ⟨#[]⟩,.int .i64 0,.bool false],.bool false]) w:=by kernel_rfl
theorem asFixData (w:World):Sem.run Tryz.prog (Instr.typeAssert (.iface 156 (.agg #[])) 150 153 true) w = .ok (.tuple #[.agg #[.string ⟨#[]⟩,.int .i64 0,.bool false],.bool false]) w:=by kernel_rfl
theorem asFixNo (w:World):Sem.run Tryz.prog (Instr.typeAssert (.iface 163 (.agg #[])) 150 153 true) w = .ok (.tuple #[.agg #[.string ⟨#[]⟩,.int .i64 0,.bool false],.bool false]) w:=by kernel_rfl
theorem methVar (w : World) : Sem.run Tryz.prog (method 294 155 (.agg #[]) "loop.example/g00293/impl.fits") w = .ok (160, .agg #[]) w := by kernel_rfl
theorem methData (w : World) : Sem.run Tryz.prog (method 294 156 (.agg #[]) "loop.example/g00293/impl.fits") w = .ok (162, .agg #[]) w := by kernel_rfl
theorem methNo (w : World) : Sem.run Tryz.prog (method 294 163 (.agg #[]) "loop.example/g00293/impl.fits") w = .ok (164, .agg #[]) w := by kernel_rfl
theorem methFix (v : Value) (w : World) : Sem.run Tryz.prog (method 294 153 v "loop.example/g00293/impl.fits") w = .ok (158, v) w := by kernel_rfl
theorem varFits (n:Int) (l:Nat) (w:World) :
  Calls Tryz.prog 160 #[.agg #[],.int .i64 n,.int .i64 l] w fun e u=>e = .returned (.bool (fitsB 7 n l))∧w.grownBy u none:=by
 have E:Hid (fitsB 7 n l=_):=fits7;by_cases h1:0≤n
 ·
  by_cases h2:n≤99999
  ·
   by_cases h3:l=0
   ·
    subst h3
    have h2':n < 100000:=by omega
    go_enter Tryz.func160,Tryz.ntmps160;go_wp2;go_ret;exact ⟨by rw[E.out];simp [h1,h2],gal _ _ _⟩
   ·
    have h3':¬ (l:Int)=0:=by omega
    have h2':n < 100000:=by omega
    go_enter Tryz.func160,Tryz.ntmps160;go_wp2;go_ret;exact ⟨by rw[E.out];simp [h3],gal _ _ _⟩
  ·
   have h2':¬ n < 100000:=by omega
   go_enter Tryz.func160,Tryz.ntmps160;go_wp2;go_ret;exact ⟨by rw[E.out];simp [h2],gal _ _ _⟩
 ·
  go_enter Tryz.func160,Tryz.ntmps160;go_wp2;go_ret;exact ⟨by rw[E.out];simp;omega,gal _ _ _⟩
theorem dataFits (n:Int) (l:Nat) (w:World) :
  Calls Tryz.prog 162 #[.agg #[],.int .i64 n,.int .i64 l] w fun e u=>e = .returned (.bool (fitsB 6 n l))∧w.grownBy u none:=by
 have hl0:(0:Int)≤l:=by omega
 by_cases h1:0≤n
 ·
  by_cases h2:n≤19
  ·
   have h2':n < 20:=by omega
   by_cases h3:l≤3
   ·
    have h3':(l:Int)≤3:=by omega
    have E:Hid (fitsB 6 n l=true):=by show _=_;rw[fits6 h3];simp [h1,h2]
    go_enter Tryz.func162,Tryz.ntmps162;go_wp2;go_ret;exact ⟨by rw[E.out];simp [h3'],gal _ _ _⟩
   ·
    have h3':¬ (l:Int)≤3:=by omega
    have E:Hid (fitsB 6 n l=false):=fits6x h3;go_enter Tryz.func162,Tryz.ntmps162;go_wp2;go_ret;exact ⟨by rw[E.out];first|rfl | (simp;done) | (simp;omega),gal _ _ _⟩
  ·
   have h2':¬ n < 20:=by omega
   have E:Hid (fitsB 6 n l=false):=by
    show _=_
    by_cases h3:l≤3
    ·
     rw[fits6 h3];simp [h2]
    ·
     exact fits6x h3
   go_enter Tryz.func162,Tryz.ntmps162;go_wp2;go_ret;exact ⟨by rw[E.out];rfl,gal _ _ _⟩
 ·
  have E:Hid (fitsB 6 n l=false):=by
   show _=_
   by_cases h3:l≤3
   ·
    rw[fits6 h3];simp;omega
   ·
    exact fits6x h3
  go_enter Tryz.func162,Tryz.ntmps162;go_wp2;go_ret;exact ⟨by rw[E.out];rfl,gal _ _ _⟩
theorem noFits (n:Int) (l:Nat) (w:World) :
  Calls Tryz.prog 164 #[.agg #[],.int .i64 n,.int .i64 l] w fun e u=>e = .returned (.bool (fitsB 8 n l))∧w.grownBy u none:=by
 have E:Hid (fitsB 8 n l=false):=fitsx (by omega) (by omega) (by omega) (by omega) (by omega) (by omega) (by omega) (by omega);go_enter Tryz.func164,Tryz.ntmps164;go_wp2;go_ret;exact ⟨by rw[E.out];rfl,gal _ _ _⟩
theorem fixFits (s:ByteArray) (b:Bool) (z n:Int) (l:Nat) (w:World) :
  Calls Tryz.prog 158 #[.agg #[.string s,.int .i64 z,.bool b],.int .i64 n,.int .i64 l] w fun e u=>e = .returned (.bool (decide (n=0) && decide ((l:Int)=z)))∧w.grownBy u none:=by
 by_cases h1:n=0
 ·
  subst h1;go_enter Tryz.func158,Tryz.ntmps158;go_wp2;go_ret;exact ⟨by simp;rfl,gal _ _ _⟩
 ·
  go_enter Tryz.func158,Tryz.ntmps158;go_wp2;go_ret;exact ⟨by simp [h1],gal _ _ _⟩
end Go.Proofs.YtnmlbeefjjohfaaGreatDoor.By
