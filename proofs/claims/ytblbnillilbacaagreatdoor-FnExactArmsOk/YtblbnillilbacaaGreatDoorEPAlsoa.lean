/-
  No statement is proved here.
-/
import Derived.Test.YtblbnillilbacaaGreatDoorETa
import Derived.Test.YtblbnillilbacaaGreatDoorENAlsoa
import Derived.Test.YtblbnillilbacaaGreatDoorTSizea
import Derived.Deep.AppendSrc
namespace Go.Proofs.YtblbnillilbacaaGreatDoor.By
set_option maxRecDepth 100000
set_option maxHeartbeats 16000000
open Go.RowKit
set_option linter.unusedVariables false
set_option linter.unusedSimpArgs false
def fldsV (V:Int) (ds:List Da):F→Bool
 | .nil=>true
 | .cons k n d r=>(okT k n d && tyD V ds k n d) && fldsV V ds r
def conV (V:Int) (ds:List Da) (c:Co):Bool:=wordV 65 90 c.name && (decide (c.flds.len≤3) && fldsV V ds c.flds)
def headV (x:Da):Bool:=nameV x.name && (decide (0≤x.vars) && (decide (x.vars≤2) && (decide (1≤x.cons.length) && decide (x.cons.length≤5))))
def lastV (ds:List Da) (x:Da):Bool:=headV x && x.cons.all (conV x.vars ds)
theorem lastT (P:List Da) (x:Da) (a:Option Addr) (l c:Nat) (w:World) (h:SlDa w a l (P++[x])) :
  Calls Tryz.prog 64 #[.slice a l c] w fun e u=>e = .returned (.bool (lastV (P++[x]) x))∧w.grownBy u none:=by
 have hl:=h.1;have hlm:=h.2.1;simp only[lA,lB,lC] at hl;rcases h.cases with ⟨h0,-⟩|⟨b,o,rfl,hin,hpos⟩
 ·
  omega
 obtain ⟨x',a1,n1,c1,a2,l2,c2,hx,k0,k1,k2,hd1,hd2⟩:=hin.nth (i:=P.length) (by simp)
 have hxx:x=x':=by simpa using hx
 rw[← hxx] at k1 hd1 hd2;clear hxx hx
 obtain rfl:l=P.length+1:=by omega
 have ewr:IntKind.i64.wrap (((P.length+1:Nat):Int) - 1)=(P.length:Int):=by rw[IntWalk.i64_in _ (by omega)];omega
 have ga:=gal w (.cells #[.slice a1 n1 c1,.int .i64 x.vars,.slice a2 l2 c2] 68) none;have ba:=heap_alloc_new w (.cells #[.slice a1 n1 c1,.int .i64 x.vars,.slice a2 l2 c2] 68);have C0:Hid _:=isNameT a1 n1 c1 x.name _ (hd1.none ga);have hl2:=hd2.1;have hl2m:=hd2.2.1
 have FT:Hid (∀ u,(w.alloc (.cells #[.slice a1 n1 c1,.int .i64 x.vars,.slice a2 l2 c2] 68)).grownBy u none→u.heap[w.heap.size]? = some (Obj.cells #[.slice a1 n1 c1,.int .i64 x.vars,.slice a2 l2 c2] 68)∧SlCo u a2 l2 x.cons∧SlDa u (some ⟨b,o,none⟩) (P.length+1) (P++[x])∧w.grownBy u none):=fun u hu=>⟨(hu.block _ (lt_of_block ba) (by simp)).trans ba,hd2.none (gtr ga hu),h.none (gtr ga hu),gtr ga hu⟩
 obtain ⟨⟨y0,y1,y2⟩,-⟩:=three ba;clear h hin hd1 hd2 ga ba hl hpos;go_enter Tryz.func64,Tryz.ntmps64;go_wp2_with fail;clear k0 k1 k2 y0 y1 y2;generalize w.alloc (.cells #[.slice a1 n1 c1,.int .i64 x.vars,.slice a2 l2 c2] 68)=w1 at *;generalize w.heap.size=p3 at *;refine Calls.mono C0.out ?_;rintro e w2 ⟨he,hg⟩;subst he;have H2:Hid (w1.grownBy w2 none):=hg;have GF:Hid (w.grownBy w2 none):=(FT.out w2 hg).2.2.2;clear C0 hg ewr;simp only[];obtain ⟨⟨y0,y1,y2⟩,-⟩:=three (FT.out w2 H2.out).1
 cases hnm:nameV x.name with
 | false =>
  have EV:Hid (lastV (P++[x]) x=false):=by show _=_;unfold lastV headV;rw[hnm];rfl
  clear hnm;go_wp2;go_ret;exact ⟨by rw[EV.out];rfl,GF.out⟩
 | true =>
  by_cases q1:0≤x.vars∧x.vars≤2∧1≤l2∧l2≤5
  rotate_left
  ·
   have EV:Hid (lastV (P++[x]) x=false):=by
    show _=_
    unfold lastV headV;rw[hnm,hl2]
    have:(decide (0≤x.vars) && (decide (x.vars≤2) && (decide (1≤l2) && decide (l2≤5))))=false:=by
     rw[Bool.eq_false_iff];intro hh;simp only[Bool.and_eq_true,decide_eq_true_eq] at hh;exact q1 hh
    rw[this];rfl
   clear hnm;by_cases e1:x.vars < 0
   ·
    go_wp2;go_ret;exact ⟨by rw[EV.out];rfl,GF.out⟩
   ·
    by_cases e2:x.vars > 2
    ·
     go_wp2;go_ret;exact ⟨by rw[EV.out];rfl,GF.out⟩
    ·
     by_cases e3:(l2:Int) < 1
     ·
      go_wp2;go_ret;exact ⟨by rw[EV.out];rfl,GF.out⟩
     ·
      have e4:(l2:Int) > 5:=by omega
      go_wp2;go_ret;exact ⟨by rw[EV.out];rfl,GF.out⟩
  ·
   obtain ⟨q1,q2,q3,q4⟩:=q1
   have e1:¬ x.vars < 0:=by omega
   have e2:¬ x.vars > 2:=by omega
   have e3:¬ (l2:Int) < 1:=by omega
   have e4:¬ (l2:Int) > 5:=by omega
   have f1:decide (x.vars < 0)=false:=by simpa using e1
   have f2:decide (x.vars > 2)=false:=by simpa using e2
   have f3:decide ((l2:Int) < 1)=false:=by simpa using e3
   have f4:decide ((l2:Int) > 5)=false:=by simpa using e4
   have EV:Hid (lastV (P++[x]) x=x.cons.all (conV x.vars (P++[x]))):=by show _=_;unfold lastV headV;rw[hnm,hl2];simp [q1,q2,q3,q4]
   clear hnm
   obtain ⟨b2,o2,rfl,hin2,-⟩:∃ b2 o2,a2=some ⟨b2,o2,none⟩∧InCo w2 w2 x.cons b2 o2∧0 < l2:=by
    rcases (FT.out w2 H2.out).2.1.cases with ⟨z1,z2⟩|hh
    ·
     omega
    ·
     exact hh
   have IN:Hid (InCo w2 w2 x.cons b2 o2):=hin2;clear hin2 GF;go_wp2;clear y0 y1 y2
   go_loopw [45] (fun i wr=>∃ (j:Nat) (R:List Co),j≤l2∧i = .int .i64 j∧R.length+j=l2∧Hid (w2.grownBy wr none∧InCo w2 w2 R b2 (o2+j * 2)∧x.cons.all (conV x.vars (P++[x]))=R.all (conV x.vars (P++[x])))) (fun i _=>l2 - (intOf i).toNat)
   case atStart=>exact ⟨0,x.cons,Nat.zero_le _,rfl,by omega,grf _ _,by simpa using IN.out,rfl⟩
   case round =>
    obtain ⟨j,R,hj,rfl,hRl,HR⟩:=hrel;by_cases hlt:j < l2
    ·
     obtain ⟨y,R',rfl⟩:∃ y R',R=y::R':=by
      cases R with
      | nil=>simp at hRl;omega
      | cons y R'=>exact ⟨y,R',rfl⟩
     obtain ⟨hg,⟨⟨a4,n4,c4,a5,l5,c5,m0,m1,hd4,hd5⟩,hR2⟩,hv⟩:=HR.out;rw[show o2+j * 2+2=o2+(j+1) * 2 by omega] at hR2;have m0:=hg.cell m0 (by simp);have m1:=hg.cell m1 (by simp);have ga:=gal wr (.cells #[.slice a4 n4 c4,.slice a5 l5 c5] 73) none;have ba:=heap_alloc_new wr (.cells #[.slice a4 n4 c4,.slice a5 l5 c5] 73);have gb:=gtr hg ga;have CG:Hid _:=isGreatT a4 n4 c4 y.name _ (hd4.none gb);have FX:Hid (w2.grownBy (wr.alloc (.cells #[.slice a4 n4 c4,.slice a5 l5 c5] 73)) none∧(wr.alloc (.cells #[.slice a4 n4 c4,.slice a5 l5 c5] 73)).heap[wr.heap.size]? = some (Obj.cells #[.slice a4 n4 c4,.slice a5 l5 c5] 73)∧SlF w2 a5 l5 y.flds∧InCo w2 w2 R' b2 (o2+(j+1) * 2)∧x.cons.all (conV x.vars (P++[x]))=(conV x.vars (P++[x]) y && R'.all (conV x.vars (P++[x])))):=⟨gb,ba,hd5,hR2,by rw[hv];rfl⟩;obtain ⟨⟨z0,z1⟩,-⟩:=two2 ba;have hl5:=hd5.1;have hl5m:=hd5.2.1;clear hg hd4 hd5 hR2 hv ga ba gb HR IN;simp only[lB] at hRl
     go_wp2_with fail;clear m0 m1 z0 z1;generalize wr.alloc (.cells #[.slice a4 n4 c4,.slice a5 l5 c5] 73)=wb at *;generalize wr.heap.size=p6 at *;refine Calls.mono CG.out ?_;rintro e v ⟨he,hg⟩;subst he;have G2:Hid (w2.grownBy v none):=gtr FX.out.1 hg;have B6:Hid (v.heap[p6]? = some (Obj.cells #[.slice a4 n4 c4,.slice a5 l5 c5] 73)):=(hg.block _ (lt_of_block FX.out.2.1) (by simp)).trans FX.out.2.1;have GF:Hid (w.grownBy v none):=(FT.out v (gtr H2.out G2.out)).2.2.2;clear CG hg;simp only[];obtain ⟨⟨z0,z1⟩,-⟩:=two2 B6.out
     cases hw:wordV 65 90 y.name with
     | false =>
      have E2:Hid (lastV (P++[x]) x=false):=by show _=_;rw[EV.out,FX.out.2.2.2.2];unfold conV;rw[hw];rfl
      clear hw;go_wp2;go_ret;exact ⟨by rw[E2.out];rfl,GF.out⟩
     | true =>
      by_cases h3:l5≤3
      rotate_left
      ·
       have E2:Hid (lastV (P++[x]) x=false):=by
        show _=_
        rw[EV.out,FX.out.2.2.2.2];unfold conV;rw[hw,hl5];simp [h3]
       have h3':(l5:Int) > 3:=by omega
       clear hw;go_wp2;go_ret;exact ⟨by rw[E2.out];rfl,GF.out⟩
      ·
       have h3':¬ (l5:Int) > 3:=by omega
       have h3b:decide ((l5:Int) > 3)=false:=by simpa using h3'
       have EC:Hid (x.cons.all (conV x.vars (P++[x]))=(fldsV x.vars (P++[x]) y.flds && R'.all (conV x.vars (P++[x])))):=by
        show _=_
        rw[FX.out.2.2.2.2];unfold conV;rw[hw,hl5];simp [h3]
       clear hw GF;rcases FX.out.2.2.1.cases with ⟨r1,r2⟩|⟨b5,o5,r1,hin5,-,r3⟩
       ·
        have E2:Hid (x.cons.all (conV x.vars (P++[x]))=R'.all (conV x.vars (P++[x]))):=by show _=_;rw[EC.out,r2];rfl
        subst r1;clear r2 hl5;go_wp2;refine wp_loop_rounds 1 ?_;rw[rounds_succ];go_wp2;go_roundw
        case rel=>exact ⟨j+1,R',by omega,by go_num,by omega,G2.out,FX.out.2.2.2.1,E2.out⟩
        case measure=>simp [intOf];omega
       ·
        subst r1;have IN5:Hid (InF v y.flds b5 o5):=hin5.none G2.out;clear hin5;go_wp2;clear z0 z1
        go_loopw [62] (fun i wr=>∃ (q:Nat) (S:F),q≤l5∧i = .int .i64 q∧S.len+q=l5∧Hid (v.grownBy wr none∧InF v S b5 (o5+q * 3)∧fldsV x.vars (P++[x]) y.flds=fldsV x.vars (P++[x]) S)) (fun i _=>l5 - (intOf i).toNat)
        case atStart=>exact ⟨0,y.flds,Nat.zero_le _,rfl,by omega,grf _ _,by simpa using IN5.out,rfl⟩
        case round =>
         obtain ⟨q,S,hq,rfl,hSl,HQ⟩:=hrel;by_cases hltq:q < l5
         ·
          obtain ⟨q5,hq5⟩:∃ q5,S.len=q5+1:=⟨S.len - 1,by omega⟩;obtain ⟨kk,nn,d,S',rfl,hS'⟩:=F.cons_of_len hq5;obtain ⟨hg,hS,hv⟩:=HQ.out;obtain ⟨a',l',c',d0,d1,d2,hd,hS2⟩:=hS.out;rw[show o5+q * 3+3=o5+(q+1) * 3 by omega] at hS2;have d0:=hg.cell d0 (by simp);have d1:=hg.cell d1 (by simp);have d2:=hg.cell d2 (by simp);have ga:=gal wr (.cells #[.int .i64 kk,.int .i64 nn,.slice a' l' c'] 79) none;have ba:=heap_alloc_new wr (.cells #[.int .i64 kk,.int .i64 nn,.slice a' l' c'] 79);have gb:=gtr hg ga;have CT:Hid _:=implTyOkT d kk nn a' l' c' _ (hd.none gb);have FY:Hid (v.grownBy (wr.alloc (.cells #[.int .i64 kk,.int .i64 nn,.slice a' l' c'] 79)) none∧(wr.alloc (.cells #[.int .i64 kk,.int .i64 nn,.slice a' l' c'] 79)).heap[wr.heap.size]? = some (Obj.cells #[.int .i64 kk,.int .i64 nn,.slice a' l' c'] 79)∧SlF v a' l' d∧InF v S' b5 (o5+(q+1) * 3)∧fldsV x.vars (P++[x]) y.flds=((okT kk nn d && tyD x.vars (P++[x]) kk nn d) && fldsV x.vars (P++[x]) S')):=⟨gb,ba,hd,hS2,by rw[hv];rfl⟩
          obtain ⟨⟨z0,z1,z2⟩,-⟩:=three ba;clear hg hS hv hd hS2 ga ba gb HQ IN5;go_wp2_with fail;clear d0 d1 d2 z0 z1 z2;generalize wr.alloc (.cells #[.int .i64 kk,.int .i64 nn,.slice a' l' c'] 79)=wf at *;generalize wr.heap.size=p8 at *;refine Calls.mono CT.out ?_;rintro e u ⟨he,hg⟩;subst he;have G3:Hid (v.grownBy u none):=gtr FY.out.1 hg;have B8:Hid (u.heap[p8]? = some (Obj.cells #[.int .i64 kk,.int .i64 nn,.slice a' l' c'] 79)):=(hg.block _ (lt_of_block FY.out.2.1) (by simp)).trans FY.out.2.1;have GF:Hid (w.grownBy u none):=(FT.out u (gtr H2.out (gtr G2.out G3.out))).2.2.2;clear CT hg;simp only[];obtain ⟨⟨z0,z1,z2⟩,-⟩:=three B8.out
          cases hok:okT kk nn d with
          | false =>
           have E2:Hid (lastV (P++[x]) x=false):=by show _=_;rw[EV.out,EC.out,FY.out.2.2.2.2,hok];rfl
           clear hok;go_wp2;go_ret;exact ⟨by rw[E2.out];rfl,GF.out⟩
          | true =>
           have ho:=hok;simp only[okT,Bool.and_eq_true,decide_eq_true_eq] at ho;have fu:=FT.out u (gtr H2.out (gtr G2.out G3.out));have hvl:=FY.out.2.2.1.1;have CS:Hid _:=standsT x.vars (P++[x]) p3 (d.size+1) d kk nn a' l' c' 9 (some ⟨b,o,none⟩) (P.length+1) c u (Nat.lt_succ_self _) (by omega) (FY.out.2.2.1.none G3.out) (by rw[← hvl];exact ho.1.1) ho.1.2 fu.2.2.1 (three fu.1).1.2.1
           have E3:Hid (fldsV x.vars (P++[x]) y.flds=(tyD x.vars (P++[x]) kk nn d && fldsV x.vars (P++[x]) S')):=by show _=_;rw[FY.out.2.2.2.2,hok];rfl
           clear ho fu hok GF hvl;go_wp2_with fail;refine Calls.mono CS.out ?_;rintro e u2 ⟨he,hg⟩;subst he;have G4:Hid (v.grownBy u2 none):=gtr G3.out hg;have GF:Hid (w.grownBy u2 none):=gtr (FT.out u (gtr H2.out (gtr G2.out G3.out))).2.2.2 hg;clear CS hg z0 z1 z2;simp only[]
           cases hty:tyD x.vars (P++[x]) kk nn d with
           | false =>
            have E2:Hid (lastV (P++[x]) x=false):=by show _=_;rw[EV.out,EC.out,E3.out,hty];rfl
            clear hty;go_wp2;go_ret;exact ⟨by rw[E2.out];rfl,GF.out⟩
           | true =>
            have E2:Hid (fldsV x.vars (P++[x]) y.flds=fldsV x.vars (P++[x]) S'):=by show _=_;rw[E3.out,hty];rfl
            clear hty GF;go_wp2;go_roundw
            case rel=>exact ⟨q+1,S',by omega,by go_num,by omega,G4.out,FY.out.2.2.2.1,E2.out⟩
            case measure=>simp [intOf];omega
         ·
          obtain rfl:q=l5:=by omega
          obtain rfl:S = .nil:=F.nil_of_len (by omega);have E2:Hid (x.cons.all (conV x.vars (P++[x]))=R'.all (conV x.vars (P++[x]))∧w2.grownBy wr none):=⟨by rw[EC.out,HQ.out.2.2];rfl,gtr G2.out HQ.out.1⟩;clear HQ IN5;go_wp2;go_roundw
          case rel=>exact ⟨j+1,R',by omega,by go_num,by omega,E2.out.2,FX.out.2.2.2.1,E2.out.1⟩
          case measure=>simp [intOf];omega
    ·
     obtain rfl:j=l2:=by omega
     obtain rfl:R=[]:=List.eq_nil_of_length_eq_zero (by omega)
     have E2:Hid (lastV (P++[x]) x=true):=by show _=_;rw[EV.out,HR.out.2.2];rfl
     have GF:Hid (w.grownBy wr none):=(FT.out wr (gtr H2.out HR.out.1)).2.2.2;clear HR IN;go_wp2;go_ret;exact ⟨by rw[E2.out];rfl,GF.out⟩
def OwV (w:World) (t:TypeId) (lo:Nat) (a:Option Addr) (l c:Nat) (vs:List Value):Prop :=
 vs.length=l∧l≤c∧((c=0∧a=none)∨∃ g cur,lo≤g∧a=some ⟨g,0,none⟩∧w.heap[g]? = some (.cells cur t (0,0))∧cur.size=c∧cur.toList.take l=vs)
theorem OwV.none {w u:World} {t:TypeId} {lo:Nat} {a:Option Addr} {l c:Nat} {vs:List Value} (h:OwV w t lo a l c vs) (hg:w.grownBy u Option.none):OwV u t lo a l c vs:=by
 obtain ⟨h1,h2,h3⟩:=h;refine ⟨h1,h2,?_⟩;rcases h3 with h3|⟨g,cur,h4,h5,h6,h7⟩
 ·
  exact .inl h3
 ·
  exact .inr ⟨g,cur,h4,h5,(hg.block g (lt_of_block h6) (by simp)).trans h6,h7⟩
theorem run_pushV {P:Program} {w:World} (t ty e:TypeId) (i:TypeInfo) (z:Value) (ht:P.underlying t=some (.slice e)) (hi:P.info? e=some i) (hz:i.zero=some z) (hsize:i.size=1) (hby:i.bytes=24) (hzs:z.cells.size=1)
  (lo:Nat) (a:Option Addr) (l c:Nat) (vs:List Value) (h:OwV w e lo a l c vs) (hlo:lo≤w.heap.size) (hl:l≤2000000) (ad:Addr) (v:Value) (hv1:v.oneCell' = true) (hnews:∀ j u,[v][j]? = some u→w.cell? (ad.add j)=some u) :
  ∃ a2 c2 w',(Builtin.append_ #[t,t] ty #[.slice a l c,.slice (some ad) 1 1]).run P w = .ok (.slice a2 (l+1) c2) w'∧OwV w' e lo a2 (l+1) c2 (vs++[v])∧(∀ wb:World,wb.grownBy w none→wb.heap.size≤lo→wb.grownBy w' none):=by
 obtain ⟨hvl,hlc,hx⟩:=h;have src:Src P i.size t (.slice (some ad) 1 1) 1 [v] w:=Src.ofSlice w ht ad 1 1 _ (by simp [hsize]) hnews (fun x hx=>by simp at hx;rw[hx];exact hv1)
 have hgrow:∀ (hold:(Builtin.firstCells i.size l (.slice a l c)).run P w.drew = .ok vs.toArray w.drew) (hd':c < l+1),
   ∃ a2 c2 w',(Builtin.append_ #[t,t] ty #[.slice a l c,.slice (some ad) 1 1]).run P w = .ok (.slice a2 (l+1) c2) w'∧OwV w' e lo a2 (l+1) c2 (vs++[v])∧(∀ wb:World,wb.grownBy w none→wb.heap.size≤lo→wb.grownBy w' none):=by
  intro hold hd';have r:=run_append_grow_src (P:=P) w t t ty e i z ht hi hz a l c vs hold (.slice (some ad) 1 1) 1 _ src hd' (by omega) (growslice_fits hd' (by rw[hby];omega));have hge:=grownCap_ge w (l+1) c e;have hnew:=heap_alloc_new w.drew (.cells ((vs++[v]).toArray++Builtin.zeroCells z.cells (grownCap w (l+1) c e - (l+1))) e);have hnew:(w.drew.alloc (.cells ((vs++[v]).toArray++Builtin.zeroCells z.cells (grownCap w (l+1) c e - (l+1))) e)).heap[w.heap.size]? = _:=hnew;refine ⟨_,_,_,r,⟨by simp [hvl],hge,.inr ⟨_,_,hlo,rfl,hnew,?_,?_⟩⟩,fun wb hb _=>gtr (grown_drew hb) (gal _ _ _)⟩
  ·
   simp only[Array.size_append,List.size_toArray,size_zeroCells,hzs,lA,hvl,lB,lC];omega
  ·
   rw[Array.toList_append,List.take_append_of_le_length (by simp [hvl]),List.take_of_length_le (by simp [hvl])]
 rcases hx with ⟨hc0,ha⟩|⟨g,cur,hg0,rfl,hg,hsz,htk⟩
 ·
  subst ha
  obtain rfl:l=0:=by omega
  obtain rfl:=List.eq_nil_of_length_eq_zero hvl;subst hc0;exact hgrow (run_firstCells_none w.drew i.size 0 0 0) (by omega)
 ·
  by_cases hroom:l+1≤c
  ·
   have hB:∀ j,j < c→∃ x,w.cell? ⟨g,j,none⟩=some x:=fun j hj=>by
    rw[cell_of_row w g j cur e (0,0) hg];exact ⟨cur[j]'(by omega),by simp [hsz,hj]⟩
   have r:=run_append_room_src (P:=P) w t t ty e i ht hi g 0 l c (.slice (some ad) 1 1) 1 _ src hroom (by rw[hsize];intro j hj;simp at hj;obtain ⟨x,hx⟩:=hB l (by omega);rw[show 0+l * 1+j=l by omega,hx];rfl) (by rw[hsize];intro j hj;exact frozen_of_row w g _ _ e hg);rw[hsize,Nat.zero_add,Nat.mul_one] at r;have r':(Builtin.append_ #[t,t] ty #[.slice (some ⟨g,0,none⟩) l c,.slice (some ad) 1 1]).run P w = .ok (.slice (some ⟨g,0,none⟩) (l+1) c) (w.setCell ⟨g,l,none⟩ v):=r;have hs:=heap_setCell_same w g l cur e v hg;refine ⟨_,_,_,r',⟨by simp [hvl],hroom,.inr ⟨g,_,hg0,rfl,hs,by simpa using hsz,?_⟩⟩,fun wb hb hbl=>grown_into hb (gsc _ _ _ _) (by omega)⟩;apply List.ext_getElem?;intro j;rw[Array.toList_setIfInBounds];by_cases hj:j < l
   ·
    rw[List.getElem?_take_of_lt (by omega),List.getElem?_set_ne (by omega),List.getElem?_append_left (by omega),← htk,List.getElem?_take_of_lt hj]
   ·
    by_cases hj2:j=l
    ·
     subst hj2;rw[List.getElem?_take_of_lt (by omega),List.getElem?_set_self (by simpa using (by omega:j < cur.size)),List.getElem?_append_right (by omega),hvl];simp
    ·
     rw[List.getElem?_eq_none (by simp;omega),List.getElem?_eq_none (by simp [hvl];omega)]
  ·
   refine hgrow ?_ (by omega)
   have hlen:(cur.toList.take l).length=l:=by simp;omega
   have:=run_firstCells_some (P:=P) w.drew i.size l ⟨g,0,none⟩ l c (cur.toList.take l) (by simp [hsize];omega) (fun j u hu=>?_)
   ·
    rw[htk] at this;exact this
   ·
    have hj:j < l:=by have:=(List.getElem?_eq_some_iff.1 hu).1;simp at this;omega
    rw[Go.WideShapes.add_plain,Nat.zero_add];have hc:w.drew.cell? ⟨g,j,none⟩=cur[j]?:=cell_of_row w.drew g j cur e (0,0) hg;rw[hc];rw[List.getElem?_take_of_lt hj,Array.getElem?_toList] at hu;exact hu
theorem wpList_pushV {P:Program} {w:World} {ops:Array Oper} {rest:List Oper} {o:Oper} {ac:Act} {Q:Exit→Act→World→Prop}
  (hg:o.guard=none) (s x:Operand) (t:TypeId) (ho:o.op = .call { callee:=.builtin .append,args:=#[s,x],argTypes:=#[t,t] })
  (e:TypeId) (i:TypeInfo) (z:Value) (ht:P.underlying t=some (.slice e)) (hi:P.info? e=some i) (hz:i.zero=some z) (hsize:i.size=1) (hby:i.bytes=24) (hzs:z.cells.size=1)
  (lo:Nat) (a:Option Addr) (l c:Nat) (vs:List Value) (hs:ac.eval s = .slice a l c) (h:OwV w e lo a l c vs) (hlo:lo≤w.heap.size) (hl:l≤2000000) (ad:Addr) (hx:ac.eval x = .slice (some ad) 1 1) (v:Value) (hv1:v.oneCell' = true) (hnews:∀ j u,[v][j]? = some u→w.cell? (ad.add j)=some u)
  (H:∀ a2 c2 w',OwV w' e lo a2 (l+1) c2 (vs++[v])→(∀ wb:World,wb.grownBy w none→wb.heap.size≤lo→wb.grownBy w' none)→wpList P ops Q rest (ac.put o.dst (.slice a2 (l+1) c2)) w') :
  wpList P ops Q (o::rest) ac w:=by
 refine wpList_plain hg fun K hK=>?_
 obtain ⟨a2,c2,w',hrun,h1,h2⟩:=run_pushV (P:=P) (w:=w) t o.type e i z ht hi hz hsize hby hzs lo a l c vs h hlo hl ad v hv1 hnews;unfold Oper.wp execOp;simp only[ho,resolve,invoke,builtin,Sem.run_bind,Sem.run_pure,Result.andThen_ok,List.map_toArray,List.map_cons,List.map_nil,hs,hx,hrun];exact hK _ _ (H a2 c2 w' h1 h2)
theorem infoBy:(Tryz.prog.info? 23).map (fun i=>(i.zero,i.size,i.bytes))=some (some (.slice none 0 0),1,24):=by kernel_rfl
def RdVs (w:World):List Value→List (List Int)→Prop
 | [],[]=>True
 | v::r,x::s=>(∃ a n c,v = .slice a n c∧RdB w a n x)∧RdVs w r s
 | _,_=>False
theorem RdVs.app {w:World}:∀ {vs:List Value} {xs:List (List Int)} {v:Value} {x:List Int},RdVs w vs xs→(∃ a n c,v = .slice a n c∧RdB w a n x)→RdVs w (vs++[v]) (xs++[x])
 | [],[],v,x,_,k=>⟨k,trivial⟩
 | _::_,_::_,v,x,h,k=>⟨h.1,RdVs.app h.2 k⟩
 | [],_::_,_,_,h,_=>h.elim
 | _::_,[],_,_,h,_=>h.elim
theorem RdVs.len {w:World}:∀ {vs:List Value} {xs:List (List Int)},RdVs w vs xs→vs.length=xs.length
 | [],[],_=>rfl
 | _::_,_::_,h=>by simp [RdVs.len h.2]
 | [],_::_,h=>h.elim
 | _::_,[],h=>h.elim
theorem inSS_of {w wp:World} {b:Nat}:∀ {vs:List Value} {xs:List (List Int)} {off:Nat},RdVs wp vs xs→(∀ j v,vs[j]? = some v→w.cell? ⟨b,off+j,none⟩=some v)→InSS w wp xs b off
 | [],[],_,_,_=>trivial
 | v::r,x::s,off,h,k=>by
  obtain ⟨⟨a,n,c,rfl,hd⟩,hr⟩:=h;refine ⟨⟨a,n,c,by simpa using k 0 _ rfl,hd⟩,inSS_of hr (fun j v hv=>?_)⟩;have:=k (j+1) v (by simpa using hv);rw[show off+1+j=off+(j+1) by omega];exact this
 | [],_::_,_,h,_=>h.elim
 | _::_,[],_,h,_=>h.elim
theorem OwV.read {w:World} {t:TypeId} {lo:Nat} {a:Option Addr} {l c:Nat} {vs:List Value} {xs:List (List Int)} (h:OwV w t lo a l c vs) (k:RdVs w vs xs) (hl:l≤2000000):SlSS w a l xs:=by
 obtain ⟨h1,h2,h3⟩:=h;refine ⟨by rw[← k.len,h1],by omega,?_⟩;rcases h3 with ⟨h3,-⟩|⟨g,cur,-,e,hg,hsz,htk⟩
 ·
  exact .inl (by omega)
 ·
  refine .inr ⟨g,0,e,inSS_of k (fun j v hv=>?_)⟩;rw[Nat.zero_add,cell_of_row w g j cur t (0,0) hg];rw[← htk] at hv
  have hj:j < l:=by have:=(List.getElem?_eq_some_iff.1 hv).1;simp at this;omega
  rw[List.getElem?_take_of_lt hj,Array.getElem?_toList] at hv;exact hv
theorem RdVs.le {w u:World} (k:CLe w u):∀ {vs:List Value} {xs:List (List Int)},RdVs w vs xs→RdVs u vs xs
 | [],[],_=>trivial
 | v::r,x::s,h=>by
  obtain ⟨⟨a,n,c,e,hd⟩,hr⟩:=h;exact ⟨⟨a,n,c,e,hd.le k⟩,RdVs.le k hr⟩
 | [],_::_,h=>h.elim
 | _::_,[],h=>h.elim
end Go.Proofs.YtblbnillilbacaaGreatDoor.By
