/-
 Several texts in one (EL, EP, EQ, EM). No statement is proved here.
-/
import Derived.Test.YtblbnillilbacaaGreatDoorET
import Derived.Test.YtblbnillilbacaaGreatDoorENAlso
import Derived.Test.YtblbnillilbacaaGreatDoorTSize
import Derived.Test.YtblbnillilbacaaGreatDoorEH
import Derived.Deep.AppendSrc
namespace Go.Proofs.YtblbnillilbacaaGreatDoor.By
open Go.RowKit
set_option linter.unusedVariables false
set_option linter.unusedSimpArgs false
/-- All fields are types over the data. -/
def fldsV (V:Int) (ds:List Da):F→Bool
 | .nil=>true
 | .cons k n d r=>(okT k n d && tyD V ds k n d) && fldsV V ds r
def conV (V:Int) (ds:List Da) (c:Co):Bool:=wordV 65 90 c.name && (decide (c.flds.len≤3) && fldsV V ds c.flds)
def headV (x:Da):Bool:=nameV x.name && (decide (0≤x.vars) && (decide (x.vars≤2) && (decide (1≤x.cons.length) && decide (x.cons.length≤5))))
def lastV (ds:List Da) (x:Da):Bool:=headV x && x.cons.all (conV x.vars ds)
set_option maxRecDepth 8000 in
set_option maxHeartbeats 8000000 in
theorem lastT (P:List Da) (x:Da) (a:Option Addr) (l c:Nat) (w:World) (h:SlDa w a l (P++[x])) :
  Calls Tryz.prog 64 #[.slice a l c] w fun e u=>e = .returned (.bool (lastV (P++[x]) x))∧w.grownBy u none:=by
 have hl:=h.1
 have hlm:=h.2.1
 simp only[List.length_append,List.length_cons,List.length_nil] at hl
 rcases h.cases with ⟨h0,-⟩|⟨b,o,rfl,hin,hpos⟩
 ·
  omega
 obtain ⟨x',a1,n1,c1,a2,l2,c2,hx,k0,k1,k2,hd1,hd2⟩:=hin.nth (i:=P.length) (by simp)
 have hxx:x=x':=by simpa using hx
 rw[← hxx] at k1 hd1 hd2
 clear hxx hx
 obtain rfl:l=P.length+1:=by omega
 have ewr:IntKind.i64.wrap (((P.length+1:Nat):Int) - 1)=(P.length:Int):=by rw[IntWalk.i64_in _ (by omega)];omega
 have ga:=World.grownBy_alloc w (.cells #[.slice a1 n1 c1,.int .i64 x.vars,.slice a2 l2 c2] 68) none
 have ba:=heap_alloc_new w (.cells #[.slice a1 n1 c1,.int .i64 x.vars,.slice a2 l2 c2] 68)
 have C0:Hid _:=isNameT a1 n1 c1 x.name _ (hd1.none ga)
 have hl2:=hd2.1
 have hl2m:=hd2.2.1
 have FT:Hid (∀ u,(w.alloc (.cells #[.slice a1 n1 c1,.int .i64 x.vars,.slice a2 l2 c2] 68)).grownBy u none→u.heap[w.heap.size]? = some (Obj.cells #[.slice a1 n1 c1,.int .i64 x.vars,.slice a2 l2 c2] 68)∧SlCo u a2 l2 x.cons∧SlDa u (some ⟨b,o,none⟩) (P.length+1) (P++[x])∧w.grownBy u none):=fun u hu=>⟨(hu.block _ (lt_of_block ba) (by simp)).trans ba,hd2.none (grown_trans ga hu),h.none (grown_trans ga hu),grown_trans ga hu⟩
 obtain ⟨⟨y0,y1,y2⟩,-⟩:=three ba
 clear h hin hd1 hd2 ga ba hl hpos
 go_enter Tryz.func64,Tryz.ntmps64
 go_wp2_with fail
 clear k0 k1 k2 y0 y1 y2
 generalize w.alloc (.cells #[.slice a1 n1 c1,.int .i64 x.vars,.slice a2 l2 c2] 68)=w1 at *
 generalize w.heap.size=p3 at *
 refine Calls.mono C0.out ?_
 rintro e w2 ⟨he,hg⟩
 subst he
 have H2:Hid (w1.grownBy w2 none):=hg
 have GF:Hid (w.grownBy w2 none):=(FT.out w2 hg).2.2.2
 clear C0 hg ewr
 simp only[]
 obtain ⟨⟨y0,y1,y2⟩,-⟩:=three (FT.out w2 H2.out).1
 cases hnm:nameV x.name with
 | false =>
  have EV:Hid (lastV (P++[x]) x=false):=by show _=_;unfold lastV headV;rw[hnm];rfl
  clear hnm
  go_wp2
  go_ret
  exact ⟨by rw[EV.out];rfl,GF.out⟩
 | true =>
  by_cases q1:0≤x.vars∧x.vars≤2∧1≤l2∧l2≤5
  rotate_left
  ·
   have EV:Hid (lastV (P++[x]) x=false):=by
    show _=_
    unfold lastV headV
    rw[hnm,hl2]
    have:(decide (0≤x.vars) && (decide (x.vars≤2) && (decide (1≤l2) && decide (l2≤5))))=false:=by
     rw[Bool.eq_false_iff]
     intro hh
     simp only[Bool.and_eq_true,decide_eq_true_eq] at hh
     exact q1 hh
    rw[this];rfl
   clear hnm
   by_cases e1:x.vars < 0
   ·
    go_wp2
    go_ret
    exact ⟨by rw[EV.out];rfl,GF.out⟩
   ·
    by_cases e2:x.vars > 2
    ·
     go_wp2
     go_ret
     exact ⟨by rw[EV.out];rfl,GF.out⟩
    ·
     by_cases e3:(l2:Int) < 1
     ·
      go_wp2
      go_ret
      exact ⟨by rw[EV.out];rfl,GF.out⟩
     ·
      have e4:(l2:Int) > 5:=by omega
      go_wp2
      go_ret
      exact ⟨by rw[EV.out];rfl,GF.out⟩
  ·
   obtain ⟨q1,q2,q3,q4⟩:=q1
   have e1:¬ x.vars < 0:=by omega
   have e2:¬ x.vars > 2:=by omega
   have e3:¬ (l2:Int) < 1:=by omega
   have e4:¬ (l2:Int) > 5:=by omega
   have f1:decide (x.vars < 0)=false:=by simpa using e1
   have f2:decide (x.vars > 2)=false:=by simpa using e2
   have f3:decide ((l2:Int) < 1)=false:=by simpa using e3
   have f4:decide ((l2:Int) > 5)=false:=by simpa using e4
   have EV:Hid (lastV (P++[x]) x=x.cons.all (conV x.vars (P++[x]))):=by show _=_;unfold lastV headV;rw[hnm,hl2];simp [q1,q2,q3,q4]
   clear hnm
   obtain ⟨b2,o2,rfl,hin2,-⟩:∃ b2 o2,a2=some ⟨b2,o2,none⟩∧InCo w2 w2 x.cons b2 o2∧0 < l2:=by
    rcases (FT.out w2 H2.out).2.1.cases with ⟨z1,z2⟩|hh
    ·
     omega
    ·
     exact hh
   have IN:Hid (InCo w2 w2 x.cons b2 o2):=hin2
   clear hin2 GF
   go_wp2
   clear y0 y1 y2
   go_loopw [45] (fun i wr=>∃ (j:Nat) (R:List Co),j≤l2∧i = .int .i64 j∧R.length+j=l2∧Hid (w2.grownBy wr none∧InCo w2 w2 R b2 (o2+j * 2)∧x.cons.all (conV x.vars (P++[x]))=R.all (conV x.vars (P++[x])))) (fun i _=>l2 - (intOf i).toNat)
   case atStart=>exact ⟨0,x.cons,Nat.zero_le _,rfl,by omega,World.grownBy.refl _ _,by simpa using IN.out,rfl⟩
   case round =>
    obtain ⟨j,R,hj,rfl,hRl,HR⟩:=hrel
    by_cases hlt:j < l2
    ·
     obtain ⟨y,R',rfl⟩:∃ y R',R=y::R':=by
      cases R with
      | nil=>simp at hRl;omega
      | cons y R'=>exact ⟨y,R',rfl⟩
     obtain ⟨hg,⟨⟨a4,n4,c4,a5,l5,c5,m0,m1,hd4,hd5⟩,hR2⟩,hv⟩:=HR.out
     rw[show o2+j * 2+2=o2+(j+1) * 2 by omega] at hR2
     have m0:=hg.cell m0 (by simp)
     have m1:=hg.cell m1 (by simp)
     have ga:=World.grownBy_alloc wr (.cells #[.slice a4 n4 c4,.slice a5 l5 c5] 73) none
     have ba:=heap_alloc_new wr (.cells #[.slice a4 n4 c4,.slice a5 l5 c5] 73)
     have gb:=grown_trans hg ga
     have CG:Hid _:=isGreatT a4 n4 c4 y.name _ (hd4.none gb)
     have FX:Hid (w2.grownBy (wr.alloc (.cells #[.slice a4 n4 c4,.slice a5 l5 c5] 73)) none∧(wr.alloc (.cells #[.slice a4 n4 c4,.slice a5 l5 c5] 73)).heap[wr.heap.size]? = some (Obj.cells #[.slice a4 n4 c4,.slice a5 l5 c5] 73)∧SlF w2 a5 l5 y.flds∧InCo w2 w2 R' b2 (o2+(j+1) * 2)∧x.cons.all (conV x.vars (P++[x]))=(conV x.vars (P++[x]) y && R'.all (conV x.vars (P++[x])))):=⟨gb,ba,hd5,hR2,by rw[hv];rfl⟩
     obtain ⟨⟨z0,z1⟩,-⟩:=two2 ba
     have hl5:=hd5.1
     have hl5m:=hd5.2.1
     clear hg hd4 hd5 hR2 hv ga ba gb HR IN
     simp only[List.length_cons] at hRl
     go_wp2_with fail
     clear m0 m1 z0 z1
     generalize wr.alloc (.cells #[.slice a4 n4 c4,.slice a5 l5 c5] 73)=wb at *
     generalize wr.heap.size=p6 at *
     refine Calls.mono CG.out ?_
     rintro e v ⟨he,hg⟩
     subst he
     have G2:Hid (w2.grownBy v none):=grown_trans FX.out.1 hg
     have B6:Hid (v.heap[p6]? = some (Obj.cells #[.slice a4 n4 c4,.slice a5 l5 c5] 73)):=(hg.block _ (lt_of_block FX.out.2.1) (by simp)).trans FX.out.2.1
     have GF:Hid (w.grownBy v none):=(FT.out v (grown_trans H2.out G2.out)).2.2.2
     clear CG hg
     simp only[]
     obtain ⟨⟨z0,z1⟩,-⟩:=two2 B6.out
     cases hw:wordV 65 90 y.name with
     | false =>
      have E2:Hid (lastV (P++[x]) x=false):=by show _=_;rw[EV.out,FX.out.2.2.2.2];unfold conV;rw[hw];rfl
      clear hw
      go_wp2
      go_ret
      exact ⟨by rw[E2.out];rfl,GF.out⟩
     | true =>
      by_cases h3:l5≤3
      rotate_left
      ·
       have E2:Hid (lastV (P++[x]) x=false):=by
        show _=_
        rw[EV.out,FX.out.2.2.2.2]
        unfold conV
        rw[hw,hl5]
        simp [h3]
       have h3':(l5:Int) > 3:=by omega
       clear hw
       go_wp2
       go_ret
       exact ⟨by rw[E2.out];rfl,GF.out⟩
      ·
       have h3':¬ (l5:Int) > 3:=by omega
       have h3b:decide ((l5:Int) > 3)=false:=by simpa using h3'
       have EC:Hid (x.cons.all (conV x.vars (P++[x]))=(fldsV x.vars (P++[x]) y.flds && R'.all (conV x.vars (P++[x])))):=by
        show _=_
        rw[FX.out.2.2.2.2]
        unfold conV
        rw[hw,hl5]
        simp [h3]
       clear hw GF
       rcases FX.out.2.2.1.cases with ⟨r1,r2⟩|⟨b5,o5,r1,hin5,-,r3⟩
       ·
        have E2:Hid (x.cons.all (conV x.vars (P++[x]))=R'.all (conV x.vars (P++[x]))):=by show _=_;rw[EC.out,r2];rfl
        subst r1
        clear r2 hl5
        go_wp2
        refine wp_loop_rounds 1 ?_
        rw[rounds_succ]
        go_wp2
        go_roundw
        case rel=>exact ⟨j+1,R',by omega,by go_num,by omega,G2.out,FX.out.2.2.2.1,E2.out⟩
        case measure=>simp [intOf];omega
       ·
        subst r1
        have IN5:Hid (InF v y.flds b5 o5):=hin5.none G2.out
        clear hin5
        go_wp2
        clear z0 z1
        go_loopw [62] (fun i wr=>∃ (q:Nat) (S:F),q≤l5∧i = .int .i64 q∧S.len+q=l5∧Hid (v.grownBy wr none∧InF v S b5 (o5+q * 3)∧fldsV x.vars (P++[x]) y.flds=fldsV x.vars (P++[x]) S)) (fun i _=>l5 - (intOf i).toNat)
        case atStart=>exact ⟨0,y.flds,Nat.zero_le _,rfl,by omega,World.grownBy.refl _ _,by simpa using IN5.out,rfl⟩
        case round =>
         obtain ⟨q,S,hq,rfl,hSl,HQ⟩:=hrel
         by_cases hltq:q < l5
         ·
          obtain ⟨q5,hq5⟩:∃ q5,S.len=q5+1:=⟨S.len - 1,by omega⟩
          obtain ⟨kk,nn,d,S',rfl,hS'⟩:=F.cons_of_len hq5
          obtain ⟨hg,hS,hv⟩:=HQ.out
          obtain ⟨a',l',c',d0,d1,d2,hd,hS2⟩:=hS.out
          rw[show o5+q * 3+3=o5+(q+1) * 3 by omega] at hS2
          have d0:=hg.cell d0 (by simp)
          have d1:=hg.cell d1 (by simp)
          have d2:=hg.cell d2 (by simp)
          have ga:=World.grownBy_alloc wr (.cells #[.int .i64 kk,.int .i64 nn,.slice a' l' c'] 79) none
          have ba:=heap_alloc_new wr (.cells #[.int .i64 kk,.int .i64 nn,.slice a' l' c'] 79)
          have gb:=grown_trans hg ga
          have CT:Hid _:=implTyOkT d kk nn a' l' c' _ (hd.none gb)
          have FY:Hid (v.grownBy (wr.alloc (.cells #[.int .i64 kk,.int .i64 nn,.slice a' l' c'] 79)) none∧(wr.alloc (.cells #[.int .i64 kk,.int .i64 nn,.slice a' l' c'] 79)).heap[wr.heap.size]? = some (Obj.cells #[.int .i64 kk,.int .i64 nn,.slice a' l' c'] 79)∧SlF v a' l' d∧InF v S' b5 (o5+(q+1) * 3)∧fldsV x.vars (P++[x]) y.flds=((okT kk nn d && tyD x.vars (P++[x]) kk nn d) && fldsV x.vars (P++[x]) S')):=⟨gb,ba,hd,hS2,by rw[hv];rfl⟩
          obtain ⟨⟨z0,z1,z2⟩,-⟩:=three ba
          clear hg hS hv hd hS2 ga ba gb HQ IN5
          go_wp2_with fail
          clear d0 d1 d2 z0 z1 z2
          generalize wr.alloc (.cells #[.int .i64 kk,.int .i64 nn,.slice a' l' c'] 79)=wf at *
          generalize wr.heap.size=p8 at *
          refine Calls.mono CT.out ?_
          rintro e u ⟨he,hg⟩
          subst he
          have G3:Hid (v.grownBy u none):=grown_trans FY.out.1 hg
          have B8:Hid (u.heap[p8]? = some (Obj.cells #[.int .i64 kk,.int .i64 nn,.slice a' l' c'] 79)):=(hg.block _ (lt_of_block FY.out.2.1) (by simp)).trans FY.out.2.1
          have GF:Hid (w.grownBy u none):=(FT.out u (grown_trans H2.out (grown_trans G2.out G3.out))).2.2.2
          clear CT hg
          simp only[]
          obtain ⟨⟨z0,z1,z2⟩,-⟩:=three B8.out
          cases hok:okT kk nn d with
          | false =>
           have E2:Hid (lastV (P++[x]) x=false):=by show _=_;rw[EV.out,EC.out,FY.out.2.2.2.2,hok];rfl
           clear hok
           go_wp2
           go_ret
           exact ⟨by rw[E2.out];rfl,GF.out⟩
          | true =>
           have ho:=hok
           simp only[okT,Bool.and_eq_true,decide_eq_true_eq] at ho
           have fu:=FT.out u (grown_trans H2.out (grown_trans G2.out G3.out))
           have hvl:=FY.out.2.2.1.1
           have CS:Hid _:=standsT x.vars (P++[x]) p3 (d.size+1) d kk nn a' l' c' 9 (some ⟨b,o,none⟩) (P.length+1) c u (Nat.lt_succ_self _) (by omega) (FY.out.2.2.1.none G3.out) (by rw[← hvl];exact ho.1.1) ho.1.2 fu.2.2.1 (three fu.1).1.2.1
           have E3:Hid (fldsV x.vars (P++[x]) y.flds=(tyD x.vars (P++[x]) kk nn d && fldsV x.vars (P++[x]) S')):=by show _=_;rw[FY.out.2.2.2.2,hok];rfl
           clear ho fu hok GF hvl
           go_wp2_with fail
           refine Calls.mono CS.out ?_
           rintro e u2 ⟨he,hg⟩
           subst he
           have G4:Hid (v.grownBy u2 none):=grown_trans G3.out hg
           have GF:Hid (w.grownBy u2 none):=grown_trans (FT.out u (grown_trans H2.out (grown_trans G2.out G3.out))).2.2.2 hg
           clear CS hg z0 z1 z2
           simp only[]
           cases hty:tyD x.vars (P++[x]) kk nn d with
           | false =>
            have E2:Hid (lastV (P++[x]) x=false):=by show _=_;rw[EV.out,EC.out,E3.out,hty];rfl
            clear hty
            go_wp2
            go_ret
            exact ⟨by rw[E2.out];rfl,GF.out⟩
           | true =>
            have E2:Hid (fldsV x.vars (P++[x]) y.flds=fldsV x.vars (P++[x]) S'):=by show _=_;rw[E3.out,hty];rfl
            clear hty GF
            go_wp2
            go_roundw
            case rel=>exact ⟨q+1,S',by omega,by go_num,by omega,G4.out,FY.out.2.2.2.1,E2.out⟩
            case measure=>simp [intOf];omega
         ·
          obtain rfl:q=l5:=by omega
          obtain rfl:S = .nil:=F.nil_of_len (by omega)
          have E2:Hid (x.cons.all (conV x.vars (P++[x]))=R'.all (conV x.vars (P++[x]))∧w2.grownBy wr none):=⟨by rw[EC.out,HQ.out.2.2];rfl,grown_trans G2.out HQ.out.1⟩
          clear HQ IN5
          go_wp2
          go_roundw
          case rel=>exact ⟨j+1,R',by omega,by go_num,by omega,E2.out.2,FX.out.2.2.2.1,E2.out.1⟩
          case measure=>simp [intOf];omega
    ·
     obtain rfl:j=l2:=by omega
     obtain rfl:R=[]:=List.eq_nil_of_length_eq_zero (by omega)
     have E2:Hid (lastV (P++[x]) x=true):=by show _=_;rw[EV.out,HR.out.2.2];rfl
     have GF:Hid (w.grownBy wr none):=(FT.out wr (grown_trans H2.out HR.out.1)).2.2.2
     clear HR IN
     go_wp2
     go_ret
     exact ⟨by rw[E2.out];rfl,GF.out⟩
end Go.Proofs.YtblbnillilbacaaGreatDoor.By
namespace Go.Proofs.YtblbnillilbacaaGreatDoor.By
open Go.RowKit
set_option linter.unusedVariables false
set_option linter.unusedSimpArgs false
/-- A row of one-cell values of our own, in a block from lo on. -/
def OwV (w:World) (t:TypeId) (lo:Nat) (a:Option Addr) (l c:Nat) (vs:List Value):Prop :=
 vs.length=l∧l≤c∧((c=0∧a=none)∨∃ g cur,lo≤g∧a=some ⟨g,0,none⟩∧w.heap[g]? = some (.cells cur t (0,0))∧cur.size=c∧cur.toList.take l=vs)
theorem OwV.none {w u:World} {t:TypeId} {lo:Nat} {a:Option Addr} {l c:Nat} {vs:List Value} (h:OwV w t lo a l c vs) (hg:w.grownBy u Option.none):OwV u t lo a l c vs:=by
 obtain ⟨h1,h2,h3⟩:=h
 refine ⟨h1,h2,?_⟩
 rcases h3 with h3|⟨g,cur,h4,h5,h6,h7⟩
 ·
  exact .inl h3
 ·
  exact .inr ⟨g,cur,h4,h5,(hg.block g (lt_of_block h6) (by simp)).trans h6,h7⟩
theorem run_pushV {P:Program} {w:World} (t ty e:TypeId) (i:TypeInfo) (z:Value) (ht:P.underlying t=some (.slice e)) (hi:P.info? e=some i) (hz:i.zero=some z) (hsize:i.size=1) (hby:i.bytes=24) (hzs:z.cells.size=1)
  (lo:Nat) (a:Option Addr) (l c:Nat) (vs:List Value) (h:OwV w e lo a l c vs) (hlo:lo≤w.heap.size) (hl:l≤2000000) (ad:Addr) (v:Value) (hv1:v.oneCell' = true) (hnews:∀ j u,[v][j]? = some u→w.cell? (ad.add j)=some u) :
  ∃ a2 c2 w',(Builtin.append_ #[t,t] ty #[.slice a l c,.slice (some ad) 1 1]).run P w = .ok (.slice a2 (l+1) c2) w'∧OwV w' e lo a2 (l+1) c2 (vs++[v])∧(∀ wb:World,wb.grownBy w none→wb.heap.size≤lo→wb.grownBy w' none):=by
 obtain ⟨hvl,hlc,hx⟩:=h
 have src:Src P i.size t (.slice (some ad) 1 1) 1 [v] w:=Src.ofSlice w ht ad 1 1 _ (by simp [hsize]) hnews (fun x hx=>by simp at hx;rw[hx];exact hv1)
 have hgrow:∀ (hold:(Builtin.firstCells i.size l (.slice a l c)).run P w.drew = .ok vs.toArray w.drew) (hd':c < l+1),
   ∃ a2 c2 w',(Builtin.append_ #[t,t] ty #[.slice a l c,.slice (some ad) 1 1]).run P w = .ok (.slice a2 (l+1) c2) w'∧OwV w' e lo a2 (l+1) c2 (vs++[v])∧(∀ wb:World,wb.grownBy w none→wb.heap.size≤lo→wb.grownBy w' none):=by
  intro hold hd'
  have r:=run_append_grow_src (P:=P) w t t ty e i z ht hi hz a l c vs hold (.slice (some ad) 1 1) 1 _ src hd' (by omega) (growslice_fits hd' (by rw[hby];omega))
  have hge:=grownCap_ge w (l+1) c e
  have hnew:=heap_alloc_new w.drew (.cells ((vs++[v]).toArray++Builtin.zeroCells z.cells (grownCap w (l+1) c e - (l+1))) e)
  have hnew:(w.drew.alloc (.cells ((vs++[v]).toArray++Builtin.zeroCells z.cells (grownCap w (l+1) c e - (l+1))) e)).heap[w.heap.size]? = _:=hnew
  refine ⟨_,_,_,r,⟨by simp [hvl],hge,.inr ⟨_,_,hlo,rfl,hnew,?_,?_⟩⟩,fun wb hb _=>grown_trans (grown_drew hb) (World.grownBy_alloc _ _ _)⟩
  ·
   simp only[Array.size_append,List.size_toArray,size_zeroCells,hzs,List.length_append,hvl,List.length_cons,List.length_nil]
   omega
  ·
   rw[Array.toList_append,List.take_append_of_le_length (by simp [hvl]),List.take_of_length_le (by simp [hvl])]
 rcases hx with ⟨hc0,ha⟩|⟨g,cur,hg0,rfl,hg,hsz,htk⟩
 ·
  subst ha
  obtain rfl:l=0:=by omega
  obtain rfl:=List.eq_nil_of_length_eq_zero hvl
  subst hc0
  exact hgrow (run_firstCells_none w.drew i.size 0 0 0) (by omega)
 ·
  by_cases hroom:l+1≤c
  ·
   have hB:∀ j,j < c→∃ x,w.cell? ⟨g,j,none⟩=some x:=fun j hj=>by
    rw[cell_of_row w g j cur e (0,0) hg]
    exact ⟨cur[j]'(by omega),by simp [hsz,hj]⟩
   have r:=run_append_room_src (P:=P) w t t ty e i ht hi g 0 l c (.slice (some ad) 1 1) 1 _ src hroom (by rw[hsize];intro j hj;simp at hj;obtain ⟨x,hx⟩:=hB l (by omega);rw[show 0+l * 1+j=l by omega,hx];rfl) (by rw[hsize];intro j hj;exact frozen_of_row w g _ _ e hg)
   rw[hsize,Nat.zero_add,Nat.mul_one] at r
   have r':(Builtin.append_ #[t,t] ty #[.slice (some ⟨g,0,none⟩) l c,.slice (some ad) 1 1]).run P w = .ok (.slice (some ⟨g,0,none⟩) (l+1) c) (w.setCell ⟨g,l,none⟩ v):=r
   have hs:=heap_setCell_same w g l cur e v hg
   refine ⟨_,_,_,r',⟨by simp [hvl],hroom,.inr ⟨g,_,hg0,rfl,hs,by simpa using hsz,?_⟩⟩,fun wb hb hbl=>grown_into hb (grown_setCell _ _ _ _) (by omega)⟩
   apply List.ext_getElem?
   intro j
   rw[Array.toList_setIfInBounds]
   by_cases hj:j < l
   ·
    rw[List.getElem?_take_of_lt (by omega),List.getElem?_set_ne (by omega),List.getElem?_append_left (by omega),← htk,List.getElem?_take_of_lt hj]
   ·
    by_cases hj2:j=l
    ·
     subst hj2
     rw[List.getElem?_take_of_lt (by omega),List.getElem?_set_self (by simpa using (by omega:j < cur.size)),List.getElem?_append_right (by omega),hvl]
     simp
    ·
     rw[List.getElem?_eq_none (by simp;omega),List.getElem?_eq_none (by simp [hvl];omega)]
  ·
   refine hgrow ?_ (by omega)
   have hlen:(cur.toList.take l).length=l:=by simp;omega
   have:=run_firstCells_some (P:=P) w.drew i.size l ⟨g,0,none⟩ l c (cur.toList.take l) (by simp [hsize];omega) (fun j u hu=>?_)
   ·
    rw[htk] at this;exact this
   ·
    have hj:j < l:=by have:=(List.getElem?_eq_some_iff.1 hu).1;simp at this;omega
    rw[Go.WideShapes.add_plain,Nat.zero_add]
    have hc:w.drew.cell? ⟨g,j,none⟩=cur[j]?:=cell_of_row w.drew g j cur e (0,0) hg
    rw[hc]
    rw[List.getElem?_take_of_lt hj,Array.getElem?_toList] at hu
    exact hu
theorem wpList_pushV {P:Program} {w:World} {ops:Array Oper} {rest:List Oper} {o:Oper} {ac:Act} {Q:Exit→Act→World→Prop}
  (hg:o.guard=none) (s x:Operand) (t:TypeId) (ho:o.op = .call { callee:=.builtin .append,args:=#[s,x],argTypes:=#[t,t] })
  (e:TypeId) (i:TypeInfo) (z:Value) (ht:P.underlying t=some (.slice e)) (hi:P.info? e=some i) (hz:i.zero=some z) (hsize:i.size=1) (hby:i.bytes=24) (hzs:z.cells.size=1)
  (lo:Nat) (a:Option Addr) (l c:Nat) (vs:List Value) (hs:ac.eval s = .slice a l c) (h:OwV w e lo a l c vs) (hlo:lo≤w.heap.size) (hl:l≤2000000) (ad:Addr) (hx:ac.eval x = .slice (some ad) 1 1) (v:Value) (hv1:v.oneCell' = true) (hnews:∀ j u,[v][j]? = some u→w.cell? (ad.add j)=some u)
  (H:∀ a2 c2 w',OwV w' e lo a2 (l+1) c2 (vs++[v])→(∀ wb:World,wb.grownBy w none→wb.heap.size≤lo→wb.grownBy w' none)→wpList P ops Q rest (ac.put o.dst (.slice a2 (l+1) c2)) w') :
  wpList P ops Q (o::rest) ac w:=by
 refine wpList_plain hg fun K hK=>?_
 obtain ⟨a2,c2,w',hrun,h1,h2⟩:=run_pushV (P:=P) (w:=w) t o.type e i z ht hi hz hsize hby hzs lo a l c vs h hlo hl ad v hv1 hnews
 unfold Oper.wp execOp
 simp only[ho,resolve,invoke,builtin,Sem.run_bind,Sem.run_pure,Result.andThen_ok,List.map_toArray,List.map_cons,List.map_nil,hs,hx,hrun]
 exact hK _ _ (H a2 c2 w' h1 h2)
theorem infoBy:(Tryz.prog.info? 23).map (fun i=>(i.zero,i.size,i.bytes))=some (some (.slice none 0 0),1,24):=by kernel_rfl
/-- Values that are rows of bytes, each read. -/
def RdVs (w:World):List Value→List (List Int)→Prop
 | [],[]=>True
 | v::r,x::s=>(∃ a n c,v = .slice a n c∧RdB w a n x)∧RdVs w r s
 | _,_=>False
theorem RdVs.app {w:World}:∀ {vs:List Value} {xs:List (List Int)} {v:Value} {x:List Int},RdVs w vs xs→(∃ a n c,v = .slice a n c∧RdB w a n x)→RdVs w (vs++[v]) (xs++[x])
 | [],[],v,x,_,k=>⟨k,trivial⟩
 | _::_,_::_,v,x,h,k=>⟨h.1,RdVs.app h.2 k⟩
 | [],_::_,_,_,h,_=>h.elim
 | _::_,[],_,_,h,_=>h.elim
theorem RdVs.len {w:World}:∀ {vs:List Value} {xs:List (List Int)},RdVs w vs xs→vs.length=xs.length
 | [],[],_=>rfl
 | _::_,_::_,h=>by simp [RdVs.len h.2]
 | [],_::_,h=>h.elim
 | _::_,[],h=>h.elim
theorem inSS_of {w wp:World} {b:Nat}:∀ {vs:List Value} {xs:List (List Int)} {off:Nat},RdVs wp vs xs→(∀ j v,vs[j]? = some v→w.cell? ⟨b,off+j,none⟩=some v)→InSS w wp xs b off
 | [],[],_,_,_=>trivial
 | v::r,x::s,off,h,k=>by
  obtain ⟨⟨a,n,c,rfl,hd⟩,hr⟩:=h
  refine ⟨⟨a,n,c,by simpa using k 0 _ rfl,hd⟩,inSS_of hr (fun j v hv=>?_)⟩
  have:=k (j+1) v (by simpa using hv)
  rw[show off+1+j=off+(j+1) by omega];exact this
 | [],_::_,_,h,_=>h.elim
 | _::_,[],_,h,_=>h.elim
theorem OwV.read {w:World} {t:TypeId} {lo:Nat} {a:Option Addr} {l c:Nat} {vs:List Value} {xs:List (List Int)} (h:OwV w t lo a l c vs) (k:RdVs w vs xs) (hl:l≤2000000):SlSS w a l xs:=by
 obtain ⟨h1,h2,h3⟩:=h
 refine ⟨by rw[← k.len,h1],by omega,?_⟩
 rcases h3 with ⟨h3,-⟩|⟨g,cur,-,e,hg,hsz,htk⟩
 ·
  exact .inl (by omega)
 ·
  refine .inr ⟨g,0,e,inSS_of k (fun j v hv=>?_)⟩
  rw[Nat.zero_add,cell_of_row w g j cur t (0,0) hg]
  rw[← htk] at hv
  have hj:j < l:=by have:=(List.getElem?_eq_some_iff.1 hv).1;simp at this;omega
  rw[List.getElem?_take_of_lt hj,Array.getElem?_toList] at hv
  exact hv
theorem RdVs.le {w u:World} (k:CLe w u):∀ {vs:List Value} {xs:List (List Int)},RdVs w vs xs→RdVs u vs xs
 | [],[],_=>trivial
 | v::r,x::s,h=>by
  obtain ⟨⟨a,n,c,e,hd⟩,hr⟩:=h
  exact ⟨⟨a,n,c,e,hd.le k⟩,RdVs.le k hr⟩
 | [],_::_,h=>h.elim
 | _::_,[],h=>h.elim
end Go.Proofs.YtblbnillilbacaaGreatDoor.By
namespace Go.Proofs.YtblbnillilbacaaGreatDoor.By
open Go.RowKit
set_option linter.unusedVariables false
set_option linter.unusedSimpArgs false
theorem news1 {u:World} {q:Nat} {v0:Value} (h:u.cell? ⟨q,0,none⟩=some v0):∀ j v,[v0][j]? = some v→u.cell? ((⟨q,0,none⟩:Addr).add j)=some v:=by
 intro j v hv
 rw[Go.WideShapes.add_plain,Nat.zero_add]
 match j,hv with
 | 0,hv=>simp at hv;subst hv;exact h
 | j+1,hv=>simp at hv
theorem one1S {w:World} {g:Nat} {t:TypeId} {c0:Value} (h:w.heap[g]? = some (.cells #[c0] t (0,0))):w.cell? ⟨g,0,none⟩=some c0:=by
 rw[cell_of_row w g _ _ t (0,0) h];rfl
set_option maxHeartbeats 2000000 in
theorem dataNamesT (ds:List Da) (a:Option Addr) (l c:Nat) (w:World) (h:SlDa w a l ds) (hs:l≤1048576) :
  Calls Tryz.prog 66 #[.slice a l c] w fun e u=>∃ a' c',e = .returned (.slice a' l c')∧w.grownBy u none∧SlSS u a' l (ds.map Da.name)∧l≤c':=by
 have hl:=h.2.1
 have hfl:=h.1
 rcases h.cases with ⟨rfl,rfl⟩|⟨b,o,rfl,hin,hpos⟩
 ·
  go_enter Tryz.func66,Tryz.ntmps66
  go_wp2
  refine wp_loop_rounds 1 ?_
  rw[rounds_succ]
  go_wp2
  go_ret
  exact ⟨_,_,rfl,World.grownBy.refl _ _,⟨rfl,by omega,.inl rfl⟩,Nat.le_refl _⟩
 have IN:Hid (InDa w w ds b o):=hin
 clear hin h
 obtain ⟨i0,hi,hz0,hz1,hz2⟩:=info_parts infoBy
 go_enter Tryz.func66,Tryz.ntmps66
 go_wp2
 go_loopw [3,8] (fun v i wr=>∃ (j:Nat) (P R:List Da) (av:Option Addr) (cv:Nat) (vs:List Value),j≤l∧i = .int .i64 j∧v = .slice av j cv∧P.length=j∧R.length+j=l∧Hid (w.grownBy wr none∧OwV wr 23 w.heap.size av j cv vs∧RdVs w vs (P.map Da.name)∧InDa w w R b (o+j * 3)∧P++R=ds)) (fun _ i _=>l - (intOf i).toNat)
 case atStart=>exact ⟨0,[],ds,none,0,[],Nat.zero_le _,rfl,rfl,rfl,by omega,World.grownBy.refl _ _,⟨rfl,Nat.le_refl _,.inl ⟨rfl,rfl⟩⟩,trivial,by simpa using IN.out,rfl⟩
 case round =>
  obtain ⟨j,P,R,av,cv,vs,hj,rfl,rfl,hPl,hRl,HR⟩:=hrel
  by_cases hlt:j < l
  ·
   obtain ⟨x,R',rfl⟩:∃ x R',R=x::R':=by
    cases R with
    | nil=>simp at hRl;omega
    | cons x R'=>exact ⟨x,R',rfl⟩
   obtain ⟨hg,hO,hV,⟨⟨a1,n1,c1,a2,l2,c2,k0,k1,k2,hd1,hd2⟩,hR2⟩,hcs⟩:=HR.out
   rw[show o+j * 3+3=o+(j+1) * 3 by omega] at hR2
   have k0:=hg.cell k0 (by simp)
   have k1:=hg.cell k1 (by simp)
   have k2:=hg.cell k2 (by simp)
   have ga:=World.grownBy_alloc wr (.cells #[.slice a1 n1 c1,.int .i64 x.vars,.slice a2 l2 c2] 68) none
   have gb:=World.grownBy_alloc (wr.alloc (.cells #[.slice a1 n1 c1,.int .i64 x.vars,.slice a2 l2 c2] 68)) (.cells #[.slice a1 n1 c1] 23) none
   have bb:=heap_alloc_new (wr.alloc (.cells #[.slice a1 n1 c1,.int .i64 x.vars,.slice a2 l2 c2] 68)) (.cells #[.slice a1 n1 c1] 23)
   have s1:(wr.alloc (.cells #[.slice a1 n1 c1,.int .i64 x.vars,.slice a2 l2 c2] 68)).heap.size=wr.heap.size+1:=by simp
   rw[s1] at bb
   have NW:Hid _:=news1 (one1S bb)
   have GG:=grown_trans ga gb
   have FX:Hid (w.grownBy ((wr.alloc (.cells #[.slice a1 n1 c1,.int .i64 x.vars,.slice a2 l2 c2] 68)).alloc (.cells #[.slice a1 n1 c1] 23)) none∧OwV ((wr.alloc (.cells #[.slice a1 n1 c1,.int .i64 x.vars,.slice a2 l2 c2] 68)).alloc (.cells #[.slice a1 n1 c1] 23)) 23 w.heap.size av j cv vs∧RdVs w (vs++[.slice a1 n1 c1]) ((P++[x]).map Da.name)∧InDa w w R' b (o+(j+1) * 3)∧(P++[x])++R' = ds∧w.heap.size≤((wr.alloc (.cells #[.slice a1 n1 c1,.int .i64 x.vars,.slice a2 l2 c2] 68)).alloc (.cells #[.slice a1 n1 c1] 23)).heap.size):=⟨grown_trans hg GG,hO.none GG,by rw[List.map_append];exact hV.app ⟨a1,n1,c1,rfl,hd1⟩,hR2,by rw[List.append_assoc];exact hcs,(grown_trans hg GG).size⟩
   clear hg hO hV hd1 hd2 hR2 hcs ga gb bb s1 GG HR IN
   simp only[List.length_cons] at hRl
   go_wp2_with (at_builtin;go_must (refine wpList_pushV rfl _ _ 85 rfl 23 i0 _ Tryz.underlying85 hi hz0 hz1 hz2 rfl w.heap.size av j cv vs rfl FX.out.2.1 FX.out.2.2.2.2.2 (by omega) ⟨wr.heap.size+1,0,none⟩ rfl (.slice a1 n1 c1) rfl NW.out ?_);intro a3 c3 u3 h1 h2)
   have FY:Hid (w.grownBy u3 none∧OwV u3 23 w.heap.size a3 (j+1) c3 (vs++[.slice a1 n1 c1])):=⟨h2 w FX.out.1 (Nat.le_refl _),h1⟩
   clear h1 h2 NW k0 k1 k2
   go_roundw
   case rel=>exact ⟨j+1,P++[x],R',a3,c3,_,by omega,by go_num,rfl,by simp [hPl],by omega,FY.out.1,FY.out.2,FX.out.2.2.1,FX.out.2.2.2.1,FX.out.2.2.2.2.1⟩
   case measure=>simp [intOf];omega
  ·
   obtain rfl:j=l:=by omega
   obtain rfl:R=[]:=List.eq_nil_of_length_eq_zero (by omega)
   obtain ⟨hg,hO,hV,-,hcs⟩:=HR.out
   rw[List.append_nil] at hcs
   subst hcs
   have FQ:Hid (w.grownBy wr none∧SlSS wr av j (P.map Da.name)∧j≤cv):=⟨hg,hO.read (hV.le (CLe.grown hg)) (by omega),hO.2.1⟩
   clear hg hO hV HR IN
   go_wp2
   go_ret
   exact ⟨_,_,rfl,FQ.out⟩
/-- The names of all constructors. -/
def conNs (ds:List Da):List (List Int):=ds.flatMap fun d=>d.cons.map Co.name
theorem conNs_len:∀ ds:List Da,(conNs ds).length≤szDas ds
 | []=>Nat.le_refl _
 | x::r=>by
  have:=conNs_len r
  have h2:=szCos_len x.cons
  simp only[conNs,List.flatMap_cons,List.length_append,List.length_map,szDas,szDa] at this ⊢
  omega
theorem conNs_app (P Q:List Da):conNs (P++Q)=conNs P++conNs Q:=by unfold conNs;rw[List.flatMap_append]
theorem conNs_one (x:Da):conNs [x]=x.cons.map Co.name:=by simp [conNs]
set_option maxHeartbeats 4000000 in
theorem conNamesT (ds:List Da) (a:Option Addr) (l c:Nat) (w:World) (h:SlDa w a l ds) (hs:szDas ds≤1048576) :
  Calls Tryz.prog 67 #[.slice a l c] w fun e u=>∃ a' c',e = .returned (.slice a' (conNs ds).length c')∧w.grownBy u none∧SlSS u a' (conNs ds).length (conNs ds)∧(conNs ds).length≤c':=by
 have hl:=h.2.1
 have hfl:=h.1
 have hcl:=conNs_len ds
 rcases h.cases with ⟨rfl,rfl⟩|⟨b,o,rfl,hin,hpos⟩
 ·
  go_enter Tryz.func67,Tryz.ntmps67
  go_wp2
  refine wp_loop_rounds 1 ?_
  rw[rounds_succ]
  go_wp2
  go_ret
  exact ⟨_,_,rfl,World.grownBy.refl _ _,⟨rfl,by simp [conNs],.inl rfl⟩,Nat.le_refl _⟩
 have IN:Hid (InDa w w ds b o):=hin
 clear hin h
 obtain ⟨i0,hi,hz0,hz1,hz2⟩:=info_parts infoBy
 go_enter Tryz.func67,Tryz.ntmps67
 go_wp2
 go_loopw [3,10] (fun v i wr=>∃ (j t:Nat) (P R:List Da) (av:Option Addr) (cv:Nat) (vs:List Value),j≤l∧i = .int .i64 j∧v = .slice av t cv∧P.length=j∧R.length+j=l∧Hid (w.grownBy wr none∧OwV wr 23 w.heap.size av t cv vs∧RdVs w vs (conNs P)∧InDa w w R b (o+j * 3)∧P++R=ds)) (fun _ i _=>l - (intOf i).toNat)
 case atStart=>exact ⟨0,0,[],ds,none,0,[],Nat.zero_le _,rfl,rfl,rfl,by omega,World.grownBy.refl _ _,⟨rfl,Nat.le_refl _,.inl ⟨rfl,rfl⟩⟩,trivial,by simpa using IN.out,rfl⟩
 case round =>
  obtain ⟨j,t,P,R,av,cv,vs,hj,rfl,rfl,hPl,hRl,HR⟩:=hrel
  by_cases hlt:j < l
  ·
   obtain ⟨x,R',rfl⟩:∃ x R',R=x::R':=by
    cases R with
    | nil=>simp at hRl;omega
    | cons x R'=>exact ⟨x,R',rfl⟩
   obtain ⟨hg,hO,hV,⟨⟨a1,n1,c1,a2,l2,c2,k0,k1,k2,hd1,hd2⟩,hR2⟩,hcs⟩:=HR.out
   rw[show o+j * 3+3=o+(j+1) * 3 by omega] at hR2
   have k0:=hg.cell k0 (by simp)
   have k1:=hg.cell k1 (by simp)
   have k2:=hg.cell k2 (by simp)
   have ga:=World.grownBy_alloc wr (.cells #[.slice a1 n1 c1,.int .i64 x.vars,.slice a2 l2 c2] 68) none
   have hlens:(conNs P).length+x.cons.length≤1048576:=by
    have e:conNs ds=conNs P++(conNs [x]++conNs R'):=by rw[← hcs,← List.singleton_append,conNs_app,conNs_app]
    have:=congrArg List.length e
    rw[conNs_one] at this
    simp only[List.length_append,List.length_map] at this
    omega
   have FX:Hid (w.grownBy (wr.alloc (.cells #[.slice a1 n1 c1,.int .i64 x.vars,.slice a2 l2 c2] 68)) none∧OwV (wr.alloc (.cells #[.slice a1 n1 c1,.int .i64 x.vars,.slice a2 l2 c2] 68)) 23 w.heap.size av t cv vs∧RdVs w vs (conNs P)∧InDa w w R' b (o+(j+1) * 3)∧(P++[x])++R' = ds∧SlCo w a2 l2 x.cons):=⟨grown_trans hg ga,hO.none ga,hV,hR2,by rw[List.append_assoc];exact hcs,hd2⟩
   have hl2:=hd2.1
   have hl2m:=hd2.2.1
   clear hg hO hV hd1 hR2 hcs ga HR IN
   simp only[List.length_cons] at hRl
   rcases hd2.cases with ⟨h20,h2n⟩|⟨b2,o2,h2a,hin2,h2p⟩
   ·
    have FE:Hid (RdVs w vs (conNs (P++[x]))):=by show RdVs _ _ _;rw[conNs_app,conNs_one,h2n];simpa using FX.out.2.2.1
    subst h20
    clear hd2 h2n hl2
    go_wp2
    refine wp_loop_rounds 1 ?_
    rw[rounds_succ]
    go_wp2
    go_roundw
    case rel=>exact ⟨j+1,t,P++[x],R',av,cv,vs,by omega,by go_num,rfl,by simp [hPl],by omega,FX.out.1,FX.out.2.1,FE.out,FX.out.2.2.2.1,FX.out.2.2.2.2.1⟩
    case measure=>simp [intOf];omega
   ·
    subst h2a
    have IN2:Hid (InCo w w x.cons b2 o2):=hin2
    clear hd2 hin2
    go_wp2
    generalize wr.alloc (.cells #[.slice a1 n1 c1,.int .i64 x.vars,.slice (some ⟨b2,o2,none⟩) l2 c2] 68)=wq at *
    go_loopw [3,17] (fun v i wr2=>∃ (q t2:Nat) (P2 R2:List Co) (av2:Option Addr) (cv2:Nat) (vs2:List Value),q≤l2∧i = .int .i64 q∧v = .slice av2 t2 cv2∧P2.length=q∧R2.length+q=l2∧Hid (w.grownBy wr2 none∧OwV wr2 23 w.heap.size av2 t2 cv2 vs2∧RdVs w vs2 (conNs P++P2.map Co.name)∧InCo w w R2 b2 (o2+q * 2)∧P2++R2=x.cons)) (fun _ i _=>l2 - (intOf i).toNat)
    case atStart=>exact ⟨0,t,[],x.cons,av,cv,vs,Nat.zero_le _,rfl,rfl,rfl,by omega,FX.out.1,FX.out.2.1,by simpa using FX.out.2.2.1,by simpa using IN2.out,rfl⟩
    case round =>
     obtain ⟨q,t2,P2,R2,av2,cv2,vs2,hq,rfl,rfl,hP2,hR2l,HQ⟩:=hrel
     by_cases hlt2:q < l2
     ·
      obtain ⟨y,R3,rfl⟩:∃ y R3,R2=y::R3:=by
       cases R2 with
       | nil=>simp at hR2l;omega
       | cons y R3=>exact ⟨y,R3,rfl⟩
      obtain ⟨hg,hO,hV,⟨⟨a4,n4,c4,a5,l5,c5,m0,m1,hd4,hd5⟩,hR3⟩,hc2⟩:=HQ.out
      rw[show o2+q * 2+2=o2+(q+1) * 2 by omega] at hR3
      have m0:=hg.cell m0 (by simp)
      have m1:=hg.cell m1 (by simp)
      have ht2:t2≤2000000:=by
       have e1:=hO.1
       have e2:=hV.len
       simp only[List.length_append,List.length_map] at e2
       omega
      have ga:=World.grownBy_alloc wr (.cells #[.slice a4 n4 c4,.slice a5 l5 c5] 73) none
      have gb:=World.grownBy_alloc (wr.alloc (.cells #[.slice a4 n4 c4,.slice a5 l5 c5] 73)) (.cells #[.slice a4 n4 c4] 23) none
      have bb:=heap_alloc_new (wr.alloc (.cells #[.slice a4 n4 c4,.slice a5 l5 c5] 73)) (.cells #[.slice a4 n4 c4] 23)
      have s1:(wr.alloc (.cells #[.slice a4 n4 c4,.slice a5 l5 c5] 73)).heap.size=wr.heap.size+1:=by simp
      rw[s1] at bb
      have NW:Hid _:=news1 (one1S bb)
      have GG:=grown_trans ga gb
      have FZ:Hid (w.grownBy ((wr.alloc (.cells #[.slice a4 n4 c4,.slice a5 l5 c5] 73)).alloc (.cells #[.slice a4 n4 c4] 23)) none∧OwV ((wr.alloc (.cells #[.slice a4 n4 c4,.slice a5 l5 c5] 73)).alloc (.cells #[.slice a4 n4 c4] 23)) 23 w.heap.size av2 t2 cv2 vs2∧RdVs w (vs2++[.slice a4 n4 c4]) (conNs P++(P2++[y]).map Co.name)∧InCo w w R3 b2 (o2+(q+1) * 2)∧(P2++[y])++R3=x.cons∧w.heap.size≤((wr.alloc (.cells #[.slice a4 n4 c4,.slice a5 l5 c5] 73)).alloc (.cells #[.slice a4 n4 c4] 23)).heap.size):=⟨grown_trans hg GG,hO.none GG,by rw[List.map_append,← List.append_assoc];exact hV.app ⟨a4,n4,c4,rfl,hd4⟩,hR3,by rw[List.append_assoc];exact hc2,(grown_trans hg GG).size⟩
      clear hg hO hV hd4 hd5 hR3 hc2 ga gb bb s1 GG HQ IN2
      simp only[List.length_cons] at hR2l
      go_wp2_with (at_builtin;go_must (refine wpList_pushV rfl _ _ 85 rfl 23 i0 _ Tryz.underlying85 hi hz0 hz1 hz2 rfl w.heap.size av2 t2 cv2 vs2 rfl FZ.out.2.1 FZ.out.2.2.2.2.2 ht2 ⟨wr.heap.size+1,0,none⟩ rfl (.slice a4 n4 c4) rfl NW.out ?_);intro a6 c6 u6 h1 h2)
      have FY:Hid (w.grownBy u6 none∧OwV u6 23 w.heap.size a6 (t2+1) c6 (vs2++[.slice a4 n4 c4])):=⟨h2 w FZ.out.1 (Nat.le_refl _),h1⟩
      clear h1 h2 NW m0 m1
      go_roundw
      case rel=>exact ⟨q+1,t2+1,P2++[y],R3,a6,c6,_,by omega,by go_num,rfl,by simp [hP2],by omega,FY.out.1,FY.out.2,FZ.out.2.2.1,FZ.out.2.2.2.1,FZ.out.2.2.2.2.1⟩
      case measure=>simp [intOf];omega
     ·
      obtain rfl:q=l2:=by omega
      obtain rfl:R2=[]:=List.eq_nil_of_length_eq_zero (by omega)
      have FE:Hid (w.grownBy wr none∧OwV wr 23 w.heap.size av2 t2 cv2 vs2∧RdVs w vs2 (conNs (P++[x]))):=by
       obtain ⟨hg,hO,hV,-,hc2⟩:=HQ.out
       rw[List.append_nil] at hc2
       rw[hc2] at hV
       exact ⟨hg,hO,by rw[conNs_app,conNs_one];exact hV⟩
      clear HQ
      go_wp2
      go_roundw
      case rel=>exact ⟨j+1,t2,P++[x],R',av2,cv2,vs2,by omega,by go_num,rfl,by simp [hPl],by omega,FE.out.1,FE.out.2.1,FE.out.2.2,FX.out.2.2.2.1,FX.out.2.2.2.2.1⟩
      case measure=>simp [intOf];omega
  ·
   obtain rfl:j=l:=by omega
   obtain rfl:R=[]:=List.eq_nil_of_length_eq_zero (by omega)
   obtain ⟨hg,hO,hV,-,hcs⟩:=HR.out
   rw[List.append_nil] at hcs
   subst hcs
   obtain rfl:t=(conNs P).length:=by rw[← hO.1,hV.len]
   have FQ:Hid (w.grownBy wr none∧SlSS wr av (conNs P).length (conNs P)∧(conNs P).length≤cv):=⟨hg,hO.read (hV.le (CLe.grown hg)) (by omega),hO.2.1⟩
   clear hg hO hV HR IN
   go_wp2
   go_ret
   exact ⟨_,_,rfl,FQ.out⟩
end Go.Proofs.YtblbnillilbacaaGreatDoor.By
namespace Go.Proofs.YtblbnillilbacaaGreatDoor.By
open Go.RowKit
set_option linter.unusedVariables false
set_option linter.unusedSimpArgs false
theorem InDa.fst {w wp:World} {P Q:List Da} {b off:Nat} (h:InDa w wp (P++Q) b off):InDa w wp P b off:=by
 induction P generalizing off with
 | nil=>trivial
 | cons x r ih=>exact ⟨h.1,ih h.2⟩
/-- Each is as the last of those up to it must be. -/
def preV:List Da→List Da→Bool
 | _,[]=>true
 | P,x::r=>lastV (P++[x]) x && preV (P++[x]) r
def implV (ds:List Da):Bool:=decide (ds.length≤6) && (preV [] ds && (unV [] (ds.map Da.name) && unV [] (conNs ds)))
set_option maxRecDepth 8000 in
set_option maxHeartbeats 4000000 in
theorem implDatasT (ds:List Da) (a:Option Addr) (l c:Nat) (w:World) (h:SlDa w a l ds) (hlc:l≤c) (hs:szDas ds≤1048576) :
  Calls Tryz.prog 31 #[.slice a l c] w fun e u=>e = .returned (.bool (implV ds))∧w.grownBy u none:=by
 have hl:=h.2.1
 have hfl:=h.1
 by_cases h6:l≤6
 rotate_left
 ·
  have EV:Hid (implV ds=false):=by show _=_;unfold implV;rw[hfl];simp [h6]
  have h6':(l:Int) > 6:=by omega
  go_enter Tryz.func31,Tryz.ntmps31
  go_wp2
  go_ret
  exact ⟨by rw[EV.out];rfl,World.grownBy.refl _ _⟩
 have h6':¬ (l:Int) > 6:=by omega
 have h6b:decide ((l:Int) > 6)=false:=by simpa using h6'
 have EV:Hid (implV ds=(preV [] ds && (unV [] (ds.map Da.name) && unV [] (conNs ds)))):=by show _=_;unfold implV;rw[hfl];simp [h6]
 have HD:Hid (∀ u,w.grownBy u none→SlDa u a l ds):=fun u hu=>h.none hu
 have CN:Hid (∀ u,w.grownBy u none→Calls Tryz.prog 66 #[.slice a l c] u fun e u'=>∃ a' c',e = .returned (.slice a' l c')∧u.grownBy u' none∧SlSS u' a' l (ds.map Da.name)∧l≤c'):=fun u hu=>dataNamesT ds a l c u (h.none hu) (by omega)
 have CC:Hid (∀ u,w.grownBy u none→Calls Tryz.prog 67 #[.slice a l c] u fun e u'=>∃ a' c',e = .returned (.slice a' (conNs ds).length c')∧u.grownBy u' none∧SlSS u' a' (conNs ds).length (conNs ds)∧(conNs ds).length≤c'):=fun u hu=>conNamesT ds a l c u (h.none hu) hs
 clear h
 go_enter Tryz.func31,Tryz.ntmps31
 go_wp2
 go_loopw [9] (fun i wr=>∃ (j:Nat) (P R:List Da),j≤l∧i = .int .i64 j∧P.length=j∧R.length+j=l∧Hid (w.grownBy wr none∧P++R=ds∧preV [] ds=preV P R)) (fun i _=>l - (intOf i).toNat)
 case atStart=>exact ⟨0,[],ds,Nat.zero_le _,rfl,rfl,by omega,World.grownBy.refl _ _,rfl,rfl⟩
 case round =>
  obtain ⟨j,P,R,hj,rfl,hPl,hRl,HR⟩:=hrel
  by_cases hlt:j < l
  ·
   obtain ⟨x,R',rfl⟩:∃ x R',R=x::R':=by
    cases R with
    | nil=>simp at hRl;omega
    | cons x R'=>exact ⟨x,R',rfl⟩
   obtain ⟨hg,hcs,hv⟩:=HR.out
   have hcs2:(P++[x])++R' = ds:=by rw[List.append_assoc];exact hcs
   have hD:=HD.out wr hg
   obtain ⟨b,o,rfl,hin,-⟩:∃ b o,a=some ⟨b,o,none⟩∧InDa wr wr ds b o∧0 < l:=by
    rcases hD.cases with ⟨z1,z2⟩|hh
    ·
     omega
    ·
     exact hh
   rw[← hcs2] at hin
   have CL:Hid _:=lastT P x (some ⟨b,o,none⟩) (j+1) c wr ⟨by simp [hPl],by omega,.inr ⟨b,o,rfl,hin.fst⟩⟩
   have FX:Hid (w.grownBy wr none∧(P++[x])++R' = ds∧preV [] ds=(lastV (P++[x]) x && preV (P++[x]) R')):=⟨hg,hcs2,by rw[hv];rfl⟩
   have hjc:(j:Int)+1≤(c:Int):=by omega
   have ew:IntKind.i64.wrap ((j:Int)+1)=(j:Int)+1:=IntWalk.i64_in _ (by omega)
   clear hg hcs hv hcs2 hD hin HR
   simp only[List.length_cons] at hRl
   go_wp2_with fail
   refine Calls.mono CL.out ?_
   rintro e u ⟨he,hgu⟩
   subst he
   have G2:Hid (w.grownBy u none):=grown_trans FX.out.1 hgu
   clear CL hgu
   simp only[]
   cases hq:lastV (P++[x]) x with
   | false =>
    have E2:Hid (implV ds=false):=by show _=_;rw[EV.out,FX.out.2.2,hq];rfl
    clear hq
    go_wp2
    go_ret
    exact ⟨by rw[E2.out];rfl,G2.out⟩
   | true =>
    have E2:Hid (preV [] ds=preV (P++[x]) R'):=by show _=_;rw[FX.out.2.2,hq];rfl
    clear hq ew
    go_wp2
    go_roundw
    case rel=>exact ⟨j+1,P++[x],R',by omega,by go_num,by simp [hPl],by omega,G2.out,FX.out.2.1,E2.out⟩
    case measure=>simp [intOf];omega
  ·
   obtain rfl:j=l:=by omega
   obtain rfl:R=[]:=List.eq_nil_of_length_eq_zero (by omega)
   have E1:Hid (implV ds=(unV [] (ds.map Da.name) && unV [] (conNs ds))∧w.grownBy wr none):=⟨by rw[EV.out,HR.out.2.2];rfl,HR.out.1⟩
   clear HR
   go_wp2_with fail
   refine Calls.mono (CN.out wr E1.out.2) ?_
   rintro e u1 ⟨a1,c1,he,hg1,hS1,hc1⟩
   subst he
   have CU:Hid _:=allUnT (ds.map Da.name) a1 j c1 u1 hS1 hc1
   have G1:Hid (w.grownBy u1 none):=grown_trans E1.out.2 hg1
   clear hg1 hS1 hc1 CN
   simp only[]
   go_wp2_with fail
   refine Calls.mono CU.out ?_
   rintro e u2 ⟨he,hg2⟩
   subst he
   have G2:Hid (w.grownBy u2 none):=grown_trans G1.out hg2
   clear hg2 CU
   simp only[]
   cases hq:unV [] (ds.map Da.name) with
   | false =>
    have E2:Hid (implV ds=false):=by show _=_;rw[E1.out.1,hq];rfl
    clear hq
    go_wp2
    go_ret
    exact ⟨by rw[E2.out];rfl,G2.out⟩
   | true =>
    have E2:Hid (implV ds=unV [] (conNs ds)):=by show _=_;rw[E1.out.1,hq];rfl
    clear hq
    go_wp2_with fail
    refine Calls.mono (CC.out u2 G2.out) ?_
    rintro e u3 ⟨a3,c3,he,hg3,hS3,hc3⟩
    subst he
    have CU:Hid _:=allUnT (conNs ds) a3 (conNs ds).length c3 u3 hS3 hc3
    have G3:Hid (w.grownBy u3 none):=grown_trans G2.out hg3
    clear hg3 hS3 hc3 CC
    simp only[]
    go_wp2_with fail
    refine Calls.mono CU.out ?_
    rintro e u4 ⟨he,hg4⟩
    subst he
    have G4:Hid (w.grownBy u4 none):=grown_trans G3.out hg4
    clear hg4 CU
    simp only[]
    go_wp2
    go_ret
    exact ⟨by rw[E2.out];rfl,G4.out⟩
end Go.Proofs.YtblbnillilbacaaGreatDoor.By
