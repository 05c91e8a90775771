/-
  No statement is proved here.
-/
import Derived.Test.YtnmlbeefjjohfaaGreatDoorCRqAlsoSh
import Derived.Test.YtnmlbeefjjohfaaGreatDoorRCAlsoSh
namespace Go.Proofs.YtnmlbeefjjohfaaGreatDoor.By
set_option maxRecDepth 100000
set_option maxHeartbeats 16000000
open Go.RowKit
set_option linter.unusedVariables false
set_option linter.unusedSimpArgs false
theorem run_appR {P:Program} {w:World} (t ty:TypeId) (B:Nat) (i:TypeInfo) (z:Value) (ht:P.underlying t=some (.slice 5)) (hi:P.info? 5=some i) (hz:i.zero=some z)
  (hsize:i.size=1) (hby:i.bytes=1) (hzs:z.cells.size=1) (v:Value) (n:Nat) (zs:List Int) (hown:w.ownsRow B 5 1 v n (vals zs)) (src:Option Addr) (m c:Nat) (ys:List Int)
  (hr:Reads w src m ys) (hm:n+m≤200000000) (hB:B≤w.heap.size) :
  ∃ v' w',(Builtin.append_ #[t,t] ty #[v,.slice src m c]).run P w = .ok v' w'∧w'.ownsRow B 5 1 v' (n+m) (vals (zs++ys))∧w.grownBy w' v.ownBlock∧(v' = .slice none 0 0 ↔ v = .slice none 0 0∧m=0):=by
 cases src with
 | some ad=>exact run_appQ t ty B i z ht hi hz hsize hby hzs v n zs hown (some ad) m c ys hr (fun h=>by cases h) hm hB
 | none =>
  obtain ⟨hl,hr⟩:=hr
  obtain rfl:m=0:=by
   rcases hr with h|⟨_,_,h,_⟩
   ·
    exact h
   ·
    cases h
  obtain rfl:ys=[]:=lz0 (by omega);refine ⟨v,w,?_,by simpa using hown,grf _ _,by simp⟩;rcases hown.2 with ⟨rfl,rfl⟩|⟨g,cap,cur,rfl,_,_,hnc,_⟩
  ·
   simp [Builtin.append_,run_underlying ht,sizeOf,typeInfo,hi,Builtin.lenOf,Builtin.firstCells]
  ·
   simp [Builtin.append_,run_underlying ht,sizeOf,typeInfo,hi,Builtin.lenOf,Builtin.firstCells,hnc,storeCells]
theorem wpList_appR {P:Program} {w:World} {ops:Array Oper} {rest:List Oper} {o:Oper} {a:Act} {Q:Exit→Act→World→Prop} (hgd:o.guard=none) (s x:Operand) (t:TypeId)
  (ho:o.op = .call { callee:=.builtin .append,args:=#[s,x],argTypes:=#[t,t] })
  (B:Nat) (i:TypeInfo) (z:Value) (ht:P.underlying t=some (.slice 5)) (hi:P.info? 5=some i) (hz:i.zero=some z) (hsize:i.size=1) (hby:i.bytes=1) (hzs:z.cells.size=1)
  (v:Value) (n:Nat) (zs:List Int) (hs:a.eval s=v) (hown:w.ownsRow B 5 1 v n (vals zs)) (src:Option Addr) (m c:Nat) (ys:List Int) (hx:a.eval x = .slice src m c) (hr:Reads w src m ys) (hm:n+m≤200000000) (hB:B≤w.heap.size)
  (h:∀ v' w',w'.ownsRow B 5 1 v' (n+m) (vals (zs++ys))→w.grownBy w' v.ownBlock→(v' = .slice none 0 0 ↔ v = .slice none 0 0∧m=0)→wpList P ops Q rest (a.put o.dst v') w'):wpList P ops Q (o::rest) a w:=by
 refine wpList_plain hgd fun K hK=>?_
 obtain ⟨v',w',hr',h2,h3,h4⟩:=run_appR (P:=P) (w:=w) t o.type B i z ht hi hz hsize hby hzs v n zs hown src m c ys hr hm hB;unfold Oper.wp execOp;simp only[ho,resolve,invoke,builtin,Sem.run_bind,Sem.run_pure,Result.andThen_ok,List.map_toArray,List.map_cons,List.map_nil,hs,hx,hr'];exact hK _ _ (h v' w' h2 h3 h4)
theorem Acc.size {B:Nat} {w:World} {v:Value} {zs:List Int} (h:Acc B w v zs):B≤w.heap.size:=by
 obtain ⟨g,cap,rfl,hB,hr,hm⟩:=h.row;obtain ⟨cur,hc,-⟩:=hr;have:=lbk hc;omega
theorem putA (B:Nat) (v:Value) (zs:List Int) (N:Int) (w:World) (h:Acc B w v zs) (hn:zs.length≤100000000) :
  Calls Tryz.prog 58 #[v,.int .i64 N] w fun e u=>∃ v',e = .returned v'∧Acc B u v' (zs++numB N)∧w.grownBy u none:=by
 have hB:=h.size;obtain ⟨g,cap,rfl,-,hr,hm⟩:=h.row;refine Calls.mono (specPutM g zs.length cap zs N w hr rfl hn) ?_;rintro e u ⟨g',cp,rfl,hg,hgs,hr',hcp⟩;refine ⟨_,rfl,?_,hg⟩;have:=Acc.of_row (B:=B) hr' (by omega) hcp;rw[lA] at this;exact this
theorem textA (B:Nat) (v:Value) (zs ts:List Int) (a:Option Addr) (m c:Nat) (w:World) (h:Acc B w v zs) (hR:∀ u,w.grownBy u none→Reads u a m ts) (hn:zs.length≤90000000) (hm:m≤40) :
  Calls Tryz.prog 80 #[v,.slice a m c] w fun e u=>∃ v',e = .returned v'∧Acc B u v' (zs++textB ts)∧w.grownBy u none:=by
 obtain ⟨i0,hi,hz0,hz1,hz2⟩:=info_parts info5;have hl':ts.length=m:=(hR w (grf _ _)).1;have hB:=h.size;rw[textB_fits (by omega),hl']
 have hmi:¬ (m:Int) > 40:=by omega
 obtain ⟨g0,cap,rfl,-,hrw,hcm⟩:=h.row;have CC:Hid _:=specPutM g0 zs.length cap zs (m:Int) w hrw rfl (by omega);have HS:Hid (B≤w.heap.size∧∀ u,w.grownBy u none→Reads u a m ts):=⟨hB,hR⟩;have hL:=numB_len (m:Int);have HE:Hid (ts.length=m):=hl';clear h hrw hR hl' hB;generalize hzl:zs.length=zl at *;have HZ:Hid (zs.length=zl):=hzl;clear hzl;go_enter Tryz.func80,Tryz.ntmps80;go_wp2_with fail;refine Calls.mono CC.out ?_;rintro e w1 ⟨g1,c1,rfl,hg1,hb1,hrow1,hc1⟩;clear CC;have HO:Hid (w1.ownsRow w.heap.size 5 1 (.slice (some ⟨g1,0,none⟩) (zl+(numB (m:Int)).length) c1) (zl+(numB (m:Int)).length) (vals (zs++numB (m:Int)))):=own_row hrow1 (by rw[lA,HZ.out]) hb1 hc1;have HRD:Hid (Reads w1 a m ts):=HS.out.2 _ hg1;have HS1:Hid (w.heap.size≤w1.heap.size):=hg1.size;have HB1:Hid (Below w.heap.size w w1):=(Below.refl _ _).grown hg1 (Nat.le_refl _) (by simp)
 have HM:Hid (zl+(numB (m:Int)).length+m≤200000000):=by show _≤_;omega
 have HQ:Hid (zl+(numB (m:Int)).length=(zs++numB (m:Int)).length):=by show _=_;rw[lA,HZ.out]
 clear hg1 hb1 hrow1 hc1 hL;generalize zl+(numB (m:Int)).length=zl2 at *;go_wp2_with (at_builtin;go_must (refine wpList_appR rfl (.tmp 14) (.tmp 15) 22 rfl w.heap.size i0 (.int .u8 0) Tryz.underlying22 hi hz0 hz1 hz2 rfl (.slice (some ⟨g1,0,none⟩) zl2 c1) zl2 (zs++numB (m:Int)) rfl HO.out a m c ts rfl HRD.out HM.out HS1.out ?_);intro v2 w2 hown2 hgrow2 hnil2);go_ret;have hb:=HB1.out.grown hgrow2 HS1.out (own_lt HO.out);refine ⟨v2,rfl,⟨?_,by intro e;have hh:=(hnil2.1 e).1;injection hh with h1;cases h1⟩,grown_of_below hb⟩
 have e1:zs++(numB (m:Int)++ts)=zs++numB (m:Int)++ts:=by simp
 have e2:zl2+m=(zs++numB (m:Int)++ts).length:=by rw[List.length_append (bs:=ts),← HQ.out,HE.out]
 rw[e1,← e2];exact ⟨hown2.1,hown2.2.imp id (fun ⟨g,cap,cur,e,hb',r⟩=>⟨g,cap,cur,e,Nat.le_trans HS.out.1 hb',r⟩)⟩
theorem lwF_cons2 {M:Nat} {k n:Int} {d r:F} (h:lwF M (.cons k n d r)=true):okT k n d=true∧lwF M r=true:=by
 rw[lwF_cons',bA9] at h;have h1:=h.1;unfold lwT at h1;rw[bA9] at h1;exact ⟨h1.1,h.2⟩
theorem l8tysT (W0:World) (M:Nat) (d:F) (a:Option Addr) (l c:Nat) (v:Value) (zs:List Int) (w:World) (h:SlF W0 a l d) (hb:Below W0.heap.size W0 w) (hA:Acc W0.heap.size w v zs) (hok:lwF M d=true) (hlen:zs.length+5+11 * d.size≤90000000) :
  Calls Tryz.prog 59 #[v,.slice a l c] w fun e u=>∃ v',e = .returned v'∧Acc W0.heap.size u v' (zs++(numB (d.len:Int)++bytesF d))∧Fr W0.heap.size w u:=by
 have hfl:=h.1;have hl:=h.2.1;have hB:=hA.size;have CC:Hid _:=putA W0.heap.size v zs (l:Int) w hA (by omega);have h5:=numB_len (l:Int);have HS:Hid (SlF W0 a l d∧Below W0.heap.size W0 w):=⟨h,hb⟩;clear h hb hA;go_enter Tryz.func59,Tryz.ntmps59;go_wp2_with fail;refine Calls.mono CC.out ?_;rintro e w1 ⟨v1,rfl,hA1,hg1⟩;have AL:Hid (Acc W0.heap.size w1 v1 (zs++numB (l:Int))∧Fr W0.heap.size w w1):=⟨hA1,Fr.grown hg1 hB⟩;clear CC hA1 hg1;simp only[];rcases HS.out.1.cases with ⟨rfl,rfl⟩|⟨b,o,rfl,hin,-,hpos⟩
 ·
  have FIN:Hid (Acc W0.heap.size w1 v1 (zs++(numB ((F.nil).len:Int)++bytesF .nil))):=by
   show Acc _ _ _ _
   have e:zs++(numB ((F.nil).len:Int)++bytesF .nil)=zs++numB ((0:Nat):Int):=by simp [bytesF,F.len]
   rw[e];exact AL.out.1
  go_wp2;refine wp_loop_rounds 1 ?_;rw[rounds_succ];go_wp2;go_ret;exact ⟨_,rfl,FIN.out,AL.out.2⟩
 have IN:Hid (InF W0 d b o):=hin;have HB:Hid (Below W0.heap.size W0 w):=HS.out.2;clear hin HS;go_wp2
 go_loopw [0,5] (fun v i wr=>∃ (j:Nat) (R:F) (pre:List Int),j≤l∧i = .int .i64 j∧R.len+j=l∧Hid (InF W0 R b (o+j * 3))∧Hid (Acc W0.heap.size wr v (zs++pre))∧Hid (pre++bytesF R=numB (d.len:Int)++bytesF d)∧Hid (Fr W0.heap.size w wr)∧Hid (zs.length+pre.length+11 * R.size≤90000000)∧Hid (lwF M R=true)) (fun _ i _=>l - (intOf i).toNat)
 case atStart=>exact ⟨0,d,numB (l:Int),Nat.zero_le _,rfl,by omega,by simpa using IN,AL.out.1,by show _=_;rw[hfl],AL.out.2,by show _≤_;omega,hok⟩
 case round =>
  clear AL;obtain ⟨j,R,pre,hj,rfl,hRl,hR,hA,hP,hFr,hN,hokR⟩:=hrel;by_cases hlt:j < l
  ·
   obtain ⟨q1,hq1⟩:∃ q,R.len=q+1:=⟨R.len - 1,by omega⟩;obtain ⟨kk,nn,d',R',rfl,hR'⟩:=F.cons_of_len hq1;have hbw:=HB.out.trans hFr.out.below;obtain ⟨a',l',c',-,-,-,hd,hR2⟩:=hR.out.out;obtain ⟨a2,l2,c2,z0,z1,z2,hd2,-⟩:=(hR.out.below hbw).out;obtain ⟨hokT,hokr⟩:=lwF_cons2 hokR.out
   have e3:o+j * 3+3=o+(j+1) * 3:=by omega
   rw[e3] at hR2;have hNN:=hN.out;simp only[F.size] at hNN;obtain ⟨a3,l3,c3,w0',w1',w2',hd3,-⟩:=hR.out.out;have hlt0:=block_lt_of_cell w2';have e5:=(hbw.cell (p:=⟨b,o+j * 3+2,none⟩) hlt0).trans w2';rw[z2] at e5;injection e5 with e5;injection e5 with e6 e7 e8;subst e6 e7 e8;simp only[okT,bA9,dE9] at hokT;have CC:Hid _:=l3bytesT W0 (d'.size+1) d' kk nn a2 l2 c2 u0 (zs++pre) wr 9 (by omega) hd3 hbw (by have:=hA.out.1;exact this) (by rw[← hd3.1];exact hokT.1.1) hokT.1.2 (by rw[lA];omega)
   have FX:Hid (InF W0 R' b (o+(j+1) * 3)∧lwF M R' = true∧zs.length+(pre++tyB kk nn d').length+11 * R'.size≤90000000∧(pre++tyB kk nn d')++bytesF R' = numB (d.len:Int)++bytesF d):=by
    refine ⟨hR2,hokr,?_,?_⟩
    ·
     have h1:=headB_len kk nn d'.len;have h2:=bytesF_len d';rw[lA,tyB,lA];omega
    ·
     rw[← hP.out,bytesF,tyB];simp only[lD9]
   clear hR hR2 hd hd2 hd3 hP hbw hokT hokr w0' w1' w2' hN hNN hokR IN;go_wp2_with fail;refine Calls.mono CC.out ?_;rintro e u ⟨v',rfl,hA2,hF2⟩
   have AC:Hid (Acc W0.heap.size u v' (zs++(pre++tyB kk nn d'))):=by show Acc _ _ _ _;rw[← lD9];exact hA2
   have FR:Hid (Fr W0.heap.size w u):=hFr.out.trans hF2;clear hA2 hF2 CC z0 z1 z2 hFr hA;simp only[];go_wp2;go_roundw
   case rel=>exact ⟨j+1,R',pre++tyB kk nn d',by omega,by go_num,by omega,FX.out.1,AC,FX.out.2.2.2,FR,FX.out.2.2.1,FX.out.2.1⟩
   case measure=>simp [intOf];omega
  ·
   obtain rfl:j=l:=by omega
   obtain rfl:R = .nil:=F.nil_of_len (by omega)
   have FIN:Hid (Acc W0.heap.size wr u0 (zs++(numB (d.len:Int)++bytesF d))):=by
    show Acc _ _ _ _
    have e:=hP.out;simp only[bytesF,List.append_nil] at e;rw[← e];exact hA.out
   clear hP hA;go_wp2;go_ret;exact ⟨_,rfl,FIN.out,hFr.out⟩
theorem insB_1 {x:RIns} (h:x.op=1):insB x=x.op::numB (foldV x.a):=by
 unfold insB;rw[h];simp
theorem insB_a {x:RIns} (h:hasA x.op=true) (h1:x.op≠1) (h2:x.op≠21) (h3:x.op≠22):insB x=x.op::numB x.a:=by
 have h4:x.op≠2:=by intro e;rw[e] at h;exact absurd h (by decide)
 unfold insB;rw[h,if_neg h1,if_neg h2,if_neg h3,if_neg h4];simp
theorem insB_0 {x:RIns} (h:hasA x.op=false) (h4:x.op≠2):insB x=[x.op]:=by
 have h1:x.op≠1:=by intro e;rw[e] at h;exact absurd h (by decide)
 have h2:x.op≠21:=by intro e;rw[e] at h;exact absurd h (by decide)
 have h3:x.op≠22:=by intro e;rw[e] at h;exact absurd h (by decide)
 unfold insB;rw[h,if_neg h1,if_neg h2,if_neg h3,if_neg h4];simp
theorem insB_2 {x:RIns} (h:x.op=2):insB x=x.op::textB x.lit:=by
 unfold insB;rw[h];simp [hasA]
theorem insB_21 {x:RIns} (h:x.op=21):insB x=x.op::(numB x.a++numB x.b):=by
 unfold insB;rw[h];simp [hasA]
theorem insB_22 {x:RIns} (h:x.op=22):insB x=x.op::(numB x.a++(numB (x.tos.length:Int)++numsB x.tos)):=by
 unfold insB;rw[h];simp [hasA]
theorem l8insT (W0:World) (x:RIns) (a1:Option Addr) (l1 c1:Nat) (a2:Option Addr) (l2 c2:Nat) (v:Value) (zs:List Int) (w:World) (h:RdIns W0 x a1 l1 a2 l2) (hb:Below W0.heap.size W0 w) (hA:Acc W0.heap.size w v zs) (hv:insV x=true) (hlen:zs.length≤80000000) :
  Calls Tryz.prog 61 #[v,.agg #[.int .i64 x.op,.int .i64 x.a,.int .i64 x.b,.slice a1 l1 c1,.slice a2 l2 c2]] w fun e u=>∃ v',e = .returned v'∧Acc W0.heap.size u v' (zs++insB x)∧Fr W0.heap.size w u:=by
 obtain ⟨i0,hi,hz0,hz1,hz2⟩:=info_parts info5;obtain ⟨hop,hto,hli⟩:=ins_facts hv;have hB:=hA.size;have g0:=gal w (.cells #[.int .i64 x.op,.int .i64 x.a,.int .i64 x.b,.slice a1 l1 c1,.slice a2 l2 c2] 52) none;have b0:=hnw w (.cells #[.int .i64 x.op,.int .i64 x.a,.int .i64 x.b,.slice a1 l1 c1,.slice a2 l2 c2] 52);have ho1:=hA.1.kept g0 (Classical.em _);have HO:Hid (World.ownsRow _ W0.heap.size 5 1 v zs.length (vals zs)):=ho1
 have E1:Hid (zs.length+1≤maxLen):=by show _≤_;unfold maxLen;omega
 have E2:Hid ((zs.length+1) * 1≤140737488355328):=by show _≤_;omega
 have E3:∀ o,Hid (W0.heap.size≤((w.alloc (.cells #[.int .i64 x.op,.int .i64 x.a,.int .i64 x.b,.slice a1 l1 c1,.slice a2 l2 c2] 52)).alloc o).heap.size):=by intro o;show _≤_;simp;omega
 have hkw:IntKind.u8.wrap x.op=x.op:=IntWalk.u8_in x.op (by omega)
 have HC:Hid (∀ j u,[Value.int .u8 x.op][j]? = some u→((w.alloc (.cells #[.int .i64 x.op,.int .i64 x.a,.int .i64 x.b,.slice a1 l1 c1,.slice a2 l2 c2] 52)).alloc (.cells #[.int .u8 x.op] 5)).cell? ((⟨w.heap.size+1,0,none⟩:Addr).add j)=some u):=by
  have e:(w.alloc (.cells #[.int .i64 x.op,.int .i64 x.a,.int .i64 x.b,.slice a1 l1 c1,.slice a2 l2 c2] 52)).heap.size=w.heap.size+1:=by simp
  have hc:=cell_one_new (w.alloc (.cells #[.int .i64 x.op,.int .i64 x.a,.int .i64 x.b,.slice a1 l1 c1,.slice a2 l2 c2] 52)) (.int .u8 x.op) 5;rw[e] at hc;exact hc
 have HS:Hid (RdIns W0 x a1 l1 a2 l2∧Below W0.heap.size W0 w):=⟨h,hb⟩;have HX:Hid ((x.op=22→x.tos.length≤5)∧(x.op=2→x.lit.length≤20)):=⟨hto,hli⟩;have FX:Hid (w.grownBy _ none∧_=some (Obj.cells #[.int .i64 x.op,.int .i64 x.a,.int .i64 x.b,.slice a1 l1 c1,.slice a2 l2 c2] 52)∧W0.heap.size≤w.heap.size):=⟨g0,b0,hB⟩;obtain ⟨⟨y0,y1,y2,y3,y4⟩,-⟩:=blk5 b0;clear h hb g0 b0 hB ho1 hv hto hli hA;go_enter Tryz.func61,Tryz.ntmps61;go_upto_region 2 with (at_builtin;go_must (refine wpList_append_own _ rfl (.tmp 6) (.tmp 10) 22 rfl W0.heap.size 5 i0 (.int .u8 0) 1 1 Tryz.underlying22 hi hz0 hz1 hz2 rfl (by decide) v zs.length (vals zs) rfl (HO.out.alloc _) ⟨w.heap.size+1,0,none⟩ 1 1 [.int .u8 x.op] rfl rfl HC.out (by simp [Value.oneCell']) E1.out E2.out (E3 _).out ?_);intro v1 w1 hown1 hgrow1 hnil1)
 have hA1:Hid (Acc W0.heap.size w1 v1 (zs++[x.op])):=by
  refine And.intro ?_ (fun e=>by have:=(hnil1.1 e).2;omega);have e:=own_step hown1;simpa using e
 have FY:Hid (Fr W0.heap.size w w1∧w1.heap[w.heap.size]? = some (Obj.cells #[.int .i64 x.op,.int .i64 x.a,.int .i64 x.b,.slice a1 l1 c1,.slice a2 l2 c2] 52)):=by
  obtain ⟨g0,b0,hB⟩:=FX.out;have ga:=gal (w.alloc (.cells #[.int .i64 x.op,.int .i64 x.a,.int .i64 x.b,.slice a1 l1 c1,.slice a2 l2 c2] 52)) (.cells #[.int .u8 x.op] 5) none;have f1:=Fr.own hgrow1 (HO.out.alloc _) (E3 _).out;exact ⟨(Fr.grown (gtr g0 ga) hB).trans f1,f1.other _ _ _ _ ((ga.block _ (lbk b0) (by simp)).trans b0) (by decide)⟩
 clear hown1 hgrow1 hnil1 HC HO E1 E2 E3 hi hz0 hz1 hz2 FX y0 y1 y2 y3 y4 hkw;generalize w.heap.size=q at *;obtain ⟨⟨y0,y1,y2,y3,y4⟩,-⟩:=blk5 FY.out.2;by_cases h2:x.op=2
 ·
  have HPV:Hid (partV x.op=4):=by show _=_;rw[h2];rfl
  have HIB:Hid (insB x=x.op::textB x.lit):=insB_2 h2
  have hm:l1≤40:=by have:=HX.out.2 h2;have:=HS.out.1.1.1.1;omega
  have HR:Hid (∀ u,w1.grownBy u none→Reads u a1 l1 x.lit):=fun u hu=>((HS.out.1.1.le (cle_below (HS.out.2.trans FY.out.1.below))).none hu).1
  have CT:Hid _:=textA W0.heap.size v1 (zs++[x.op]) x.lit a1 l1 c1 w1 hA1.out HR.out (by simp only[lA,lB,lC];omega) hm;clear h2;go_wp2_with fail;refine Calls.mono (l8partsT x.op w1) ?_;rintro e u ⟨he,hu⟩;obtain rfl:w1=u:=hu.symm;clear hu;rw[show partV x.op=4 from HPV.out] at he;subst he;clear HPV;simp only[];go_wp2_with fail;refine Calls.mono CT.out ?_;rintro e u2 ⟨v2,rfl,hA2,hg2⟩;have FIN:Hid (Acc W0.heap.size u2 v2 (zs++insB x)∧Fr W0.heap.size w u2):=⟨by rw[HIB.out];simpa using hA2,FY.out.1.trans (Fr.grown hg2 hA1.out.size)⟩;clear CT hA2 hg2 y0 y1 y2 y3 y4;simp only[];go_wp2;go_ret;exact ⟨_,rfl,FIN.out.1,FIN.out.2⟩
 by_cases h21:x.op=21
 ·
  have HPV:Hid (partV x.op=2):=by show _=_;rw[h21];rfl
  have HIB:Hid (insB x=x.op::(numB x.a++numB x.b)):=insB_21 h21;clear h2 h21;go_wp2_with fail;refine Calls.mono (l8partsT x.op w1) ?_;rintro e u ⟨he,hu⟩;obtain rfl:w1=u:=hu.symm;clear hu;rw[show partV x.op=2 from HPV.out] at he;subst he;clear HPV;simp only[];go_upto_region 8 with fail;have gd:=grown_drew (grf w1 none);obtain ⟨w2,hw2⟩:∃ u,u=w1.drew:=⟨_,rfl⟩
  have L1:Hid (Acc W0.heap.size w2 v1 (zs++[x.op])∧Fr W0.heap.size w w2∧w2.heap[q]? = some (Obj.cells #[.int .i64 x.op,.int .i64 x.a,.int .i64 x.b,.slice a1 l1 c1,.slice a2 l2 c2] 52)):=by rw[hw2];exact ⟨hA1.out.fr gd,FY.out.1.trans (Fr.grown gd hA1.out.size),(gd.block _ (lbk FY.out.2) (by simp)).trans FY.out.2⟩
  have SK:Hid (∀ u,w2.grownBy u none→(fun u:World=>u.cell? ⟨q,0,none⟩=some (.int .i64 x.op)∧u.cell? ⟨q,1,none⟩=some (.int .i64 x.a)∧u.cell? ⟨q,2,none⟩=some (.int .i64 x.b)∧u.cell? ⟨q,3,none⟩=some (.slice a1 l1 c1)∧u.cell? ⟨q,4,none⟩=some (.slice a2 l2 c2)) u):=fun u hu=>(blk5 ((hu.block _ (lbk L1.out.2.2) (by simp)).trans L1.out.2.2)).1
  have h5a:=numB_len x.a;clear gd hA1 FY y0 y1 y2 y3 y4;refine wp_region_held_drew (S:=(fun u:World=>u.cell? ⟨q,0,none⟩=some (.int .i64 x.op)∧u.cell? ⟨q,1,none⟩=some (.int .i64 x.a)∧u.cell? ⟨q,2,none⟩=some (.int .i64 x.b)∧u.cell? ⟨q,3,none⟩=some (.slice a1 l1 c1)∧u.cell? ⟨q,4,none⟩=some (.slice a2 l2 c2))) (by kernel_rfl) (by rw[← hw2];exact SK.out _ (grf _ _)) (fun hH=>?_);rw[← hw2] at hH ⊢;clear hw2;simp only[sA9,lB,lC,Nat.reduceAdd,Array.replicate,List.replicate];refine tk 0 ?_;refine tk 1 ?_;refine tk 2 ?_;refine tk 4 ?_;refine tk 5 ?_;have CA:=putA W0.heap.size v1 (zs++[x.op]) x.a w2 L1.out.1 (by simp only[lA,lB,lC];omega);refine rd 3 rfl (fun K hK=>?_);go_simp;refine Calls.mono CA ?_;rintro e u2 ⟨v2,he,hA2,hg2⟩;subst he;have L2:Hid (Acc W0.heap.size u2 v2 (zs++[x.op]++numB x.a)∧w2.grownBy u2 none):=⟨hA2,hg2⟩;clear CA hA2 hg2;refine hK.out _ _ (SK.out _ L2.out.2) ?_;clear hK K hH;intro hH
  simp only[Act.put,nA,nB,nC,nD,nE,nF];have CB:=putA W0.heap.size v2 (zs++[x.op]++numB x.a) x.b u2 L2.out.1 (by simp only[lA,lB,lC];omega);refine rd 6 rfl (fun K hK=>?_);go_simp;refine Calls.mono CB ?_;rintro e u3 ⟨v3,he,hA2,hg2⟩;subst he;have L3:Hid (Acc W0.heap.size u3 v3 (zs++[x.op]++numB x.a++numB x.b)∧w2.grownBy u3 none):=⟨hA2,gtr L2.out.2 hg2⟩;clear CB hA2 hg2;refine hK.out _ _ (SK.out _ L3.out.2) ?_;clear hK K hH;intro hH;simp only[Act.put,nA,nB,nC,nD,nE,nF];refine tk 7 ?_;refine wpAnyH_done (by kernel_rfl) ?_ _;clear hH;have FIN:Hid (Acc W0.heap.size u3 v3 (zs++insB x)∧Fr W0.heap.size w u3):=⟨by rw[HIB.out];simpa using L3.out.1,L1.out.2.1.trans (Fr.grown L3.out.2 L1.out.1.size)⟩;go_wp2;go_ret;exact ⟨_,rfl,FIN.out.1,FIN.out.2⟩
 by_cases h22:x.op=22
 ·
  have HPV:Hid (partV x.op=3):=by show _=_;rw[h22];rfl
  have HIB:Hid (insB x=x.op::(numB x.a++(numB (x.tos.length:Int)++numsB x.tos))):=insB_22 h22
  have hl2:l2≤5:=by have:=HX.out.1 h22;have:=HS.out.1.2.1.1;omega
  have hl2':x.tos.length=l2:=HS.out.1.2.1.1;clear h2 h21 h22;go_wp2_with fail;refine Calls.mono (l8partsT x.op w1) ?_;rintro e u ⟨he,hu⟩;obtain rfl:w1=u:=hu.symm;clear hu;rw[show partV x.op=3 from HPV.out] at he;subst he;clear HPV;simp only[];go_upto_region 10 with fail;have gd:=grown_drew (grf w1 none);obtain ⟨w2,hw2⟩:∃ u,u=w1.drew:=⟨_,rfl⟩
  have L1:Hid (Acc W0.heap.size w2 v1 (zs++[x.op])∧Fr W0.heap.size w w2∧w2.heap[q]? = some (Obj.cells #[.int .i64 x.op,.int .i64 x.a,.int .i64 x.b,.slice a1 l1 c1,.slice a2 l2 c2] 52)):=by rw[hw2];exact ⟨hA1.out.fr gd,FY.out.1.trans (Fr.grown gd hA1.out.size),(gd.block _ (lbk FY.out.2) (by simp)).trans FY.out.2⟩
  have SK:Hid (∀ u,w2.grownBy u none→(fun u:World=>u.cell? ⟨q,0,none⟩=some (.int .i64 x.op)∧u.cell? ⟨q,1,none⟩=some (.int .i64 x.a)∧u.cell? ⟨q,2,none⟩=some (.int .i64 x.b)∧u.cell? ⟨q,3,none⟩=some (.slice a1 l1 c1)∧u.cell? ⟨q,4,none⟩=some (.slice a2 l2 c2)) u):=fun u hu=>(blk5 ((hu.block _ (lbk L1.out.2.2) (by simp)).trans L1.out.2.2)).1
  have h5a:=numB_len x.a;have h5b:=numB_len (l2:Int);clear gd hA1 FY y0 y1 y2 y3 y4;refine wp_region_held_drew (S:=(fun u:World=>u.cell? ⟨q,0,none⟩=some (.int .i64 x.op)∧u.cell? ⟨q,1,none⟩=some (.int .i64 x.a)∧u.cell? ⟨q,2,none⟩=some (.int .i64 x.b)∧u.cell? ⟨q,3,none⟩=some (.slice a1 l1 c1)∧u.cell? ⟨q,4,none⟩=some (.slice a2 l2 c2))) (by kernel_rfl) (by rw[← hw2];exact SK.out _ (grf _ _)) (fun hH=>?_);rw[← hw2] at hH ⊢;clear hw2;simp only[sA9,lB,lC,Nat.reduceAdd,Array.replicate,List.replicate];refine tk 0 ?_;refine tk 1 ?_;refine tk 2 ?_;refine tk 4 ?_;refine tk 5 ?_;refine tk 6 ?_;have CA:=putA W0.heap.size v1 (zs++[x.op]) x.a w2 L1.out.1 (by simp only[lA,lB,lC];omega);refine rd 3 rfl (fun K hK=>?_);go_simp;refine Calls.mono CA ?_;rintro e u2 ⟨v2,he,hA2,hg2⟩;subst he;have L2:Hid (Acc W0.heap.size u2 v2 (zs++[x.op]++numB x.a)∧w2.grownBy u2 none):=⟨hA2,hg2⟩;clear CA hA2 hg2;refine hK.out _ _ (SK.out _ L2.out.2) ?_
  clear hK K hH;intro hH;simp only[Act.put,nA,nB,nC,nD,nE,nF];have CB:=putA W0.heap.size v2 (zs++[x.op]++numB x.a) (l2:Int) u2 L2.out.1 (by simp only[lA,lB,lC];omega);refine rd 7 rfl (fun K hK=>?_);go_simp;refine Calls.mono CB ?_;rintro e u3 ⟨v3,he,hA2,hg2⟩;subst he;have L3:Hid (Acc W0.heap.size u3 v3 (zs++[x.op]++numB x.a++numB (l2:Int))∧w2.grownBy u3 none):=⟨hA2,gtr L2.out.2 hg2⟩;clear CB hA2 hg2;refine hK.out _ _ (SK.out _ L3.out.2) ?_;clear hK K hH;intro hH;simp only[Act.put,nA,nB,nC,nD,nE,nF];refine tk 8 ?_;refine wpAnyH_done (by kernel_rfl) ?_ _;clear hH;obtain ⟨zs3,hz3⟩:∃ z,z=zs++[x.op]++numB x.a++numB (l2:Int):=⟨_,rfl⟩
  have HZ3:Hid (zs++insB x=zs3++numsB x.tos∧zs3.length≤80000100):=by
   refine ⟨?_,?_⟩
   ·
    rw[HIB.out,hz3,hl2'];simp
   ·
    rw[hz3];simp only[lA,lB,lC];omega
  have L4:Hid (Acc W0.heap.size u3 v3 zs3∧Fr W0.heap.size w u3∧u3.heap[q]? = some (Obj.cells #[.int .i64 x.op,.int .i64 x.a,.int .i64 x.b,.slice a1 l1 c1,.slice a2 l2 c2] 52)):=⟨by rw[hz3];exact L3.out.1,L1.out.2.1.trans (Fr.grown L3.out.2 L1.out.1.size),(L3.out.2.block _ (lbk L1.out.2.2) (by simp)).trans L1.out.2.2⟩
  have HRT:Hid (∀ u,Fr W0.heap.size w u→RdI u a2 l2 x.tos):=fun u hu=>HS.out.1.2.le (cle_below (HS.out.2.trans hu.below))
  clear L1 L2 L3 hz3 SK h5a h5b HIB HS;obtain ⟨⟨y0,y1,y2,y3,y4⟩,-⟩:=blk5 L4.out.2.2;go_wp2;clear y0 y1 y2 y3 y4
  go_loopw [0,5] (fun v i wr=>∃ (j:Nat) (pre R:List Int),j≤l2∧i = .int .i64 j∧R.length+j=l2∧Hid (Acc W0.heap.size wr v (zs3++numsB pre)∧Fr W0.heap.size w wr∧wr.heap[q]? = some (Obj.cells #[.int .i64 x.op,.int .i64 x.a,.int .i64 x.b,.slice a1 l1 c1,.slice a2 l2 c2] 52)∧pre++R=x.tos)) (fun _ i _=>l2 - (intOf i).toNat)
  case atStart=>exact ⟨0,[],x.tos,Nat.zero_le _,rfl,by omega,by simpa [numsB] using L4.out.1,L4.out.2.1,L4.out.2.2,rfl⟩
  case round =>
   clear L4;obtain ⟨j,pre,R,hj,rfl,hRl,HR⟩:=hrel;obtain ⟨⟨y0,y1,y2,y3,y4⟩,-⟩:=blk5 HR.out.2.2.1;by_cases hlt:j < l2
   ·
    obtain ⟨z,R',rfl⟩:∃ x R',R=x::R':=by
     cases R with
     | nil=>simp at hRl;omega
     | cons x R'=>exact ⟨x,R',rfl⟩
    obtain ⟨hA2,hF2,hbx,hcs⟩:=HR.out;simp only[lB] at hRl
    obtain ⟨b,o,rfl,hc⟩:∃ b o,a2=some ⟨b,o,none⟩∧∀ i,i < l2→wr.cell? ⟨b,o+i,none⟩=some (.int .i64 (x.tos.getD i 0)):=by
     rcases (HRT.out _ hF2).1.2 with h|h
     ·
      omega
     ·
      exact h
    have hpl:pre.length=j:=by have:=congrArg List.length hcs;simp at this;omega
    have k0:=hc j hlt;rw[show x.tos.getD j 0=z by rw[← hcs,List.getD_eq_getElem?_getD,List.getElem?_append_right (by omega),hpl,Nat.sub_self];rfl] at k0;have hn5:=numsB_len pre;have CC:Hid _:=putA W0.heap.size u0 (zs3++numsB pre) z wr hA2 (by have:=HZ3.out.2;rw[lA];omega);have FZ:Hid (Fr W0.heap.size w wr∧wr.heap[q]? = some (Obj.cells #[.int .i64 x.op,.int .i64 x.a,.int .i64 x.b,.slice a1 l1 c1,.slice (some ⟨b,o,none⟩) l2 c2] 52)∧(pre++[z])++R' = x.tos∧W0.heap.size≤wr.heap.size):=⟨hF2,hbx,by rw[lD9];exact hcs,hA2.size⟩;clear hA2 hF2 hbx hcs hc HR hn5;go_wp2_with fail;refine Calls.mono CC.out ?_;rintro e u2 ⟨v2,rfl,hA2,hg2⟩;have FW:Hid (Acc W0.heap.size u2 v2 (zs3++numsB (pre++[z]))∧Fr W0.heap.size w u2∧u2.heap[q]? = some (Obj.cells #[.int .i64 x.op,.int .i64 x.a,.int .i64 x.b,.slice a1 l1 c1,.slice (some ⟨b,o,none⟩) l2 c2] 52)):=⟨by rw[numsB_app,← lD9];simpa [numsB] using hA2,FZ.out.1.trans (Fr.grown hg2 FZ.out.2.2.2),(hg2.block _ (lbk FZ.out.2.1) (by simp)).trans FZ.out.2.1⟩
    clear CC hA2 hg2 y0 y1 y2 y3 y4 k0;simp only[];go_wp2;go_roundw
    case rel=>exact ⟨j+1,pre++[z],R',by omega,by go_num,by omega,FW.out.1,FW.out.2.1,FW.out.2.2,FZ.out.2.2.1⟩
    case measure=>simp [intOf];omega
   ·
    obtain rfl:j=l2:=by omega
    obtain rfl:R=[]:=lz0 (by omega);have FIN:Hid (Acc W0.heap.size wr u0 (zs++insB x)∧Fr W0.heap.size w wr):=⟨by have:=HR.out.1;rw[HZ3.out.1];have e:=HR.out.2.2.2;rw[List.append_nil] at e;rw[← e];exact this,HR.out.2.1⟩;clear HR;go_wp2;go_ret;exact ⟨_,rfl,FIN.out.1,FIN.out.2⟩
 by_cases h1:x.op=1
 ·
  have HPV:Hid (partV x.op=1):=by show _=_;rw[h1];rfl
  have HIB:Hid (insB x=x.op::numB (foldV x.a)):=insB_1 h1
  have hb1:(x.op == 1)=true:=by simpa using h1
  have CF:Hid _:=specFoldT x.a w1;clear h2 h21 h22 h1;go_wp2_with fail;refine Calls.mono (l8partsT x.op w1) ?_;rintro e u ⟨he,hu⟩;obtain rfl:w1=u:=hu.symm;clear hu;rw[show partV x.op=1 from HPV.out] at he;subst he;clear HPV;simp only[];go_wp2_with fail;refine Calls.mono CF.out ?_;rintro e u ⟨he,hg⟩;subst he;have L2:Hid (Acc W0.heap.size u v1 (zs++[x.op])∧Fr W0.heap.size w u):=⟨hA1.out.fr hg,FY.out.1.trans (Fr.grown hg hA1.out.size)⟩;have CC:Hid _:=putA W0.heap.size v1 (zs++[x.op]) (foldV x.a) u L2.out.1 (by simp only[lA,lB,lC];omega);clear CF hg y0 y1 y2 y3 y4;simp only[];go_wp2_with fail;refine Calls.mono CC.out ?_;rintro e u2 ⟨v2,rfl,hA2,hg2⟩;have FIN:Hid (Acc W0.heap.size u2 v2 (zs++insB x)∧Fr W0.heap.size w u2):=⟨by rw[HIB.out];simpa using hA2,L2.out.2.trans (Fr.grown hg2 L2.out.1.size)⟩;clear CC hA2 hg2;simp only[];go_wp2;go_ret;exact ⟨_,rfl,FIN.out.1,FIN.out.2⟩
 have hb1:(x.op == 1)=false:=by simpa using h1
 cases hh:hasA x.op with
 | true =>
  have HPV:Hid (partV x.op=1):=by show _=_;unfold partV;rw[if_neg h22,if_neg h21,if_neg h2,hh];rfl
  have HIB:Hid (insB x=x.op::numB x.a):=insB_a hh h1 h21 h22;have CC:Hid _:=putA W0.heap.size v1 (zs++[x.op]) x.a w1 hA1.out (by simp only[lA,lB,lC];omega);clear h2 h21 h22 hh;go_wp2_with fail;refine Calls.mono (l8partsT x.op w1) ?_;rintro e u ⟨he,hu⟩;obtain rfl:w1=u:=hu.symm;clear hu;rw[show partV x.op=1 from HPV.out] at he;subst he;clear HPV;simp only[];go_wp2_with fail;refine Calls.mono CC.out ?_;rintro e u2 ⟨v2,rfl,hA2,hg2⟩;have FIN:Hid (Acc W0.heap.size u2 v2 (zs++insB x)∧Fr W0.heap.size w u2):=⟨by rw[HIB.out];simpa using hA2,FY.out.1.trans (Fr.grown hg2 hA1.out.size)⟩;clear CC hA2 hg2 y0 y1 y2 y3 y4;simp only[];go_wp2;go_ret;exact ⟨_,rfl,FIN.out.1,FIN.out.2⟩
 | false =>
  have HPV:Hid (partV x.op=0):=by show _=_;unfold partV;rw[if_neg h22,if_neg h21,if_neg h2,hh];rfl
  have HIB:Hid (insB x=[x.op]):=insB_0 hh h2;clear h2 h21 h22 hh;go_wp2_with fail;refine Calls.mono (l8partsT x.op w1) ?_;rintro e u ⟨he,hu⟩;obtain rfl:w1=u:=hu.symm;clear hu;rw[show partV x.op=0 from HPV.out] at he;subst he;clear HPV;simp only[];have FIN:Hid (Acc W0.heap.size w1 v1 (zs++insB x)∧Fr W0.heap.size w w1):=⟨by rw[HIB.out];exact hA1.out,FY.out.1⟩;clear y0 y1 y2 y3 y4;go_wp2;go_ret;exact ⟨_,rfl,FIN.out.1,FIN.out.2⟩
end Go.Proofs.YtnmlbeefjjohfaaGreatDoor.By
