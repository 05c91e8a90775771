/-
  No statement is proved here.
-/
import Derived.Test.YtnmlbeefjjohfaaGreatDoorCM0AlsoSh
namespace Go.Proofs.YtnmlbeefjjohfaaGreatDoor.By
set_option maxRecDepth 100000
set_option maxHeartbeats 16000000
open Go.RowKit
set_option linter.unusedVariables false
set_option linter.unusedSimpArgs false
def CRd (w:World) (q g N:Nat) (p:Int):Prop:=w.heap[q]? = some (.cells #[.slice (some ⟨g,0,none⟩) N N,.int .i64 p] 56 (0,0))
theorem two {w:World} {g:Nat} {t:TypeId} {c0 c1:Value} (h:w.heap[g]? = some (.cells #[c0,c1] t (0,0))) :
  (w.cell? ⟨g,0,none⟩=some c0∧w.cell? ⟨g,1,none⟩=some c1)∧(w.frozen? ⟨g,0,none⟩=false∧w.frozen? ⟨g,1,none⟩=false):=by
 refine ⟨⟨?_,?_⟩,frozen_of_row w g _ _ t h,frozen_of_row w g _ _ t h⟩ <;> (rw[cell_of_row w g _ _ t (0,0) h];rfl)
theorem CRd.old {w u:World} {q g N:Nat} {p:Int} (h:CRd w q g N p) (hg:w.grownBy u none):CRd u q g N p:=(hg.block _ (lbk h) (by simp)).trans h
theorem CRd.put {w:World} {q g N:Nat} {p:Int} (h:CRd w q g N p) (x:Int):CRd (w.setCell ⟨q,1,none⟩ (.int .i64 x)) q g N x:=hsm w q 1 _ _ _ h
def Byq (w:World) (q g N:Nat) (zs:List Int):Prop:=Row w g N zs∧zs.length=N∧Byt zs∧N≤30000∧g≠q
theorem Byq.to {w u:World} {q g N:Nat} {zs:List Int} (h:Byq w q g N zs) (hg:w.grownBy u (some q)):Byq u q g N zs:=⟨h.1.kept hg (by simpa using h.2.2.2.2),h.2⟩
theorem Byq.old {w u:World} {q g N:Nat} {zs:List Int} (h:Byq w q g N zs) (hg:w.grownBy u none):Byq u q g N zs:=⟨h.1.kept hg (by simp),h.2⟩
theorem numC (q g N:Nat) (zs:List Int) (p:Int) (w:World) (hB:Byq w q g N zs) (b:CRd w q g N p) (hp:p≤9223372036854775807) :
  Calls Tryz.prog 40 #[.pointer (some ⟨q,0,none⟩)] w fun e u=>e = .returned (.int .i64 (getNum zs p).1)∧w.grownBy u (some q)∧CRd u q g N (getNum zs p).2:=by
 have CC:Hid _:=fun u (hu:w.grownBy u none)=>implGet2 (some ⟨g,0,none⟩) N N zs p u ((hB.old hu).1.reads' hB.2.1) hB.2.2.1 (by have:=hB.2.2.2.1;omega) hp
 have HB:Hid _:=b;obtain ⟨⟨z0,z1⟩,h0,h3⟩:=two b;clear hB b;go_enter Tryz.func40,Tryz.ntmps40;go_wp2_with fail;have L1:Hid (w.grownBy w.drew none∧CRd w.drew q g N p):=⟨grown_drew (grf w none),CRd.old HB.out (grown_drew (grf w none))⟩;refine wp_region_held_drew (S:=(fun u0=>u0.cell? ⟨q,0,none⟩=some (.slice (some ⟨g,0,none⟩) N N)∧u0.cell? ⟨q,1,none⟩=some (.int .i64 p))) (by kernel_rfl) (two L1.out.2).1 (fun hH=>?_);generalize w.drew=u0 at *;simp only[sA9,lB,lC,Nat.reduceAdd,Array.replicate,List.replicate];refine tk 0 ?_;refine tk 1 ?_;refine tk 2 ?_;refine tk 3 ?_;refine tk 4 ?_;refine tk 5 ?_;refine tk 6 ?_;refine tk 7 ?_;refine rd 8 rfl (fun K hK=>?_);go_simp;refine Calls.mono (CC.out u0 L1.out.1) ?_;rintro e u ⟨rfl,hg⟩;have b1:=L1.out.2.old hg;have LQ:Hid (w.grownBy u none∧CRd u q g N p):=⟨gtr L1.out.1 hg,b1⟩;refine hK.out _ _ (two b1).1 (fun hH2=>?_);clear hK K hH;have hH:=hH2;clear hH2 hg L1 b1 CC HB z0 z1 h0 h3
 simp only[Act.put,nA,nB,nC,nD,nE,nF];refine tk 9 ?_;refine tk 10 ?_;refine tk 11 ?_;refine tk 12 ?_;refine tk 13 ?_;refine wpAnyH_done (by kernel_rfl) ?_ _;have FQ:Hid (CRd (u.setCell ⟨q,1,none⟩ (.int .i64 (getNum zs p).2)) q g N (getNum zs p).2∧w.grownBy (u.setCell ⟨q,1,none⟩ (.int .i64 (getNum zs p).2)) (some q)):=⟨LQ.out.2.put _,gtr (wide_none LQ.out.1 (some q)) (gsc u q 1 (.int .i64 (getNum zs p).2))⟩;obtain ⟨⟨z0,z1⟩,h0,h3⟩:=two LQ.out.2;clear LQ;go_wp2;go_ret;exact ⟨rfl,FQ.out.2,FQ.out.1⟩
def TxA (w u:World) (q g N:Nat) (R:List Int × Int) (e:Ending):Prop :=
 ∃ a c bs,e = .returned (.slice a R.1.length c)∧w.grownBy u (some q)∧CRd u q g N R.2∧SlG u 1 a R.1.length c (encB R.1) bs∧bs.Nodup∧(∀ y ∈ bs,w.heap.size≤y)∧Byt R.1
theorem byt_cut {zs:List Int} (h:Byt zs) (i n:Nat):Byt ((zs.drop i).take n):=fun z hz=>h z (List.mem_of_mem_drop (List.mem_of_mem_take hz))
theorem textC (q g N:Nat) (zs:List Int) (p:Int) (w:World) (hB:Byq w q g N zs) (b:CRd w q g N p) (hp:p≤9223372036854775807) :
  Calls Tryz.prog 85 #[.pointer (some ⟨q,0,none⟩)] w fun e u=>TxA w u q g N ((parI zs).tx p) e:=by
 have CC:Hid _:=fun u (hu:w.grownBy u none)=>implGetC g N N zs p u (hB.old hu).1 hB.2.1 hB.2.2.1 (by have:=hB.2.2.2.1;omega) (Nat.le_refl _) hp
 have HB:Hid _:=b;have PQ:Hid (q < w.heap.size):=lbk b;have HBY:Hid _:=And.intro hB.2.2.1 (And.intro hB.2.1 hB.2.2.2.1);obtain ⟨⟨z0,z1⟩,h0,h3⟩:=two b;clear hB b;go_enter Tryz.func85,Tryz.ntmps85;go_wp2_with fail;have L1:Hid (w.grownBy w.drew none∧CRd w.drew q g N p):=⟨grown_drew (grf w none),CRd.old HB.out (grown_drew (grf w none))⟩;refine wp_region_held_drew (S:=(fun u0=>u0.cell? ⟨q,0,none⟩=some (.slice (some ⟨g,0,none⟩) N N)∧u0.cell? ⟨q,1,none⟩=some (.int .i64 p))) (by kernel_rfl) (two L1.out.2).1 (fun hH=>?_);generalize w.drew=u0 at *;simp only[sA9,lB,lC,Nat.reduceAdd,Array.replicate,List.replicate];refine tk 0 ?_;refine tk 1 ?_;refine tk 2 ?_;refine tk 3 ?_;refine tk 4 ?_;refine tk 5 ?_;refine tk 6 ?_;refine tk 7 ?_;refine rd 8 rfl (fun K hK=>?_);go_simp;refine Calls.mono (CC.out u0 L1.out.1) ?_;rintro e u ⟨v,x,rfl,hg,hans⟩
 have FA:Hid (∃ a c bs,v = .slice a ((parI zs).tx p).1.length c∧x=((parI zs).tx p).2∧SlG u 1 a ((parI zs).tx p).1.length c (encB ((parI zs).tx p).1) bs∧bs.Nodup∧(∀ y ∈ bs,w.heap.size≤y)∧Byt ((parI zs).tx p).1):=by
  show ∃ a c bs,_
  cases hT:getText zs p with
  | none =>
   have e:(parI zs).tx p=([],-1):=by simp [parI,hT]
   rw[hT] at hans;rw[e];exact ⟨none,0,[],hans.1,hans.2,SlG.nil _ _ _ _,List.nodup_nil,fun y hy=>by simp at hy,fun z hz=>by simp at hz⟩
  | some y =>
   obtain ⟨ts,y⟩:=y
   have e:(parI zs).tx p=(ts,y):=by simp [parI,hT]
   rw[hT] at hans;obtain ⟨g2,cp,h1,h2,h4,h5⟩:=hans
   have hts:Byt ts:=by
    unfold getText at hT
    split at hT
    ·
     cases hT
    ·
     injection hT with hT;injection hT with hT1 hT2;rw[← hT1];exact byt_cut HBY.out.1 _ _
   have hlen:ts.length≤1048576:=by
    unfold getText at hT
    split at hT
    ·
     cases hT
    ·
     injection hT with hT;injection hT with hT1 hT2;rw[← hT1];have:=HBY.out.2.1;have:=HBY.out.2.2;simp only[List.length_take,List.length_drop];omega
   obtain ⟨bs,k1,k2,k3⟩:=h5.toG hlen;rw[e];exact ⟨_,cp,bs,h1,h2,k1,k2,fun y hy=>by rw[k3 y hy];have:=L1.out.1.size;omega,hts⟩
 have b1:=L1.out.2.old hg;have LQ:Hid (w.grownBy u none∧CRd u q g N p):=⟨gtr L1.out.1 hg,b1⟩;refine hK.out _ _ (two b1).1 (fun hH2=>?_);clear hK K hH;have hH:=hH2;clear hH2 hg L1 b1 CC HB z0 z1 h0 h3 hans HBY;obtain ⟨a,c,bs,rfl,rfl,hS,hn,hlo,hby⟩:=FA.out;clear FA;obtain ⟨ts,y,hT⟩:∃ ts y,(parI zs).tx p=(ts,y):=⟨_,_,rfl⟩;have HT:Hid ((parI zs).tx p=(ts,y)):=hT;rw[hT] at hS hby ⊢;simp only[] at hS hn hlo hby ⊢;have FB:Hid _:=And.intro hS (And.intro hn (And.intro hlo hby));clear hS hn hlo hby hT;generalize hl:ts.length=l at *;have HL:Hid (ts.length=l):=hl;clear hl;simp only[Act.put,nA,nB,nC,nD,nE,nF];refine tk 9 ?_;refine tk 10 ?_;refine tk 11 ?_;refine tk 12 ?_;refine tk 13 ?_;refine wpAnyH_done (by kernel_rfl) ?_ _;have ks:=gsc u q 1 (.int .i64 y);have FQ:Hid (CRd (u.setCell ⟨q,1,none⟩ (.int .i64 y)) q g N y∧w.grownBy (u.setCell ⟨q,1,none⟩ (.int .i64 y)) (some q)∧SlG (u.setCell ⟨q,1,none⟩ (.int .i64 y)) 1 a l c (encB ts) bs):=⟨LQ.out.2.put _,gtr (wide_none LQ.out.1 (some q)) ks,FB.out.1.kept ks (fun z hz=>by have:=FB.out.2.2.1 z hz;have:=PQ.out;simp;omega)⟩
 obtain ⟨⟨z0,z1⟩,h0,h3⟩:=two LQ.out.2;clear LQ ks;go_wp2;go_ret;rw[HT.out];refine ⟨a,c,bs,?_,FQ.out.2.1,FQ.out.1,?_,FB.out.2.1,FB.out.2.2.1,FB.out.2.2.2⟩
 ·
  simp only[HL.out];rfl
 ·
  simp only[HL.out];exact FQ.out.2.2
theorem cells_takeG {w:World} {g m k:Nat} {t:TypeId} {cur:Array Value} (hc:w.heap[g]? = some (.cells cur t (0,0))) (hs:cur.size=m) (hl:k≤m):∀ j,j < k→w.cell? ⟨g,j,none⟩=(cur.toList.take k)[j]?:=by
 intro j hj;rw[cell_of_row w g j cur t (0,0) hc,List.getElem?_take_of_lt hj,Array.getElem?_toList]
theorem run_pushG {P:Program} {w:World} (t ty e:TypeId) (i:TypeInfo) (z:Value) (ht:P.underlying t=some (.slice e)) (hi:P.info? e=some i) (hz:i.zero=some z) (sz:Nat) (hsize:i.size=sz) (hby:i.bytes≤1000) (hzs:z.cells.size=sz)
  (a:Option Addr) (l c:Nat) (f:G) (bs:List Nat) (h:SlG w sz a l c f bs) (hnd:bs.Nodup) (ha:l=0→c=0∧a=none) (hl:l≤100000) (q o:Nat) (X:G) (bd:List Nat) (hX:OwnG w X q o bd) (hXl:X.len=sz) (hndd:bd.Nodup) (hdis:∀ x ∈ bs,x ∉ bd) :
  ∃ a2 c2 bs2 w',(Builtin.append_ #[t,t] ty #[.slice a l c,.slice (some ⟨q,o,none⟩) 1 1]).run P w = .ok (.slice a2 (l+1) c2) w'∧SlG w' sz a2 (l+1) c2 (f.app X) bs2∧bs2.Nodup∧(∀ x ∈ bs2,x ∈ bs∨x ∈ bd∨w.heap.size≤x)∧Tn w w' bs:=by
 have hlt:=h.lt;have hltd:=hX.lt;obtain ⟨hfl,hlm,hlc,hx⟩:=h;obtain ⟨vs,hvl,hvc,hv1⟩:=hX.vals
 have src:Src P i.size t (.slice (some ⟨q,o,none⟩) 1 1) 1 vs w:=Src.ofSlice w ht ⟨q,o,none⟩ 1 1 _ (by rw[hvl,hXl,hsize];omega) (fun j u hu=>by
  have hj:j < X.len:=by have:=(List.getElem?_eq_some_iff.1 hu).1;omega
  rw[Go.WideShapes.add_plain];exact (hvc j hj).trans hu) hv1
 have hlen1:(f.app X).len=(l+1) * sz:=by rw[G.app_len,hfl,hXl,Nat.add_mul,Nat.one_mul]
 have hgrow:∀ (olds:List Value) (bs':List Nat) (hold:(Builtin.firstCells i.size l (.slice a l c)).run P w.drew = .ok olds.toArray w.drew) (hol:olds.length=l * sz) (hd':c < l+1) (hbs:∀ x ∈ bs',x ∈ bs) (hnb:bs'.Nodup) (hcp:∀ (u:World) (g:Nat),(∀ j,j < l * sz→u.cell? ⟨g,j,none⟩=olds[j]?)→(∀ x ∈ bs',u.heap[x]? = w.heap[x]?)→OwnG u f g 0 bs'),
   ∃ a2 c2 bs2 w',(Builtin.append_ #[t,t] ty #[.slice a l c,.slice (some ⟨q,o,none⟩) 1 1]).run P w = .ok (.slice a2 (l+1) c2) w'∧SlG w' sz a2 (l+1) c2 (f.app X) bs2∧bs2.Nodup∧(∀ x ∈ bs2,x ∈ bs∨x ∈ bd∨w.heap.size≤x)∧Tn w w' bs:=by
  intro olds bs' hold hol hd' hbs hnb hcp
  have hfit:Builtin.nextslicecap (l+1) c * i.bytes≤281474976710656:=by
   refine growslice_fits hd' ?_;have:(l+1) * i.bytes≤100001 * 1000:=Nat.mul_le_mul (by omega) hby;omega
  have r:=run_append_grow_src (P:=P) w t t ty e i z ht hi hz a l c olds hold (.slice (some ⟨q,o,none⟩) 1 1) 1 _ src hd' (by omega) hfit;have hge:=grownCap_ge w (l+1) c e;have hnew:=hnw w.drew (.cells ((olds++vs).toArray++Builtin.zeroCells z.cells (grownCap w (l+1) c e - (l+1))) e);have htn:Tn w (w.drew.alloc (.cells ((olds++vs).toArray++Builtin.zeroCells z.cells (grownCap w (l+1) c e - (l+1))) e)) []:=⟨rfl,rfl,rfl,by simp,fun x hx _=>heap_alloc_old w.drew _ hx⟩;have hnew:(w.drew.alloc (.cells ((olds++vs).toArray++Builtin.zeroCells z.cells (grownCap w (l+1) c e - (l+1))) e)).heap[w.heap.size]? = _:=hnew;generalize (w.drew.alloc (.cells ((olds++vs).toArray++Builtin.zeroCells z.cells (grownCap w (l+1) c e - (l+1))) e))=u at r hnew htn;generalize hgc:grownCap w (l+1) c e=gc at *
  have hsz:((olds++vs).toArray++Builtin.zeroCells z.cells (gc - (l+1))).size=gc * sz:=by
   simp only[Array.size_append,sA9,size_zeroCells,hzs,lA,hol,hvl,hXl];rw[show l * sz+sz=(l+1) * sz by rw[Nat.add_mul,Nat.one_mul],← Nat.add_mul]
   congr 1;omega
  have hcell:∀ j,j < l * sz+sz→u.cell? ⟨w.heap.size,j,none⟩=(olds++vs)[j]?:=by
   intro j hj;rw[cell_of_row u w.heap.size j _ e (0,0) hnew,Array.getElem?_append_left (by simp [hol,hvl,hXl];omega),List.getElem?_toArray]
  have hold':∀ x,x < w.heap.size→u.heap[x]? = w.heap[x]?:=fun x hx=>htn.block x hx (by simp)
  have hO:=hcp u w.heap.size (fun j hj=>by rw[hcell j (by omega),List.getElem?_append_left (by omega)]) (fun x hx=>hold' x (hlt x (hbs x hx)))
  have hD:OwnG u X w.heap.size (0+f.len) bd:=hX.move (fun j hj=>by
   rw[hfl,Nat.zero_add,hcell _ (by omega),List.getElem?_append_right (by omega),hol,Nat.add_sub_cancel_left]
   exact (hvc j hj).symm) (fun x hx=>hold' x (hltd x hx))
  have hA:=hO.app hD;refine ⟨_,_,w.heap.size::(bs'++bd),u,r,⟨hlen1,by omega,hge,.inr ⟨_,_,by omega,rfl,rfl,⟨_,_,hnew,hsz⟩,hA⟩⟩,List.nodup_cons.2 ⟨fun hx=>?_,List.nodup_append.2 ⟨hnb,hndd,fun x hx y hy e=>?_⟩⟩,fun x hx=>?_,htn.mono (fun x hx=>by simp at hx)⟩
  ·
   rcases List.mem_append.1 hx with hx|hx
   ·
    have:=hlt _ (hbs _ hx);omega
   ·
    have:=hltd _ hx;omega
  ·
   subst e;exact hdis x (hbs x hx) hy
  ·
   rcases List.mem_cons.1 hx with rfl|hx
   ·
    exact .inr (.inr (Nat.le_refl _))
   ·
    rcases List.mem_append.1 hx with hx|hx
    ·
     exact .inl (hbs x hx)
    ·
     exact .inr (.inl hx)
 rcases hx with ⟨hl0,hf0,hb0⟩|⟨g,bs',hp0,rfl,rfl,⟨cur,tc,hg,hsz⟩,hown⟩
 ·
  obtain ⟨hc0,ha0⟩:=ha hl0;subst hl0 hc0 ha0 hf0 hb0;exact hgrow [] [] (run_firstCells_none w.drew i.size 0 0 0) (by simp) (by omega) (fun x hx=>hx) List.nodup_nil (fun u g _ _=>rfl)
 ·
  obtain ⟨hng,hnb⟩:=List.nodup_cons.1 hnd;have hls:l * sz≤c * sz:=Nat.mul_le_mul hlc (Nat.le_refl _);by_cases hroom:l+1≤c
  ·
   have hB:Plc w g (c * sz):=⟨cur,tc,hg,hsz⟩
   have hls1:l * sz+sz≤c * sz:=by
    have:=Nat.mul_le_mul hroom (Nat.le_refl sz);rw[Nat.add_mul,Nat.one_mul] at this;exact this
   have hsome:∀ j,j < vs.length→(w.cell? ⟨g,0+l * i.size+j,none⟩).isSome=true:=by
    intro j hj;rw[hsize,Nat.zero_add];obtain ⟨v,hv⟩:=hB.has (l * sz+j) (by omega);rw[hv];rfl
   have r:=run_append_room_src (P:=P) w t t ty e i ht hi g 0 l c (.slice (some ⟨q,o,none⟩) 1 1) 1 _ src hroom hsome (fun j hj=>hB.free _);have hin:=World.cell?_setCells_in g vs (0+l * i.size) w hsome;have hout:=World.cell?_setCells_out g vs (0+l * i.size) w;have hk3:=setCells_grown g vs (0+l * i.size) w;have hB3:=hB.setCells vs (0+l * i.size);have r':(Builtin.append_ #[t,t] ty #[.slice (some ⟨g,0,none⟩) l c,.slice (some ⟨q,o,none⟩) 1 1]).run P w = .ok (.slice (some ⟨g,0,none⟩) (l+1) c) (w.setCells g (0+l * i.size) vs):=r;rw[hsize,Nat.zero_add] at hin hout hk3 hB3 r';generalize w.setCells g (l * sz) vs=u at r' hin hout hk3 hB3
   have hne:∀ x,x≠g→some x≠some g:=fun x hx e=>hx (by injection e)
   have hO:=hown.move (w':=u) (b':=g) (off':=0) (fun j hj=>hout ⟨g,0+j,none⟩ (fun _ _=>.inl (by simp only;omega))) (fun x hx=>hk3.block x (hlt x (List.mem_cons_of_mem _ hx)) (hne x (fun e=>hng (e ▸ hx))))
   have hD:OwnG u X g (0+f.len) bd:=hX.move (fun j hj=>by
    rw[hfl,Nat.zero_add,hin j (by omega),hvc j hj,List.getElem?_eq_getElem]) (fun x hx=>hk3.block x (hltd x hx) (hne x (fun e=>hdis g (by simp) (e ▸ hx))))
   have hA:=hO.app hD;refine ⟨_,_,g::(bs'++bd),u,r',⟨hlen1,by omega,hroom,.inr ⟨_,_,by omega,rfl,rfl,hB3,hA⟩⟩,List.nodup_cons.2 ⟨fun hx=>?_,List.nodup_append.2 ⟨hnb,hndd,fun x hx y hy e=>?_⟩⟩,fun x hx=>?_,(Tn.row hk3).mono (fun x hx=>by simp at hx;subst hx;simp)⟩
   ·
    rcases List.mem_append.1 hx with hx|hx
    ·
     exact hng hx
    ·
     exact hdis g (by simp) hx
   ·
    subst e;exact hdis x (List.mem_cons_of_mem _ hx) hy
   ·
    rcases List.mem_cons.1 hx with rfl|hx
    ·
     exact .inl (by simp)
    ·
     rcases List.mem_append.1 hx with hx|hx
     ·
      exact .inl (List.mem_cons_of_mem _ hx)
     ·
      exact .inr (.inl hx)
  ·
   have hct:=cells_takeG hg hsz hls;refine hgrow (cur.toList.take (l * sz)) bs' ?_ (by simp;omega) (by omega) (fun x hx=>List.mem_cons_of_mem _ hx) hnb (fun u g' hc hb=>hown.move (fun j hj=>?_) hb)
   ·
    refine run_firstCells_some w.drew i.size l ⟨g,0,none⟩ l c _ (by simp [hsize];omega) (fun j u hu=>?_)
    have hj:j < l * sz:=by have:=(List.getElem?_eq_some_iff.1 hu).1;simp at this;omega
    rw[Go.WideShapes.add_plain,Nat.zero_add];exact (hct j hj).trans hu
   ·
    rw[Nat.zero_add,hc j (by omega),hct j (by omega)]
theorem wpList_pushG {P:Program} {w:World} {ops:Array Oper} {rest:List Oper} {o:Oper} {ac:Act} {Q:Exit→Act→World→Prop}
  (hg:o.guard=none) (s x:Operand) (t:TypeId) (ho:o.op = .call { callee:=.builtin .append,args:=#[s,x],argTypes:=#[t,t] })
  (e:TypeId) (i:TypeInfo) (z:Value) (ht:P.underlying t=some (.slice e)) (hi:P.info? e=some i) (hz:i.zero=some z) (sz:Nat) (hsize:i.size=sz) (hby:i.bytes≤1000) (hzs:z.cells.size=sz)
  (a:Option Addr) (l c:Nat) (f:G) (bs:List Nat) (hs:ac.eval s = .slice a l c) (h:SlG w sz a l c f bs) (hnd:bs.Nodup) (ha:l=0→c=0∧a=none) (hl:l≤100000) (q oo:Nat) (hx:ac.eval x = .slice (some ⟨q,oo,none⟩) 1 1) (X:G) (bd:List Nat) (hX:OwnG w X q oo bd) (hXl:X.len=sz) (hndd:bd.Nodup) (hdis:∀ x ∈ bs,x ∉ bd)
  (H:∀ a2 c2 bs2 w',SlG w' sz a2 (l+1) c2 (f.app X) bs2→bs2.Nodup→(∀ x ∈ bs2,x ∈ bs∨x ∈ bd∨w.heap.size≤x)→Tn w w' bs→wpList P ops Q rest (ac.put o.dst (.slice a2 (l+1) c2)) w') :
  wpList P ops Q (o::rest) ac w:=by
 refine wpList_plain hg fun K hK=>?_
 obtain ⟨a2,c2,bs2,w',hrun,h1,h2,h3,h4⟩:=run_pushG (P:=P) (w:=w) t o.type e i z ht hi hz sz hsize hby hzs a l c f bs h hnd ha hl q oo X bd hX hXl hndd hdis;unfold Oper.wp execOp;simp only[ho,resolve,invoke,builtin,Sem.run_bind,Sem.run_pure,Result.andThen_ok,List.map_toArray,List.map_cons,List.map_nil,hs,hx,hrun];exact hK _ _ (H a2 c2 bs2 w' h1 h2 h3 h4)
def VsG (w:World):List Value→G→List Nat→Prop
 | [],.nil,bs=>bs=[]
 | v::vs,.num k n r,bs=>v = .int k n∧VsG w vs r bs
 | v::vs,.sl s d r,bs=>∃ b1 b2 a l c,bs=b1++b2∧v = .slice a l c∧SlG w s a l c d b1∧VsG w vs r b2
 | _,_,_=>False
theorem VsG.lt {w:World}:∀ {vs:List Value} {X:G} {bs:List Nat},VsG w vs X bs→∀ g ∈ bs,g < w.heap.size
 | [],.nil,bs,h=>by intro g hg;rw[show bs=[] from h] at hg;simp at hg
 | v::vs,.num k n r,bs,h=>VsG.lt h.2
 | v::vs,.sl s d r,bs,h=>by
  obtain ⟨b1,b2,a,l,c,rfl,_,h1,h2⟩:=h;intro g hg;rcases List.mem_append.1 hg with hg|hg
  ·
   exact h1.lt g hg
  ·
   exact VsG.lt h2 g hg
 | [],.num _ _ _,_,h=>h.elim
 | [],.sl _ _ _,_,h=>h.elim
 | _::_,.nil,_,h=>h.elim
theorem VsG.of {w w':World}:∀ {vs:List Value} {X:G} {bs:List Nat},VsG w vs X bs→(∀ g ∈ bs,w'.heap[g]? = w.heap[g]?)→VsG w' vs X bs
 | [],.nil,bs,h,_=>h
 | v::vs,.num k n r,bs,h,hb=>⟨h.1,VsG.of h.2 hb⟩
 | v::vs,.sl s d r,bs,h,hb=>by
  obtain ⟨b1,b2,a,l,c,rfl,e,h1,h2⟩:=h;exact ⟨b1,b2,a,l,c,rfl,e,h1.of (fun g hg=>hb g (List.mem_append_left _ hg)),VsG.of h2 (fun g hg=>hb g (List.mem_append_right _ hg))⟩
 | [],.num _ _ _,_,h,_=>h.elim
 | [],.sl _ _ _,_,h,_=>h.elim
 | _::_,.nil,_,h,_=>h.elim
theorem VsG.kept {w w':World} {vs:List Value} {X:G} {bs:List Nat} {row:Option Nat} (h:VsG w vs X bs) (hg:w.grownBy w' row) (hne:∀ g ∈ bs,some g≠row):VsG w' vs X bs :=
 h.of fun g hm=>hg.block g (h.lt g hm) (hne g hm)
theorem VsG.own {w:World} {b:Nat}:∀ {vs:List Value} {X:G} {off:Nat} {bs:List Nat},VsG w vs X bs→(∀ j v,vs[j]? = some v→w.cell? ⟨b,off+j,none⟩=some v)→OwnG w X b off bs
 | [],.nil,_,bs,h,_=>h
 | v::vs,.num k n r,off,bs,h,hc=>⟨by rw[← h.1];simpa using hc 0 v rfl,VsG.own h.2 (fun j u hu=>by
   have:=hc (j+1) u (by simpa using hu)
   rw[show off+1+j=off+(j+1) by omega];exact this)⟩
 | v::vs,.sl s d r,off,bs,h,hc=>by
  obtain ⟨b1,b2,a,l,c,rfl,e,h1,h2⟩:=h
  exact OwnG.mkS (by rw[← e];simpa using hc 0 v rfl) h1 (VsG.own h2 (fun j u hu=>by
   have:=hc (j+1) u (by simpa using hu)
   rw[show off+1+j=off+(j+1) by omega];exact this))
 | [],.num _ _ _,_,_,h,_=>h.elim
 | [],.sl _ _ _,_,_,h,_=>h.elim
 | _::_,.nil,_,_,h,_=>h.elim
theorem cells_new {w:World} {g:Nat} {t:TypeId} {vs:List Value} {fr:Nat × Nat} (h:w.heap[g]? = some (.cells vs.toArray t fr)):∀ j v,vs[j]? = some v→w.cell? ⟨g,0+j,none⟩=some v:=by
 intro j v hv;rw[Nat.zero_add,cell_of_row w g j _ t fr h,List.getElem?_toArray];exact hv
def Own1 (w u:World) (q g N:Nat) (p:Int) (vs:List Value) (X:G):Prop :=
 w.grownBy u (some q)∧CRd u q g N p∧∃ bs,VsG u vs X bs∧bs.Nodup∧∀ y ∈ bs,w.heap.size≤y
def TyA (w u:World) (q g N:Nat) (R:(Int × Int × F) × Int) (e:Ending):Prop :=
 ∃ a l c,e = .returned (.agg #[.int .i64 R.1.1,.int .i64 R.1.2.1,.slice a l c])∧Own1 w u q g N R.2 [.int .i64 R.1.1,.int .i64 R.1.2.1,.slice a l c] (.num .i64 R.1.1 (.num .i64 R.1.2.1 (.sl 3 (encF R.1.2.2) .nil)))
theorem tyC (q g N:Nat) (zs:List Int) (p:Int) (w:World) (hB:Byq w q g N zs) (b:CRd w q g N p) (hp:p≤9223372036854775807) :
  Calls Tryz.prog 65 #[.pointer (some ⟨q,0,none⟩)] w fun e u=>TyA w u q g N (tyP (parI zs) p) e:=by
 have g0:w.grownBy (w.alloc (.cells #[.int .i64 0,.int .i64 0,.slice none 0 0] 46)) none:=gal _ _ _
 have CC:Hid _:=fun u (hu:w.grownBy u none)=>implTyReadT (some ⟨g,0,none⟩) N N zs hB.2.2.1 (by have:=hB.2.2.2.1;omega) p u ((hB.old hu).1.reads' hB.2.1) hp
 have PQ:Hid (q < w.heap.size):=lbk b;have gd:=grown_drew g0;have L1:Hid (w.grownBy (w.alloc (.cells #[.int .i64 0,.int .i64 0,.slice none 0 0] 46)).drew none∧CRd (w.alloc (.cells #[.int .i64 0,.int .i64 0,.slice none 0 0] 46)).drew q g N p∧(w.alloc (.cells #[.int .i64 0,.int .i64 0,.slice none 0 0] 46)).drew.heap[w.heap.size]? = some (.cells #[.int .i64 0,.int .i64 0,.slice none 0 0] 46)):=⟨gd,CRd.old b gd,hnw w _⟩;have b1:=CRd.old b g0;obtain ⟨⟨z0,z1⟩,h0,h3⟩:=two b1;clear hB b b1 g0 gd;go_enter Tryz.func65,Tryz.ntmps65;go_wp2_with fail;generalize e2:w.heap.size=q2 at *;have PE:Hid (w.heap.size=q2):=e2;clear e2;refine wp_region_held_drew (S:=(fun u0=>u0.cell? ⟨q,0,none⟩=some (.slice (some ⟨g,0,none⟩) N N)∧u0.cell? ⟨q,1,none⟩=some (.int .i64 p))) (by kernel_rfl) (two L1.out.2.1).1 (fun hH=>?_);generalize (World.drew _)=u0 at *;simp only[sA9,lB,lC,Nat.reduceAdd,Array.replicate,List.replicate]
 refine tk 0 ?_;refine tk 1 ?_;refine tk 2 ?_;refine tk 3 ?_;refine tk 4 ?_;refine tk 5 ?_;refine tk 6 ?_;refine tk 7 ?_;refine wpAnyH_ready (rs:=[8,12]) (by kernel_rfl) (by simp) ?_;refine AllReadyH.cons rfl (fun K hK=>?_) ?_
 ·
  skip
  go_simp;refine Calls.mono (CC.out u0 L1.out.1) ?_;rintro e u ⟨a,l,c,bs,rfl,hg,hN⟩;have b1:=CRd.old L1.out.2.1 hg;have LQ:Hid (w.grownBy u none∧CRd u q g N p∧u.heap[q2]? = some (.cells #[.int .i64 0,.int .i64 0,.slice none 0 0] 46)∧SlG u 3 a l c (encF (readV zs p).2.2.1) bs∧bs.Nodup∧∀ y ∈ bs,q2 < y):=⟨gtr L1.out.1 hg,b1,(hg.block _ (lbk L1.out.2.2) (by simp)).trans L1.out.2.2,hN.1.toG,hN.2.1,fun y hy=>by have:=hN.2.2 y hy;have:=lbk L1.out.2.2;omega⟩;refine hK.out _ _ (two b1).1 (fun hH2=>?_);clear hK K hH;have hH:=hH2;clear hH2 hg L1 b1 CC z0 z1 h0 h3 hN;obtain ⟨k,n,f,x,hR⟩:∃ k n f x,readV zs p=(k,n,f,x):=⟨_,_,_,_,rfl⟩
  have HR:Hid (tyP (parI zs) p=((k,n,f),x)):=by show tyP (parI zs) p=_;simp [tyP,parI,hR]
  rw[hR] at LQ;rw[hR];simp only[] at LQ ⊢;clear hR;simp only[Act.put,nA,nB,nC,nD,nE,nF];refine tk 9 ?_;refine tk 10 ?_;refine tk 11 ?_;have ga:=gal u (.cells #[.int .i64 0,.int .i64 0,.slice none 0 0] 46) none;have LF:Hid (w.grownBy (u.alloc (.cells #[.int .i64 0,.int .i64 0,.slice none 0 0] 46)) none∧CRd (u.alloc (.cells #[.int .i64 0,.int .i64 0,.slice none 0 0] 46)) q g N p∧(u.alloc (.cells #[.int .i64 0,.int .i64 0,.slice none 0 0] 46)).heap[q2]? = some (.cells #[.int .i64 0,.int .i64 0,.slice none 0 0] 46)∧(u.alloc (.cells #[.int .i64 0,.int .i64 0,.slice none 0 0] 46)).heap[u.heap.size]? = some (.cells #[.int .i64 0,.int .i64 0,.slice none 0 0] 46)∧SlG (u.alloc (.cells #[.int .i64 0,.int .i64 0,.slice none 0 0] 46)) 3 a l c (encF f) bs∧bs.Nodup∧(∀ y ∈ bs,q2 < y∧y≠u.heap.size)∧q2 < u.heap.size):=⟨gtr LQ.out.1 ga,CRd.old LQ.out.2.1 ga,(ga.block _ (lbk LQ.out.2.2.1) (by simp)).trans LQ.out.2.2.1,hnw u _,LQ.out.2.2.2.1.old ga,LQ.out.2.2.2.2.1,fun y hy=>⟨LQ.out.2.2.2.2.2 y hy,by have:=LQ.out.2.2.2.1.lt y hy;omega⟩,lbk LQ.out.2.2.1⟩
  refine rd 12 rfl (fun K hK=>?_);go_simp;refine hK.out _ _ (two LF.out.2.1).1 (fun hH2=>?_);clear hK K hH;have hH:=hH2;clear hH2 ga LQ;simp only[Act.put,nA,nB,nC,nD,nE,nF];generalize u.alloc (.cells #[.int .i64 0,.int .i64 0,.slice none 0 0] 46)=v at *;generalize u.heap.size=q3 at *;obtain ⟨d1,k1⟩:=fill3 (.int .i64 k) (.int .i64 n) (.slice a l c) LF.out.2.2.2.1;obtain ⟨⟨y0,y1,y2⟩,f0,f1,f2⟩:=three LF.out.2.2.2.1;have LG:Hid (w.grownBy _ none∧CRd _ q g N p∧_∧_∧SlG _ 3 a l c (encF f) bs):=⟨grown_into LF.out.1 k1 (by have:=PE.out;have:=LF.out.2.2.2.2.2.2.2;omega),(k1.block _ (lbk LF.out.2.1) (by have:=PE.out;have:=PQ.out;have:=LF.out.2.2.2.2.2.2.2;simp;omega)).trans LF.out.2.1,(k1.block _ (lbk LF.out.2.2.1) (by have:=LF.out.2.2.2.2.2.2.2;simp;omega)).trans LF.out.2.2.1,d1,LF.out.2.2.2.2.1.kept k1 (fun y hy=>by have:=(LF.out.2.2.2.2.2.2.1 y hy).2;simpa using this)⟩;have LR:Hid (bs.Nodup∧(∀ y ∈ bs,q2 < y∧y≠q3)∧q2 < q3):=⟨LF.out.2.2.2.2.2.1,LF.out.2.2.2.2.2.2.1,LF.out.2.2.2.2.2.2.2⟩
  clear d1 k1 LF;refine rd 13 rfl (fun K hK=>?_);go_simp;refine hK.out _ _ (two LG.out.2.1).1 (fun hH2=>?_);clear hK K hH;have hH:=hH2;clear hH2 y0 y1 y2 f0 f1 f2;simp only[Act.put,nA,nB,nC,nD,nE,nF];refine tk 14 ?_;refine wpAnyH_done (by kernel_rfl) ?_ _;generalize (((v.setCell ⟨q3,0,none⟩ (.int .i64 k)).setCell ⟨q3,1,none⟩ (.int .i64 n)).setCell ⟨q3,2,none⟩ (.slice a l c))=v3 at *;have ks:=gsc v3 q 1 (.int .i64 x);have e2:(v3.setCell ⟨q,1,none⟩ (.int .i64 x)).heap[q2]? = _:=(ks.block _ (lbk LG.out.2.2.1) (by have:=PE.out;have:=PQ.out;simp;omega)).trans LG.out.2.2.1;have e3:(v3.setCell ⟨q,1,none⟩ (.int .i64 x)).heap[q3]? = _:=(ks.block _ (lbk LG.out.2.2.2.1) (by have:=PE.out;have:=PQ.out;have:=LR.out.2.2;simp;omega)).trans LG.out.2.2.2.1;obtain ⟨d2,k2⟩:=fill3 (.int .i64 k) (.int .i64 n) (.slice a l c) e2;have gq:w.grownBy (v3.setCell ⟨q,1,none⟩ (.int .i64 x)) (some q):=gtr (wide_none LG.out.1 (some q)) ks
  have hc:=CRd.put LG.out.2.1 x;have FQ:Hid (_∧w.grownBy _ (some q)∧CRd _ q g N x∧SlG _ 3 a l c (encF f) bs):=⟨d2,grown_intoR gq k2 (by have:=PE.out;omega),(k2.block _ (lbk hc) (by have:=PE.out;have:=PQ.out;simp;omega)).trans hc,(LG.out.2.2.2.2.kept ks (fun y hy=>by have:=(LR.out.2.1 y hy).1;have:=PE.out;have:=PQ.out;simp;omega)).kept k2 (fun y hy=>by have:=(LR.out.2.1 y hy).1;simp;omega)⟩;obtain ⟨⟨z0,z1⟩,h0,h3⟩:=two LG.out.2.1;obtain ⟨⟨y0,y1,y2⟩,f0,f1,f2⟩:=three e2;obtain ⟨⟨x0,x1,x2⟩,-⟩:=three e3;clear ks e2 e3 d2 k2 gq hc LG;go_wp2
  (try simp only[Exit.inBlock,Exit.then])
  refine bodyPost_ret (results_cell_row (P:=Tryz.prog) Tryz.results65 _ _ q2 _ _ _ _ rfl FQ.out.1 Tryz.underlying46 rfl (by kernel_rfl)) rfl ?_;rw[HR.out];exact ⟨a,l,c,rfl,FQ.out.2.1,FQ.out.2.2.1,bs,⟨rfl,rfl,bs,[],a,l,c,by simp,rfl,FQ.out.2.2.2,rfl⟩,LR.out.1,fun y hy=>by have:=(LR.out.2.1 y hy).1;have:=PE.out;omega⟩
 refine AllReadyH.cons rfl (fun K hK=>?_) AllReadyH.nil;go_simp;have ga:=gal u0 (.cells #[.int .i64 0,.int .i64 0,.slice none 0 0] 46) none;have L2:Hid (w.grownBy (u0.alloc (.cells #[.int .i64 0,.int .i64 0,.slice none 0 0] 46)) none∧CRd (u0.alloc (.cells #[.int .i64 0,.int .i64 0,.slice none 0 0] 46)) q g N p∧(u0.alloc (.cells #[.int .i64 0,.int .i64 0,.slice none 0 0] 46)).heap[q2]? = some (.cells #[.int .i64 0,.int .i64 0,.slice none 0 0] 46)∧(u0.alloc (.cells #[.int .i64 0,.int .i64 0,.slice none 0 0] 46)).heap[u0.heap.size]? = some (.cells #[.int .i64 0,.int .i64 0,.slice none 0 0] 46)∧q2 < u0.heap.size):=⟨gtr L1.out.1 ga,CRd.old L1.out.2.1 ga,(ga.block _ (lbk L1.out.2.2) (by simp)).trans L1.out.2.2,hnw u0 _,lbk L1.out.2.2⟩;refine hK.out _ _ (two L2.out.2.1).1 (fun hH2=>?_);clear hK K hH;have hH:=hH2;clear hH2 ga L1 z0 z1 h0 h3;simp only[Act.put,nA,nB,nC,nD,nE,nF];generalize u0.alloc (.cells #[.int .i64 0,.int .i64 0,.slice none 0 0] 46)=u1 at *
 generalize u0.heap.size=q3 at *;refine rd 8 rfl (fun K hK=>?_);go_simp;refine Calls.mono (CC.out u1 L2.out.1) ?_;rintro e v ⟨a,l,c,bs,rfl,hg,hN⟩;have b1:=CRd.old L2.out.2.1 hg;refine hK.out _ _ (two b1).1 (fun hH2=>?_);clear hK K hH;have hH:=hH2;clear hH2 CC;have LF0:Hid (w.grownBy v none∧CRd v q g N p∧v.heap[q2]? = some (.cells #[.int .i64 0,.int .i64 0,.slice none 0 0] 46)∧v.heap[q3]? = some (.cells #[.int .i64 0,.int .i64 0,.slice none 0 0] 46)∧SlG v 3 a l c (encF (readV zs p).2.2.1) bs∧bs.Nodup∧(∀ y ∈ bs,q2 < y∧y≠q3)∧q2 < q3):=⟨gtr L2.out.1 hg,b1,(hg.block _ (lbk L2.out.2.2.1) (by simp)).trans L2.out.2.2.1,(hg.block _ (lbk L2.out.2.2.2.1) (by simp)).trans L2.out.2.2.2.1,hN.1.toG,hN.2.1,fun y hy=>by have:=hN.2.2 y hy;have:=lbk L2.out.2.2.2.1;have:=L2.out.2.2.2.2;omega,L2.out.2.2.2.2⟩;clear hg b1 hN L2;obtain ⟨k,n,f,x,hR⟩:∃ k n f x,readV zs p=(k,n,f,x):=⟨_,_,_,_,rfl⟩
 have HR:Hid (tyP (parI zs) p=((k,n,f),x)):=by show tyP (parI zs) p=_;simp [tyP,parI,hR]
 rw[hR] at LF0;rw[hR];have LF:Hid (_∧_∧_∧_∧SlG v 3 a l c (encF f) bs∧_∧_∧_):=LF0;clear LF0;simp only[];clear hR;simp only[Act.put,nA,nB,nC,nD,nE,nF];refine tk 9 ?_;refine tk 10 ?_;refine tk 11 ?_;obtain ⟨d1,k1⟩:=fill3 (.int .i64 k) (.int .i64 n) (.slice a l c) LF.out.2.2.2.1;obtain ⟨⟨y0,y1,y2⟩,f0,f1,f2⟩:=three LF.out.2.2.2.1;have LG:Hid (w.grownBy _ none∧CRd _ q g N p∧_∧_∧SlG _ 3 a l c (encF f) bs):=⟨grown_into LF.out.1 k1 (by have:=PE.out;have:=LF.out.2.2.2.2.2.2.2;omega),(k1.block _ (lbk LF.out.2.1) (by have:=PE.out;have:=PQ.out;have:=LF.out.2.2.2.2.2.2.2;simp;omega)).trans LF.out.2.1,(k1.block _ (lbk LF.out.2.2.1) (by have:=LF.out.2.2.2.2.2.2.2;simp;omega)).trans LF.out.2.2.1,d1,LF.out.2.2.2.2.1.kept k1 (fun y hy=>by have:=(LF.out.2.2.2.2.2.2.1 y hy).2;simpa using this)⟩;have LR:Hid (bs.Nodup∧(∀ y ∈ bs,q2 < y∧y≠q3)∧q2 < q3):=⟨LF.out.2.2.2.2.2.1,LF.out.2.2.2.2.2.2.1,LF.out.2.2.2.2.2.2.2⟩
 clear d1 k1 LF;refine rd 13 rfl (fun K hK=>?_);go_simp;refine hK.out _ _ (two LG.out.2.1).1 (fun hH2=>?_);clear hK K hH;have hH:=hH2;clear hH2 y0 y1 y2 f0 f1 f2;simp only[Act.put,nA,nB,nC,nD,nE,nF];refine tk 14 ?_;refine wpAnyH_done (by kernel_rfl) ?_ _;generalize (((v.setCell ⟨q3,0,none⟩ (.int .i64 k)).setCell ⟨q3,1,none⟩ (.int .i64 n)).setCell ⟨q3,2,none⟩ (.slice a l c))=v3 at *;have ks:=gsc v3 q 1 (.int .i64 x);have e2:(v3.setCell ⟨q,1,none⟩ (.int .i64 x)).heap[q2]? = _:=(ks.block _ (lbk LG.out.2.2.1) (by have:=PE.out;have:=PQ.out;simp;omega)).trans LG.out.2.2.1;have e3:(v3.setCell ⟨q,1,none⟩ (.int .i64 x)).heap[q3]? = _:=(ks.block _ (lbk LG.out.2.2.2.1) (by have:=PE.out;have:=PQ.out;have:=LR.out.2.2;simp;omega)).trans LG.out.2.2.2.1;obtain ⟨d2,k2⟩:=fill3 (.int .i64 k) (.int .i64 n) (.slice a l c) e2;have gq:w.grownBy (v3.setCell ⟨q,1,none⟩ (.int .i64 x)) (some q):=gtr (wide_none LG.out.1 (some q)) ks
 have hc:=CRd.put LG.out.2.1 x;have FQ:Hid (_∧w.grownBy _ (some q)∧CRd _ q g N x∧SlG _ 3 a l c (encF f) bs):=⟨d2,grown_intoR gq k2 (by have:=PE.out;omega),(k2.block _ (lbk hc) (by have:=PE.out;have:=PQ.out;simp;omega)).trans hc,(LG.out.2.2.2.2.kept ks (fun y hy=>by have:=(LR.out.2.1 y hy).1;have:=PE.out;have:=PQ.out;simp;omega)).kept k2 (fun y hy=>by have:=(LR.out.2.1 y hy).1;simp;omega)⟩;obtain ⟨⟨z0,z1⟩,h0,h3⟩:=two LG.out.2.1;obtain ⟨⟨y0,y1,y2⟩,f0,f1,f2⟩:=three e2;obtain ⟨⟨x0,x1,x2⟩,-⟩:=three e3;clear ks e2 e3 d2 k2 gq hc LG;go_wp2
 (try simp only[Exit.inBlock,Exit.then])
 refine bodyPost_ret (results_cell_row (P:=Tryz.prog) Tryz.results65 _ _ q2 _ _ _ _ rfl FQ.out.1 Tryz.underlying46 rfl (by kernel_rfl)) rfl ?_;rw[HR.out];exact ⟨a,l,c,rfl,FQ.out.2.1,FQ.out.2.2.1,bs,⟨rfl,rfl,bs,[],a,l,c,by simp,rfl,FQ.out.2.2.2,rfl⟩,LR.out.1,fun y hy=>by have:=(LR.out.2.1 y hy).1;have:=PE.out;omega⟩
end Go.Proofs.YtnmlbeefjjohfaaGreatDoor.By
