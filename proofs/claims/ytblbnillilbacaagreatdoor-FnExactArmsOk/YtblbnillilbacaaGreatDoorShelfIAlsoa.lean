/-
  No statement is proved here.
-/
import Derived.Test.YtblbnillilbacaaGreatDoorPVa
import Derived.Shelf.Strconv.Itoa3
namespace Go.Proofs.YtblbnillilbacaaGreatDoor.By
set_option maxRecDepth 100000
set_option maxHeartbeats 16000000
open Go.RowKit
set_option linter.unusedVariables false
set_option linter.unusedSimpArgs false
theorem SayG.ext {B:Nat} {w u u':World} {v v1:Value} {zs:List Int} (h:SayG B w v v1 zs u) (k:u.grownBy u' v1.ownBlock):w.grownBy u' v.ownBlock:=by
 refine ⟨k.os.trans h.gr.os,k.tape.trans h.gr.tape,k.output.trans h.gr.output,Nat.le_trans h.gr.size k.size,fun i hi hne=>(k.block i (Nat.lt_of_lt_of_le hi h.gr.size) ?_).trans (h.gr.block i hi hne)⟩;rcases h.blk with e|e
 ·
  rw[e];exact hne
 ·
  intro e2;have:=e i e2.symm;omega
theorem SayG.far {B:Nat} {w u:World} {v v1:Value} {zs:List Int} (h:SayG B w v v1 zs u):v1.ownBlock≠some u.heap.size:=fun e=>by have:=(h.own.lt _ e).2;omega
theorem readsG {w u:World} {a:Option Addr} {n:Nat} {zs:List Int} (h:Reads w a n zs) (g:w.grownBy u none):Reads u a n zs:=by
 obtain ⟨h1,h2⟩:=h;refine ⟨h1,?_⟩;rcases h2 with h2|⟨b,o,e,h2⟩
 ·
  exact .inl h2
 ·
  exact .inr ⟨b,o,e,fun i hi=>g.cell (h2 i hi) (by simp)⟩
theorem readsFar {w u:World} {v:Value} {ch:Int} (hne:v.ownBlock≠some w.heap.size) (g:(w.alloc (.cells #[.int .u8 ch] 5)).grownBy u v.ownBlock):Reads u (some ⟨w.heap.size,0,none⟩) 1 [ch]:=by
 have b:=heap_alloc_new w (.cells #[.int .u8 ch] 5);have b2:=(g.block _ (lt_of_block b) (fun e=>hne e.symm)).trans b;refine ⟨rfl,.inr ⟨_,_,rfl,fun i hi=>?_⟩⟩
 obtain rfl:i=0:=by omega
 rw[cell_of_row u _ _ _ _ (0,0) b2];rfl
theorem run_appN {P:Program} {w:World} (t ty:TypeId) (B:Nat) (i:TypeInfo) (z:Value) (ht:P.underlying t=some (.slice 5)) (hi:P.info? 5=some i) (hz:i.zero=some z)
  (hsize:i.size=1) (hby:i.bytes=1) (hzs:z.cells.size=1) (v:Value) (zs:List Int) (hown:w.ownsRow B 5 1 v zs.length (vals zs)) (src:Option Addr) (m c:Nat) (ys:List Int)
  (hr:Reads w src m ys) (hn:zs≠[]∨ys≠[]) (hm:zs.length+m≤1048576) (hB:B≤w.heap.size) :
  ∃ v' w',(Builtin.append_ #[t,t] ty #[v,.slice src m c]).run P w = .ok v' w'∧SayG B w v v' (zs++ys) w':=by
 cases src with
 | some ad=>exact run_appG t ty B i z ht hi hz hsize hby hzs v zs hown (some ad) m c ys hr (by intro h;cases h) hm hB
 | none =>
  obtain ⟨hl,hr⟩:=hr
  obtain rfl:m=0:=by
   rcases hr with h|⟨_,_,h,_⟩
   ·
    exact h
   ·
    cases h
  obtain rfl:ys=[]:=List.eq_nil_of_length_eq_zero (by omega)
  have hz0:zs≠[]:=by rcases hn with h|h;exact h;exact absurd rfl h
  have hown':=hown;rcases hown.2 with ⟨rfl,h0⟩|⟨g,cap,cur,rfl,hbg,hg,hnc,hcm,hcs,htake⟩
  ·
   exact absurd (List.eq_nil_of_length_eq_zero h0) hz0
  ·
   have r:=run_append_room_src (P:=P) w t t ty 5 i ht hi g 0 zs.length cap (.slice none 0 c) 0 [] (Src.ofNil w ht c) (by omega) (by intro j hj;simp at hj) (by intro j hj;simp at hj);have e0:w.setCells g (0+zs.length * i.size) []=w:=rfl;rw[e0] at r;exact ⟨_,_,r,by rw[List.append_nil];exact SayG.start hown' hB⟩
theorem wp_appN {P:Program} {w:World} {o:Oper} {ac:Act} {K:Act→World→Prop} {Q:Exit→Act→World→Prop}
  (s x:Operand) (t:TypeId) (ho:o.op = .call { callee:=.builtin .append,args:=#[s,x],argTypes:=#[t,t] })
  (B:Nat) (i:TypeInfo) (z:Value) (ht:P.underlying t=some (.slice 5)) (hi:P.info? 5=some i) (hz:i.zero=some z) (hsize:i.size=1) (hby:i.bytes=1) (hzs:z.cells.size=1)
  (v:Value) (zs:List Int) (hs:ac.eval s=v) (hown:w.ownsRow B 5 1 v zs.length (vals zs)) (src:Option Addr) (m c:Nat) (ys:List Int) (hx:ac.eval x = .slice src m c) (hr:Reads w src m ys) (hn:zs≠[]∨ys≠[]) (hm:zs.length+m≤1048576) (hB:B≤w.heap.size)
  (H:∀ v' w',SayG B w v v' (zs++ys) w'→K (ac.put o.dst v') w') :
  Oper.wp P o ac w K Q:=by
 obtain ⟨v',w',hr',h2⟩:=run_appN (P:=P) (w:=w) t o.type B i z ht hi hz hsize hby hzs v zs hown src m c ys hr hn hm hB;unfold Oper.wp execOp;simp only[ho,resolve,invoke,builtin,Sem.run_bind,Sem.run_pure,Result.andThen_ok,List.map_toArray,List.map_cons,List.map_nil,hs,hx,hr'];exact H v' w' h2
theorem wpList_appN {P:Program} {w:World} {ops:Array Oper} {rest:List Oper} {o:Oper} {ac:Act} {Q:Exit→Act→World→Prop}
  (hg:o.guard=none) (s x:Operand) (t:TypeId) (ho:o.op = .call { callee:=.builtin .append,args:=#[s,x],argTypes:=#[t,t] })
  (B:Nat) (i:TypeInfo) (z:Value) (ht:P.underlying t=some (.slice 5)) (hi:P.info? 5=some i) (hz:i.zero=some z) (hsize:i.size=1) (hby:i.bytes=1) (hzs:z.cells.size=1)
  (v:Value) (zs:List Int) (hs:ac.eval s=v) (hown:w.ownsRow B 5 1 v zs.length (vals zs)) (src:Option Addr) (m c:Nat) (ys:List Int) (hx:ac.eval x = .slice src m c) (hr:Reads w src m ys) (hn:zs≠[]∨ys≠[]) (hm:zs.length+m≤1048576) (hB:B≤w.heap.size)
  (H:∀ v' w',SayG B w v v' (zs++ys) w'→wpList P ops Q rest (ac.put o.dst v') w') :
  wpList P ops Q (o::rest) ac w :=
 wpList_plain hg fun K hK=>wp_appN s x t ho B i z ht hi hz hsize hby hzs v zs hs hown src m c ys hx hr hn hm hB fun v' w' h=>hK _ _ (H v' w' h)
def Sev (q:Nat) (v0 v1 v2 v3 v4 v5 v6:Value) (w:World):Prop:=w.cell? ⟨q,0,none⟩=some v0∧w.cell? ⟨q,1,none⟩=some v1∧w.cell? ⟨q,2,none⟩=some v2∧w.cell? ⟨q,3,none⟩=some v3∧w.cell? ⟨q,4,none⟩=some v4∧w.cell? ⟨q,5,none⟩=some v5∧w.cell? ⟨q,6,none⟩=some v6
theorem l5headT (k n:Int) (v2 v3 v4 v5 v6:Value) (w:World) (h0:0≤k) (h1:k≤20) (h19:k=19→0≤n∧n≤6) (h20:k=20→0≤n∧n≤4) :
  Calls Tryz.prog 90 #[.agg #[.int .i64 k,.int .i64 n,v2,v3,v4,v5,v6]] w fun e u=>∃ st,e = .returned (.string st)∧ofB st.data.toList=headB k n∧w.grownBy u none:=by
 have G0:Hid (w.grownBy (w.alloc (.cells #[.int .i64 k,.int .i64 n,v2,v3,v4,v5,v6] 36)) none):=gal w (.cells #[.int .i64 k,.int .i64 n,v2,v3,v4,v5,v6] 36) none;have b0:=heap_alloc_new w (.cells #[.int .i64 k,.int .i64 n,v2,v3,v4,v5,v6] 36);obtain ⟨⟨y0,y1,y2,y3,y4,y5,y6⟩,-⟩:=blkE b0;clear b0;by_cases e19:k=19
 ·
  have:=h19 e19;subst e19
  have hn:n=0∨n=1∨n=2∨n=3∨n=4∨n=5∨n=6:=by omega
  clear h0 h1 h19 h20 this;rcases hn with rfl|rfl|rfl|rfl|rfl|rfl|rfl
  all_goals (go_enter Tryz.func90,Tryz.ntmps90;go_wp2;go_ret;exact ⟨_,rfl,rfl,gtr G0.out (gal _ _ _)⟩)
 by_cases e20:k=20
 ·
  have:=h20 e20;subst e20
  have hn:n=0∨n=1∨n=2∨n=3∨n=4:=by omega
  clear h0 h1 h19 h20 this e19;rcases hn with rfl|rfl|rfl|rfl|rfl
  all_goals (go_enter Tryz.func90,Tryz.ntmps90;go_wp2;go_ret;exact ⟨_,rfl,rfl,gtr G0.out (gal _ _ _)⟩)
 have hk:k=0∨k=1∨k=2∨k=3∨k=4∨k=5∨k=6∨k=7∨k=8∨k=9∨k=10∨k=11∨k=12∨k=13∨k=14∨k=15∨k=16∨k=17∨k=18:=by omega
 clear h0 h1 h19 h20 e19 e20;rcases hk with rfl|rfl|rfl|rfl|rfl|rfl|rfl|rfl|rfl|rfl|rfl|rfl|rfl|rfl|rfl|rfl|rfl|rfl|rfl
 all_goals (go_enter Tryz.func90,Tryz.ntmps90;go_wp2;go_ret;exact ⟨_,rfl,rfl,gtr G0.out (gal _ _ _)⟩)
end Go.Proofs.YtblbnillilbacaaGreatDoor.By
namespace Go.Proofs.YtblbnillilbacaaGreatDoor.By
open Go.RowKit
set_option linter.unusedVariables false
set_option linter.unusedSimpArgs false
structure FrP (B q:Nat) (w u:World):Prop where
 below:Below B w u
 other:∀ (i:Nat) (o:Obj),w.heap[i]? = some o→(∀ cur fr,o≠.cells cur 5 fr)→i≠q→u.heap[i]? = some o
theorem FrP.refl (B q:Nat) (w:World):FrP B q w w:=⟨Below.refl _ _,fun _ _ h _ _=>h⟩
theorem FrP.trans {B q:Nat} {a b c:World} (h:FrP B q a b) (k:FrP B q b c):FrP B q a c:=⟨h.below.trans k.below,fun i o hi ho hq=>k.other i o (h.other i o hi ho hq) ho hq⟩
theorem FrP.grown {B q:Nat} {w u:World} (h:w.grownBy u none) (hB:B≤w.heap.size):FrP B q w u :=
 ⟨(Below.refl B w).grown h hB (fun k hk=>by cases hk),fun i o hi _ _=>(h.block i (lt_of_block hi) (by simp)).trans hi⟩
theorem FrP.cells {B q:Nat} {w u:World} (h:FrP B q w u) {i:Nat} {cs:Array Value} {t:TypeId} {fr:Nat × Nat} (hi:w.heap[i]? = some (.cells cs t fr)) (ht:t≠5) (hq:i≠q):u.heap[i]? = some (.cells cs t fr) :=
 h.other i _ hi (fun cur f e=>by injection e with _ e2;exact ht e2) hq
theorem FrP.iter {B q:Nat} {w u:World} (h:FrP B q w u) {i:Nat} {s:ByteArray} {p:Nat} (hi:w.heap[i]? = some (.stringIter s p)) (hq:i≠q):u.heap[i]? = some (.stringIter s p) :=
 h.other i _ hi (fun cur f e=>by cases e) hq
theorem results_noneK {P:Program} {fn:Func} (h:fn.results=#[]) (tmps:Array Value) (w:World):(results fn tmps).run P w = .ok (.tuple #[]) w:=by simp [results,h]
structure WrP (B q:Nat) (dv:Value) (w:World) (v:Value) (zs:List Int):Prop where
 box:w.heap[q]? = some (.cells #[v,dv] 102 (0,0))
 own:w.ownsRow B 5 1 v zs.length (vals zs)
 bq:B≤q
 size:B≤w.heap.size
theorem WrP.grown {B q:Nat} {dv:Value} {w u:World} {v:Value} {zs:List Int} (h:WrP B q dv w v zs) (k:w.grownBy u none):WrP B q dv u v zs :=
 ⟨(k.block _ (lt_of_block h.box) (by simp)).trans h.box,h.own.kept k (Classical.em _),h.bq,Nat.le_trans h.size k.size⟩
theorem WrP.cell {B q:Nat} {dv:Value} {w:World} {v:Value} {zs:List Int} (h:WrP B q dv w v zs):(w.cell? ⟨q,0,none⟩=some v∧w.cell? ⟨q,1,none⟩=some dv)∧w.frozen? ⟨q,0,none⟩=false :=
 ⟨⟨by rw[cell_of_row w q 0 _ _ (0,0) h.box];rfl,by rw[cell_of_row w q 1 _ _ (0,0) h.box];rfl⟩,frozen_of_row w q _ _ _ h.box⟩
theorem WrP.as {B q:Nat} {dv:Value} {w:World} {v:Value} {zs ys:List Int} (h:WrP B q dv w v zs) (e:zs=ys):WrP B q dv w v ys:=e ▸ h
theorem heap_set2 (w:World) (q:Nat) (v0 v1 v:Value) (t:TypeId) (h:w.heap[q]? = some (.cells #[v0,v1] t (0,0))):(w.setCell ⟨q,0,none⟩ v).heap[q]? = some (.cells #[v,v1] t (0,0)):=heap_setCell_same w q 0 _ t v h
theorem WrP.far {B q n:Nat} {w:World} {v v0 v1:Value} {zs:List Int} (o:w.ownsRow B 5 1 v n (vals zs)) (bx:w.heap[q]? = some (.cells #[v0,v1] 102 (0,0))):v.ownBlock≠some q:=by
 intro e;rcases o.2 with ⟨rfl,_⟩|⟨g,cap,cur,rfl,_,hg,_⟩
 ·
  cases e
 ·
  injection e with e;subst e;rw[bx] at hg;injection hg with hg;injection hg with _ h2;exact absurd h2 (by decide)
theorem WrP.next {B q:Nat} {dv:Value} {w u:World} {v v':Value} {zs ys:List Int} (h:WrP B q dv w v zs) (o:u.ownsRow B 5 1 v' (zs.length+ys.length) (vals (zs++ys))) (g:w.grownBy u v.ownBlock) :
  u.heap[q]? = some (.cells #[v,dv] 102 (0,0))∧WrP B q dv (u.setCell ⟨q,0,none⟩ v') v' (zs++ys)∧FrP B q w (u.setCell ⟨q,0,none⟩ v'):=by
 have f:FrS B w u:=FrS.own g h.own h.size
 have f2:FrP B q w u:=⟨f.below,fun i o hi ho hq=>(g.block i (lt_of_block hi) (fun e=>by
  rcases h.own.2 with ⟨rfl,_⟩|⟨g',cap,cur,rfl,_,hg,_⟩
  ·
   cases e
  ·
   injection e with e;subst e;rw[hg] at hi;injection hi with hi
   exact ho _ _ hi.symm)).trans hi⟩
 have bx:u.heap[q]? = some (.cells #[v,dv] 102 (0,0)):=f.other _ _ _ _ h.box (by decide);have sz:=Nat.le_trans h.size g.size
 have e:zs.length+ys.length=(zs++ys).length:=by simp
 rw[e] at o;have o2:=o.kept (gsc u q 0 v') (.inr (WrP.far o bx));refine ⟨bx,⟨heap_set2 u q _ _ v' _ bx,o2,h.bq,by simpa [World.setCell] using sz⟩,f2.trans ⟨(Below.refl B u).grown (gsc u q 0 v') sz (fun k hk=>by injection hk with e;have:=h.bq;omega),fun i o hi _ hq=>(heap_setCell_other u _ i v' (by simpa using hq)).trans hi⟩⟩
theorem two_cells {w:World} {q:Nat} {v0 v1:Value} {t:TypeId} (h:w.heap[q]? = some (.cells #[v0,v1] t (0,0))):(w.cell? ⟨q,0,none⟩=some v0∧w.cell? ⟨q,1,none⟩=some v1)∧w.frozen? ⟨q,0,none⟩=false :=
 ⟨⟨by rw[cell_of_row w q 0 _ _ (0,0) h];rfl,by rw[cell_of_row w q 1 _ _ (0,0) h];rfl⟩,frozen_of_row w q _ _ _ h⟩
def PrA (B q:Nat) (dv:Value) (w:World) (zs:List Int) (e:Ending) (u:World):Prop:=e = .returned (.tuple #[])∧∃ v',WrP B q dv u v' zs∧FrP B q w u
theorem closeT (B q:Nat) (dv v:Value) (zs:List Int) (w:World) (h:WrP B q dv w v zs) (hb:zs.length+1≤1000000) :
  Calls Tryz.prog 108 #[.pointer (some ⟨q,0,none⟩)] w fun e u=>PrA B q dv w (zs++[41]) e u:=by
 obtain ⟨i0,hi,hz0,hz1,hz2⟩:=info_parts infoS;obtain ⟨⟨y0,y1⟩,yf⟩:=h.cell;have HW:Hid _:=h;have EZ:Hid (zs++[41]=zs++[41]):=rfl;clear h;go_enter Tryz.func108,Tryz.ntmps108;have ga:=gal w (.cells #[.int .u8 41] 5) none;have AN:Hid (WrP B q dv (w.alloc (.cells #[.int .u8 41] 5)) v zs∧Reads (w.alloc (.cells #[.int .u8 41] 5)) (some ⟨w.heap.size,0,none⟩) 1 [41]∧FrP B q w (w.alloc (.cells #[.int .u8 41] 5))):=⟨HW.out.grown ga,readsOneB w 41 5,FrP.grown ga HW.out.size⟩;clear ga;go_wp2_with (at_builtin;go_must (refine wpList_appB rfl _ _ 23 rfl B i0 (.int .u8 0) Tryz.underlying23 hi hz0 hz1 hz2 rfl v zs.length zs rfl AN.out.1.own (some ⟨w.heap.size,0,none⟩) 1 1 [41] rfl AN.out.2.1 (by simp) (by omega) AN.out.1.size ?_);intro v9 u9 o9 g9 n9;obtain ⟨-,a9,c9,rfl,-⟩:=ownsS o9;have X9:=AN.out.1.next (ys:=[41]) o9 g9;obtain ⟨⟨k0,k1⟩,kf⟩:=two_cells X9.1;have FF:Hid (WrP B q dv (u9.setCell ⟨q,0,none⟩ (.slice a9 (zs.length+1) c9)) (.slice a9 (zs.length+1) c9) (zs++[41])∧FrP B q w (u9.setCell ⟨q,0,none⟩ (.slice a9 (zs.length+1) c9))):=⟨X9.2.1.as EZ.out.symm,AN.out.2.2.trans X9.2.2⟩;clear AN HW o9 g9 n9 X9 y0 y1 yf)
 (try simp only[Exit.inBlock,Exit.then])
 refine bodyPost_end (results_noneK (P:=Tryz.prog) Tryz.results108 _ _) rfl ?_;exact ⟨rfl,_,FF.out⟩
theorem endLineT (B q:Nat) (dv v:Value) (zs:List Int) (w:World) (h:WrP B q dv w v zs) (hb:zs.length+1≤1000000) :
  Calls Tryz.prog 70 #[.pointer (some ⟨q,0,none⟩)] w fun e u=>PrA B q dv w (zs++[10]) e u:=by
 obtain ⟨i0,hi,hz0,hz1,hz2⟩:=info_parts infoS;obtain ⟨⟨y0,y1⟩,yf⟩:=h.cell;have HW:Hid _:=h;have EZ:Hid (zs++[10]=zs++[10]):=rfl;clear h;go_enter Tryz.func70,Tryz.ntmps70;have ga:=gal w (.cells #[.int .u8 10] 5) none;have AN:Hid (WrP B q dv (w.alloc (.cells #[.int .u8 10] 5)) v zs∧Reads (w.alloc (.cells #[.int .u8 10] 5)) (some ⟨w.heap.size,0,none⟩) 1 [10]∧FrP B q w (w.alloc (.cells #[.int .u8 10] 5))):=⟨HW.out.grown ga,readsOneB w 10 5,FrP.grown ga HW.out.size⟩;clear ga;go_wp2_with (at_builtin;go_must (refine wpList_appB rfl _ _ 23 rfl B i0 (.int .u8 0) Tryz.underlying23 hi hz0 hz1 hz2 rfl v zs.length zs rfl AN.out.1.own (some ⟨w.heap.size,0,none⟩) 1 1 [10] rfl AN.out.2.1 (by simp) (by omega) AN.out.1.size ?_);intro v9 u9 o9 g9 n9;obtain ⟨-,a9,c9,rfl,-⟩:=ownsS o9;have X9:=AN.out.1.next (ys:=[10]) o9 g9;obtain ⟨⟨k0,k1⟩,kf⟩:=two_cells X9.1;have FF:Hid (WrP B q dv (u9.setCell ⟨q,0,none⟩ (.slice a9 (zs.length+1) c9)) (.slice a9 (zs.length+1) c9) (zs++[10])∧FrP B q w (u9.setCell ⟨q,0,none⟩ (.slice a9 (zs.length+1) c9))):=⟨X9.2.1.as EZ.out.symm,AN.out.2.2.trans X9.2.2⟩;clear AN HW o9 g9 n9 X9 y0 y1 yf)
 (try simp only[Exit.inBlock,Exit.then])
 refine bodyPost_end (results_noneK (P:=Tryz.prog) Tryz.results70 _ _) rfl ?_;exact ⟨rfl,_,FF.out⟩
theorem gapT (B q:Nat) (dv v:Value) (zs:List Int) (w:World) (h:WrP B q dv w v zs) (hb:zs.length+1≤1000000) :
  Calls Tryz.prog 140 #[.pointer (some ⟨q,0,none⟩)] w fun e u=>PrA B q dv w (gapZ zs) e u:=by
 obtain ⟨i0,hi,hz0,hz1,hz2⟩:=info_parts infoS;obtain ⟨⟨y0,y1⟩,yf⟩:=h.cell;obtain ⟨-,a,c,rfl,hO⟩:=ownsS h.own;have hR:=hO.reads;have HW:Hid _:=h;clear h hO;by_cases h0:zs=[]
 ·
  subst h0;have EZ:Hid (gapZ []=[]):=rfl;clear hR;go_enter Tryz.func140,Tryz.ntmps140;go_wp2
  (try simp only[Exit.inBlock,Exit.then])
  refine bodyPost_end (results_noneK (P:=Tryz.prog) Tryz.results140 _ _) rfl ?_;exact ⟨rfl,_,HW.out.as EZ.out.symm,FrP.refl _ _ _⟩
 obtain ⟨m,hm⟩:∃ m,zs.length=m+1:=⟨zs.length - 1,by have:=List.length_pos_iff.2 h0;omega⟩
 obtain ⟨g,o,rfl,hc⟩:∃ g o,a=some ⟨g,o,none⟩∧∀ i,i < zs.length→w.cell? ⟨g,o+i,none⟩=some (.int .u8 (zs.getD i 0)):=by
  rcases hR.2 with e|h
  ·
   omega
  ·
   exact h
 have kz:=hc m (by omega);obtain ⟨z,hz⟩:∃ z,zs.getD m 0=z:=⟨_,rfl⟩;rw[hz] at kz
 have EG:gapB zs=(!decide (z=40) && !decide (z=10)):=by rw[gapB_at h0,hm,Nat.add_sub_cancel,hz]
 have eN:((zs.length:Nat):Int)=(m:Int)+1:=by omega
 have hpos:(0:Int) < ((zs.length:Nat):Int):=by omega
 clear hc hR hz h0;by_cases h40:z=40
 ·
  have EZ:Hid (gapZ zs=zs):=by show _=_;unfold gapZ;rw[EG,h40];rfl
  subst h40;clear EG;go_enter Tryz.func140,Tryz.ntmps140;go_wp2
  (try simp only[Exit.inBlock,Exit.then])
  refine bodyPost_end (results_noneK (P:=Tryz.prog) Tryz.results140 _ _) rfl ?_;exact ⟨rfl,_,HW.out.as EZ.out.symm,FrP.refl _ _ _⟩
 by_cases h10:z=10
 ·
  have EZ:Hid (gapZ zs=zs):=by show _=_;unfold gapZ;rw[EG,h10];rfl
  subst h10;clear EG;go_enter Tryz.func140,Tryz.ntmps140;go_wp2
  (try simp only[Exit.inBlock,Exit.then])
  refine bodyPost_end (results_noneK (P:=Tryz.prog) Tryz.results140 _ _) rfl ?_;exact ⟨rfl,_,HW.out.as EZ.out.symm,FrP.refl _ _ _⟩
 have EZ:Hid (gapZ zs=zs++[32]):=by show _=_;unfold gapZ;rw[EG];simp [h40,h10]
 clear EG
 have n40:(z != 40)=true:=by simpa using h40
 have n10:(z != 10)=true:=by simpa using h10
 go_enter Tryz.func140,Tryz.ntmps140;go_upto_region 2 with fail;rw[hm] at HW y0;clear kz hpos eN hm;have ga:=gal w (.cells #[.int .u8 32] 5) none;have AN:Hid (WrP B q dv (w.alloc (.cells #[.int .u8 32] 5)) (.slice (some ⟨g,o,none⟩) (m+1) c) zs∧Reads (w.alloc (.cells #[.int .u8 32] 5)) (some ⟨w.heap.size,0,none⟩) 1 [32]∧FrP B q w (w.alloc (.cells #[.int .u8 32] 5))):=⟨HW.out.grown ga,readsOneB w 32 5,FrP.grown ga HW.out.size⟩;clear ga;go_wp2_with (at_builtin;go_must (refine wpList_appB rfl _ _ 23 rfl B i0 (.int .u8 0) Tryz.underlying23 hi hz0 hz1 hz2 rfl (.slice (some ⟨g,o,none⟩) (m+1) c) zs.length zs rfl AN.out.1.own (some ⟨w.heap.size,0,none⟩) 1 1 [32] rfl AN.out.2.1 (by simp) (by omega) AN.out.1.size ?_);intro v9 u9 o9 g9 n9;obtain ⟨-,a9,c9,rfl,-⟩:=ownsS o9;have X9:=AN.out.1.next (ys:=[32]) o9 g9;obtain ⟨⟨k0,k1⟩,kf⟩:=two_cells X9.1;have FF:Hid (WrP B q dv (u9.setCell ⟨q,0,none⟩ (.slice a9 (zs.length+1) c9)) (.slice a9 (zs.length+1) c9) (gapZ zs)∧FrP B q w (u9.setCell ⟨q,0,none⟩ (.slice a9 (zs.length+1) c9))):=⟨X9.2.1.as EZ.out.symm,AN.out.2.2.trans X9.2.2⟩;clear AN HW o9 g9 n9 X9 y0 y1 yf)
 (try simp only[Exit.inBlock,Exit.then])
 refine bodyPost_end (results_noneK (P:=Tryz.prog) Tryz.results140 _ _) rfl ?_;exact ⟨rfl,_,FF.out⟩
theorem wordT (B q:Nat) (dv v:Value) (zs:List Int) (st:ByteArray) (ys:List Int) (w:World) (h:WrP B q dv w v zs) (hy:ofB st.data.toList=ys) (hb:zs.length+ys.length+1≤1000000) :
  Calls Tryz.prog 105 #[.pointer (some ⟨q,0,none⟩),.string st] w fun e u=>PrA B q dv w (gapZ zs++ys) e u:=by
 obtain ⟨i0,hi,hz0,hz1,hz2⟩:=info_parts infoS;have C0:Hid _:=gapT B q dv v zs w h (by omega);have hgl:=gapZ_len zs;clear h;go_enter Tryz.func105,Tryz.ntmps105;go_wp2_with fail;refine Calls.mono C0.out ?_;rintro e u ⟨rfl,v1,hW,hF⟩;have HW:Hid (WrP B q dv u v1 (gapZ zs)∧FrP B q w u):=⟨hW,hF⟩;obtain ⟨⟨y0,y1⟩,yf⟩:=hW.cell;clear hW hF C0;simp only[];obtain ⟨xs,hxs⟩:∃ xs,gapZ zs=xs:=⟨_,rfl⟩;have EX:Hid (xs=gapZ zs):=hxs.symm;rw[hxs] at HW hgl;clear hxs;go_wp2_with (at_builtin;go_must (refine wpList_strB rfl _ _ 23 9 rfl B i0 Tryz.underlying23 Tryz.underlying9 hi hz0 hz1 hz2 v1 xs.length xs rfl HW.out.1.own st ys rfl hy (by omega) HW.out.1.size ?_);intro v2 u2 o2 g2;obtain ⟨-,a2,c2,rfl,-⟩:=ownsS o2;have X9:=HW.out.1.next o2 g2;obtain ⟨⟨k0,k1⟩,kf⟩:=two_cells X9.1;have FF:Hid (WrP B q dv (u2.setCell ⟨q,0,none⟩ (.slice a2 (xs.length+ys.length) c2)) (.slice a2 (xs.length+ys.length) c2) (gapZ zs++ys)∧FrP B q w (u2.setCell ⟨q,0,none⟩ (.slice a2 (xs.length+ys.length) c2))):=⟨X9.2.1.as (by rw[EX.out]),HW.out.2.trans X9.2.2⟩;clear HW o2 g2 X9 y0 y1 yf)
 (try simp only[Exit.inBlock,Exit.then])
 refine bodyPost_end (results_noneK (P:=Tryz.prog) Tryz.results105 _ _) rfl ?_;exact ⟨rfl,_,FF.out⟩
theorem openT2 (B q:Nat) (dv v:Value) (zs:List Int) (w:World) (h:WrP B q dv w v zs) (hb:zs.length+2≤1000000) :
  Calls Tryz.prog 104 #[.pointer (some ⟨q,0,none⟩)] w fun e u=>PrA B q dv w (gapZ zs++[40]) e u:=by
 have C0:Hid _:=wordT B q dv v zs ⟨#[40]⟩ [40] w h rfl (by simp;omega);clear h;go_enter Tryz.func104,Tryz.ntmps104;go_wp2_with fail;refine Calls.mono C0.out ?_;rintro e u ⟨rfl,v1,hW,hF⟩;have HW:Hid (WrP B q dv u v1 (gapZ zs++[40])∧FrP B q w u):=⟨hW,hF⟩;clear hW hF C0;simp only[];go_wp2
 (try simp only[Exit.inBlock,Exit.then])
 refine bodyPost_end (results_noneK (P:=Tryz.prog) Tryz.results104 _ _) rfl ?_;exact ⟨rfl,v1,HW.out⟩
end Go.Proofs.YtblbnillilbacaaGreatDoor.By
namespace Go.Proofs
open Go.Shelf
def Tryz.laysM171_ren:Go.Shelf.Ren:=⟨fun|171=>106|243=>141|246=>155|283=>168|284=>169|285=>170|286=>171|129=>176|317=>175|318=>177|319=>178|320=>179|337=>184|338=>185|n=>n,fun|3=>3|9=>9|2=>2|4=>4|171=>203|0=>0|53=>120|37=>23|5=>5|173=>206|212=>212|51=>213|20=>20|213=>214|46=>215|232=>220|233=>221|n=>n,fun|17=>2|18=>3|19=>4|n=>n⟩
theorem Tryz.laysM171:Go.Proofs.LaysM.n171 Tryz.prog Tryz.laysM171_ren:={
 mixed:=by kernel_rfl
 f129:=Tryz.func176.trans (congrArg some (by kernel_rfl))
 f171:=Tryz.func106.trans (congrArg some (by kernel_rfl))
 f243:=Tryz.func141.trans (congrArg some (by kernel_rfl))
 f246:=Tryz.func155.trans (congrArg some (by kernel_rfl))
 f283:=Tryz.func168.trans (congrArg some (by kernel_rfl))
 f284:=Tryz.func169.trans (congrArg some (by kernel_rfl))
 f285:=Tryz.func170.trans (congrArg some (by kernel_rfl))
 f286:=Tryz.func171.trans (congrArg some (by kernel_rfl))
 f317:=Tryz.func175.trans (congrArg some (by kernel_rfl))
 f318:=Tryz.func177.trans (congrArg some (by kernel_rfl))
 f319:=Tryz.func178.trans (congrArg some (by kernel_rfl))
 f320:=Tryz.func179.trans (congrArg some (by kernel_rfl))
 f337:=Tryz.func184.trans (congrArg some (by kernel_rfl))
 f338:=Tryz.func185.trans (congrArg some (by kernel_rfl))
 t0:=Tryz.underlying0
 a0:=Tryz.isAgg0
 z0:=Tryz.sizeOf0
 v0:=Tryz.zeroValue0
 t2:=Tryz.underlying2
 a2:=Tryz.isAgg2
 z2:=Tryz.sizeOf2
 v2:=Tryz.zeroValue2
 t3:=Tryz.underlying3
 a3:=Tryz.isAgg3
 z3:=Tryz.sizeOf3
 v3:=Tryz.zeroValue3
 t4:=Tryz.underlying4
 a4:=Tryz.isAgg4
 z4:=Tryz.sizeOf4
 v4:=Tryz.zeroValue4
 t5:=Tryz.underlying5
 a5:=Tryz.isAgg5
 z5:=Tryz.sizeOf5
 v5:=Tryz.zeroValue5
 t9:=Tryz.underlying9
 a9:=Tryz.isAgg9
 z9:=Tryz.sizeOf9
 v9:=Tryz.zeroValue9
 t20:=Tryz.underlying20
 a20:=Tryz.isAgg20
 z20:=Tryz.sizeOf20
 v20:=Tryz.zeroValue20
 t37:=Tryz.underlying23
 a37:=Tryz.isAgg23
 z37:=Tryz.sizeOf23
 v37:=Tryz.zeroValue23
 t46:=Tryz.underlying215
 a46:=Tryz.isAgg215
 z46:=Tryz.sizeOf215
 v46:=Tryz.zeroValue215
 t51:=Tryz.underlying213
 a51:=Tryz.isAgg213
 z51:=Tryz.sizeOf213
 v51:=Tryz.zeroValue213
 t53:=Tryz.underlying120
 a53:=Tryz.isAgg120
 z53:=Tryz.sizeOf120
 v53:=Tryz.zeroValue120
 t171:=Tryz.underlying203
 a171:=Tryz.isAgg203
 z171:=Tryz.sizeOf203
 v171:=Tryz.zeroValue203
 t173:=Tryz.underlying206
 a173:=Tryz.isAgg206
 z173:=Tryz.sizeOf206
 v173:=Tryz.zeroValue206
 t212:=Tryz.underlying212
 a212:=Tryz.isAgg212
 z212:=Tryz.sizeOf212
 v212:=Tryz.zeroValue212
 t213:=Tryz.underlying214
 a213:=Tryz.isAgg214
 z213:=Tryz.sizeOf214
 t232:=Tryz.underlying220
 a232:=Tryz.isAgg220
 z232:=Tryz.sizeOf220
 v232:=Tryz.zeroValue220
 t233:=Tryz.underlying221
 a233:=Tryz.isAgg221
 z233:=Tryz.sizeOf221
 v233:=Tryz.zeroValue221
 g17:=by kernel_rfl
 g18:=by kernel_rfl
 g19:=by kernel_rfl
 i0:=by kernel_rfl
 i2:=by kernel_rfl
 i3:=by kernel_rfl
 i4:=by kernel_rfl
 i5:=by kernel_rfl
 i9:=by kernel_rfl
 i20:=by kernel_rfl
 i37:=by kernel_rfl
 i46:=by kernel_rfl
 i51:=by kernel_rfl
 i53:=by kernel_rfl
 i171:=by kernel_rfl
 i173:=by kernel_rfl
 i212:=by kernel_rfl
 i232:=by kernel_rfl
 i233:=by kernel_rfl
 m17:=by kernel_rfl
 m18:=by kernel_rfl
 m19:=by kernel_rfl }
open Go.RowKit in
theorem Tryz.strconv_Itoa (n:Int) (h0:-9223372036854775808≤n) (h1:n≤9223372036854775807) (w:World)
  (htab : Lib.TabIs Tryz.prog w "internal/strconv.uint64pow10" .u64 Lib.pow10Tab) :
  Calls Tryz.prog 106 #[.int .i64 n] w fun e w'=>e = .returned (.string ⟨(Lib.itoa n).toArray⟩)∧∃ k os,w' = Go.Sort.grow (w.drewN k) os:=Any.strconv_Itoa Tryz.laysM171 n h0 h1 w htab
end Go.Proofs
