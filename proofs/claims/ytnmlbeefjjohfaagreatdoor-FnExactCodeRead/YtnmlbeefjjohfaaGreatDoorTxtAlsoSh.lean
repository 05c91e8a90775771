/-
  No statement is proved here.
-/
import Derived.Test.YtnmlbeefjjohfaaGreatDoorTByLAlsoSh
namespace Go.Proofs.YtnmlbeefjjohfaaGreatDoor.By
set_option maxRecDepth 100000
set_option maxHeartbeats 16000000
open Go.RowKit
set_option linter.unusedVariables false
set_option linter.unusedSimpArgs false
theorem newsQ {w:World} {b off n:Nat} {zs:List Int} (hl:zs.length=n) (hc:∀ i,i < n→w.cell? ⟨b,off+i,none⟩=some (.int .u8 (zs.getD i 0))):∀ j u,(vals zs)[j]? = some u→w.cell? ((⟨b,off,none⟩:Addr).add j)=some u:=by
 intro j u hu
 have hj:j < zs.length:=by
  have:=(List.getElem?_eq_some_iff.1 hu).1;simpa [vals] using this
 have e:(vals zs)[j]? = some (.int .u8 (zs.getD j 0)):=by simp [vals,hj]
 rw[e] at hu;rw[Go.WideShapes.add_plain,hc j (by omega),hu]
theorem oneQ (zs:List Int):∀ u ∈ vals zs,u.oneCell' = true:=by
 intro u hu;simp only[vals,List.mem_map] at hu;obtain ⟨x,_,rfl⟩:=hu;rfl
theorem run_appQ {P:Program} {w:World} (t ty:TypeId) (B:Nat) (i:TypeInfo) (z:Value) (ht:P.underlying t=some (.slice 5)) (hi:P.info? 5=some i) (hz:i.zero=some z)
  (hsize:i.size=1) (hby:i.bytes=1) (hzs:z.cells.size=1) (v:Value) (n:Nat) (zs:List Int) (hown:w.ownsRow B 5 1 v n (vals zs)) (src:Option Addr) (m c:Nat) (ys:List Int)
  (hr:Reads w src m ys) (hn:src=none→c=0) (hm:n+m≤200000000) (hB:B≤w.heap.size) :
  ∃ v' w',(Builtin.append_ #[t,t] ty #[v,.slice src m c]).run P w = .ok v' w'∧w'.ownsRow B 5 1 v' (n+m) (vals (zs++ys))∧w.grownBy w' v.ownBlock∧(v' = .slice none 0 0 ↔ v = .slice none 0 0∧m=0):=by
 obtain ⟨hl,hr⟩:=hr
 cases src with
 | none =>
  obtain rfl:=hn rfl
  obtain rfl:m=0:=by
   rcases hr with h|⟨_,_,h,_⟩
   ·
    exact h
   ·
    cases h
  obtain rfl:ys=[]:=lz0 (by omega);exact ⟨v,w,run_append_owned_none (P:=P) (w:=w) B t ty 5 i 1 ht hi v n _ hown,by simpa using hown,grf _ _,by simp⟩
 | some ad =>
  have hnews:∀ j u,(vals ys)[j]? = some u→w.cell? (ad.add j)=some u:=by
   rcases hr with h|⟨b,off,h,hc⟩
   ·
    have:ys=[]:=lz0 (by omega);subst this;intro j u hu;simp [vals] at hu
   ·
    cases h;exact newsQ hl hc
  obtain ⟨v',w',h1,h2,h3,h4⟩:=run_append_own (P:=P) w B t ty 5 i z 1 1 ht hi hz hsize hby hzs (by decide) v n (vals zs) hown ad m c (vals ys) (by simp [vals,hl]) hnews (oneQ ys) (by simp [maxLen];omega) (by omega) hB;exact ⟨v',w',h1,by simpa [vals] using h2,h3,h4⟩
def LitQ (B:Nat) (w:World) (v:Value) (zs:List Int):Prop :=
 ∃ g fr z0 z1,v = .slice (some ⟨g,0,none⟩) 2 2∧B≤g∧w.heap[g]? = some (.cells #[.int .u8 z0,.int .u8 z1] 5 fr)∧zs=[z0,z1]
def OwnQ (B:Nat) (w:World) (v:Value) (n:Nat) (zs:List Int):Prop:=(w.ownsRow B 5 1 v n (vals zs)∧zs.length=n)∨(LitQ B w v zs∧n=2)
theorem LitQ.kept {B:Nat} {w u:World} {v:Value} {zs:List Int} {row:Option Nat} (h:LitQ B w v zs) (k:w.grownBy u row) (hne:v.ownBlock≠row):LitQ B u v zs:=by
 obtain ⟨g,fr,z0,z1,rfl,hB,hg,rfl⟩:=h;exact ⟨g,fr,z0,z1,rfl,hB,(k.block _ (lbk hg) hne).trans hg,rfl⟩
theorem OwnQ.row {B:Nat} {w:World} {v:Value} {n:Nat} {zs:List Int} (h:OwnQ B w v n zs):v = .slice none 0 0∨∃ g cur fr cap,v = .slice (some ⟨g,0,none⟩) n cap∧B≤g∧w.heap[g]? = some (.cells cur 5 fr):=by
 rcases h with ⟨h,_⟩|⟨⟨g,fr,z0,z1,rfl,hB,hg,_⟩,rfl⟩
 ·
  rcases h.2 with ⟨h,_⟩|⟨g,cap,cur,e,hB,hg,_⟩
  ·
   exact .inl h
  ·
   exact .inr ⟨g,cur,_,cap,e,hB,hg⟩
 ·
  exact .inr ⟨g,_,fr,2,rfl,hB,hg⟩
theorem run_litQ {P:Program} {w:World} (t ty:TypeId) (B:Nat) (i:TypeInfo) (z:Value) (ht:P.underlying t=some (.slice 5)) (hi:P.info? 5=some i) (hz:i.zero=some z)
  (hsize:i.size=1) (hby:i.bytes=1) (hzs:z.cells.size=1) (v:Value) (zs:List Int) (hown:LitQ B w v zs) (src:Option Addr) (m c:Nat) (ys:List Int)
  (hr:Reads w src m ys) (hn:src=none→c=0) (hm:2+m≤200000000) (hB:B≤w.heap.size) :
  ∃ v' w',(Builtin.append_ #[t,t] ty #[v,.slice src m c]).run P w = .ok v' w'∧OwnQ B w' v' (2+m) (zs++ys)∧w.grownBy w' none∧v'≠.slice none 0 0:=by
 obtain ⟨g,fr,z0,z1,rfl,hBg,hg,rfl⟩:=hown;obtain ⟨hl,hr⟩:=hr
 have cc:=fun j=>cell_of_row w g j _ _ fr hg
 cases src with
 | none =>
  obtain rfl:=hn rfl
  obtain rfl:m=0:=by
   rcases hr with h|⟨_,_,h,_⟩
   ·
    exact h
   ·
    cases h
  obtain rfl:ys=[]:=lz0 (by omega);have sr:Src P i.size t (.slice none 0 0) 0 [] w:=⟨.inl ⟨5,ht⟩,fun _=>rfl,run_firstCells_none w i.size 0 0 0,run_firstCells_none w.drew i.size 0 0 0,by simp,by simp⟩;have r:=run_append_room_src (P:=P) w t t ty 5 i ht hi g 0 2 2 (.slice none 0 0) 0 [] sr (by omega) (by intro j hj;simp at hj) (by intro j hj;simp at hj);have e0:w.setCells g (0+2 * i.size) []=w:=rfl;rw[e0] at r;exact ⟨.slice (some ⟨g,0,none⟩) 2 2,w,r,.inr ⟨⟨g,fr,z0,z1,rfl,hBg,hg,by simp⟩,rfl⟩,grf _ _,by intro e;cases e⟩
 | some ad =>
  have hnews:∀ j u,(vals ys)[j]? = some u→w.cell? (ad.add j)=some u:=by
   rcases hr with h|⟨b,off,h,hc⟩
   ·
    have:ys=[]:=lz0 (by omega);subst this;intro j u hu;simp [vals] at hu
   ·
    cases h;exact newsQ hl hc
  have sr:Src P i.size t (.slice (some ad) m c) m (vals ys) w:=Src.ofSlice w ht ad m c _ (by simp [vals,hl,hsize]) hnews (oneQ ys);by_cases h0:m=0
  ·
   subst h0;obtain rfl:ys=[]:=lz0 (by omega);have r:=run_append_room_src (P:=P) w t t ty 5 i ht hi g 0 2 2 (.slice (some ad) 0 c) 0 [] (by simpa [vals] using sr) (by omega) (by intro j hj;simp at hj) (by intro j hj;simp at hj);have e0:w.setCells g (0+2 * i.size) []=w:=rfl;rw[e0] at r;exact ⟨_,_,r,.inr ⟨⟨g,fr,z0,z1,rfl,hBg,hg,by simp⟩,rfl⟩,grf w none,by intro e;cases e⟩
  ·
   have hold:(Builtin.firstCells i.size 2 (.slice (some ⟨g,0,none⟩) 2 2)).run P w.drew = .ok (vals [z0,z1]).toArray w.drew:=by
    refine run_firstCells_some w.drew i.size 2 ⟨g,0,none⟩ 2 2 _ (by simp [vals,hsize]) (fun j u hu=>?_);rw[Go.WideShapes.add_plain,Nat.zero_add]
    have hj:j < 2:=by have:=(List.getElem?_eq_some_iff.1 hu).1;simpa [vals] using this
    have:j=0∨j=1:=by omega
    rcases this with rfl|rfl
    ·
     exact (cc 0).trans hu
    ·
     exact (cc 1).trans hu
   have r:=run_append_grow_src (P:=P) w t t ty 5 i z ht hi hz (some ⟨g,0,none⟩) 2 2 (vals [z0,z1]) hold (.slice (some ad) m c) m _ sr (by omega) (by omega) (growslice_fits (by omega) (by rw[hby];omega));have hge:=grownCap_ge w (2+m) 2 5;have hle:=grownCap_le_maxLen w (2+m) 2 5 (by simp only[maxLen];omega);refine ⟨_,_,r,.inl ⟨⟨by simp [vals,hl];omega,.inr ⟨w.heap.size,_,_,rfl,hB,hnw w.drew _,hge,hle,?_,?_⟩⟩,by simp [hl];omega⟩,gtr (grown_drewN w 1 none) (gal _ _ _),by intro e;cases e⟩
   ·
    simp only[Array.size_append,sA9,size_zeroCells,hzs,lA];simp [vals,hl];omega
   ·
    have e:vals [z0,z1]++vals ys=vals ([z0,z1]++ys):=by simp [vals]
    rw[e,Array.toList_append,List.take_append_of_le_length (by simp [vals,hl];omega)];rw[List.take_of_length_le (by simp [vals,hl];omega)]
theorem run_appO {P:Program} {w:World} (t ty:TypeId) (B:Nat) (i:TypeInfo) (z:Value) (ht:P.underlying t=some (.slice 5)) (hi:P.info? 5=some i) (hz:i.zero=some z)
  (hsize:i.size=1) (hby:i.bytes=1) (hzs:z.cells.size=1) (v:Value) (n:Nat) (zs:List Int) (hown:OwnQ B w v n zs) (src:Option Addr) (m c:Nat) (ys:List Int)
  (hr:Reads w src m ys) (hn:src=none→c=0) (hm:n+m≤200000000) (hB:B≤w.heap.size) :
  ∃ v' w',(Builtin.append_ #[t,t] ty #[v,.slice src m c]).run P w = .ok v' w'∧OwnQ B w' v' (n+m) (zs++ys)∧w.grownBy w' v.ownBlock∧(v≠.slice none 0 0→v'≠.slice none 0 0):=by
 rcases hown with ⟨hown,hl⟩|⟨hlit,rfl⟩
 ·
  obtain ⟨v',w',h1,h2,h3,h4⟩:=run_appQ (P:=P) t ty B i z ht hi hz hsize hby hzs v n zs hown src m c ys hr hn hm hB;exact ⟨v',w',h1,.inl ⟨h2,by rw[lA,hl,hr.1]⟩,h3,fun hv e=>hv (h4.1 e).1⟩
 ·
  obtain ⟨v',w',h1,h2,h3,h4⟩:=run_litQ (P:=P) t ty B i z ht hi hz hsize hby hzs v zs hlit src m c ys hr hn hm hB;exact ⟨v',w',h1,h2,grown_none h3 _,fun _=>h4⟩
theorem wp_appQ {P:Program} {w:World} {o:Oper} {ac:Act} {K:Act→World→Prop} {Q:Exit→Act→World→Prop}
  (s x:Operand) (t:TypeId) (ho:o.op = .call { callee:=.builtin .append,args:=#[s,x],argTypes:=#[t,t] })
  (B:Nat) (i:TypeInfo) (z:Value) (ht:P.underlying t=some (.slice 5)) (hi:P.info? 5=some i) (hz:i.zero=some z) (hsize:i.size=1) (hby:i.bytes=1) (hzs:z.cells.size=1)
  (v:Value) (n:Nat) (zs:List Int) (hs:ac.eval s=v) (hown:OwnQ B w v n zs) (src:Option Addr) (m c:Nat) (ys:List Int) (hx:ac.eval x = .slice src m c) (hr:Reads w src m ys) (hn:src=none→c=0) (hm:n+m≤200000000) (hB:B≤w.heap.size)
  (H:∀ v' w',OwnQ B w' v' (n+m) (zs++ys)→w.grownBy w' v.ownBlock→(v≠.slice none 0 0→v'≠.slice none 0 0)→K (ac.put o.dst v') w') :
  Oper.wp P o ac w K Q:=by
 obtain ⟨v',w',hr',h2,h3,h4⟩:=run_appO (P:=P) (w:=w) t o.type B i z ht hi hz hsize hby hzs v n zs hown src m c ys hr hn hm hB;unfold Oper.wp execOp;simp only[ho,resolve,invoke,builtin,Sem.run_bind,Sem.run_pure,Result.andThen_ok,List.map_toArray,List.map_cons,List.map_nil,hs,hx,hr'];exact H v' w' h2 h3 h4
theorem step_ofQ {P:Program} {ops:Array Oper} {o:Oper} {ac:Act} {w:World} {K:Act→World→Prop} {Q:Exit→Act→World→Prop} {E:Prop} (hg:o.guard=none) (h:Oper.wp P o ac w K Q):if Region.wanted o (yielded ops ac.tmps)=true then Oper.wp P o ac w K Q else E:=by
 have hw:Region.wanted o (yielded ops ac.tmps)=true:=by simp [Region.wanted,hg]
 rw[if_pos hw];exact h
structure FrQ (B q:Nat) (w u:World):Prop where
 below:Below B w u
 other:∀ (i:Nat) (cur:Array Value) (t:TypeId) (r:Nat × Nat),w.heap[i]? = some (.cells cur t r)→t≠5→i≠q→u.heap[i]? = some (.cells cur t r)
theorem FrQ.refl (B q:Nat) (w:World):FrQ B q w w:=⟨Below.refl _ _,fun _ _ _ _ h _ _=>h⟩
theorem FrQ.trans {B q:Nat} {a b c:World} (h:FrQ B q a b) (k:FrQ B q b c):FrQ B q a c:=⟨h.below.trans k.below,fun i cur t r hi ht hq=>k.other i cur t r (h.other i cur t r hi ht hq) ht hq⟩
theorem Fr.q {B q:Nat} {w u:World} (h:Fr B w u):FrQ B q w u:=⟨h.below,fun i cur t r hi ht _=>h.other i cur t r hi ht⟩
theorem FrQ.grown {B q:Nat} {w u:World} (h:w.grownBy u none) (hB:B≤w.heap.size):FrQ B q w u:=(Fr.grown h hB).q
theorem FrQ.set {B q:Nat} {w:World} (v:Value) (hB:B≤q) (hs:B≤w.heap.size):FrQ B q w (w.setCell ⟨q,0,none⟩ v) :=
 ⟨(Below.refl B w).grown (gsc w q 0 v) hs (fun k hk=>by injection hk with e;omega),fun i cur t r hi _ hq=>(heap_setCell_other w _ i v (by simpa using hq)).trans hi⟩
theorem OwnQ.form {B n:Nat} {w:World} {v:Value} {zs:List Int} (h:OwnQ B w v n zs) (nv:v≠.slice none 0 0):∃ g cap,v = .slice (some ⟨g,0,none⟩) n cap:=by
 rcases h.row with e|⟨g,cur,fz,cap,e,_⟩
 ·
  exact absurd e nv
 ·
  exact ⟨g,cap,e⟩
theorem OwnQ.keptQ {B n:Nat} {w u:World} {v:Value} {zs:List Int} (h:OwnQ B w v n zs) (k:w.grownBy u none):OwnQ B u v n zs:=by
 rcases h with ⟨h,hl⟩|⟨h,hl⟩
 ·
  exact .inl ⟨h.kept k (Classical.em _),hl⟩
 ·
  refine .inr ⟨?_,hl⟩;obtain ⟨g,fr,z0,z1,rfl,hB,hg,rfl⟩:=h;exact ⟨g,fr,z0,z1,rfl,hB,(k.block _ (lbk hg) (by simp)).trans hg,rfl⟩
structure WrS (B q:Nat) (w:World) (v:Value) (zs:List Int):Prop where
 box:w.heap[q]? = some (.cells #[v] 102 (0,0))
 own:OwnQ B w v zs.length zs
 nn:v≠.slice none 0 0
 bq:B≤q
 size:B≤w.heap.size
theorem WrS.grown {B q:Nat} {w u:World} {v:Value} {zs:List Int} (h:WrS B q w v zs) (k:w.grownBy u none):WrS B q u v zs :=
 ⟨(k.block _ (lbk h.box) (by simp)).trans h.box,h.own.keptQ k,h.nn,h.bq,Nat.le_trans h.size k.size⟩
theorem WrS.cell {B q:Nat} {w:World} {v:Value} {zs:List Int} (h:WrS B q w v zs):w.cell? ⟨q,0,none⟩=some v∧w.frozen? ⟨q,0,none⟩=false :=
 ⟨by rw[cell_of_row w q 0 _ _ (0,0) h.box];rfl,frozen_of_row w q _ _ _ h.box⟩
theorem box_neQ {w:World} {q g:Nat} {v:Value} {t:TypeId} {cur:Array Value} {fr:Nat × Nat} (h:w.heap[q]? = some (.cells #[v] t (0,0))) (ht:t≠5) (hg:w.heap[g]? = some (.cells cur 5 fr)):q≠g:=by
 rintro rfl;rw[h] at hg;injection hg with e;injection e with _ e2;exact ht e2
theorem WrS.next {B q:Nat} {w u:World} {v v':Value} {zs ys:List Int} (h:WrS B q w v zs) (o:OwnQ B u v' (zs.length+ys.length) (zs++ys)) (g:w.grownBy u v.ownBlock) (nv:v'≠.slice none 0 0) :
  u.heap[q]? = some (.cells #[v] 102 (0,0))∧Fr B w u∧WrS B q (u.setCell ⟨q,0,none⟩ v') v' (zs++ys)∧FrQ B q w (u.setCell ⟨q,0,none⟩ v'):=by
 have fr:Fr B w u:=by
  rcases h.own.row with e|⟨g',cur,fz,cap,rfl,hB,hg'⟩
  ·
   exact absurd e h.nn
  ·
   refine ⟨(Below.refl B w).grown g h.size (fun k hk=>by simp only[Value.ownBlock] at hk;injection hk with hk;omega),fun i cur2 t r hi ht=>(g.block i (lbk hi) ?_).trans hi⟩;simp only[Value.ownBlock];intro e;injection e with e;subst e;rw[hg'] at hi;injection hi with hi;injection hi with _ h2;exact ht h2.symm
 have bx:=fr.other _ _ _ _ h.box (by decide);have sz:=Nat.le_trans h.size g.size
 have e:zs.length+ys.length=(zs++ys).length:=by simp
 rw[e] at o
 have ne:v'.ownBlock≠some q:=by
  rcases o.row with e1|⟨g',cur,fz,cap,e1,_,hg'⟩
  ·
   exact absurd e1 nv
  ·
   rw[e1];simp only[Value.ownBlock];intro e2;injection e2 with e2;exact box_neQ bx (by decide) hg' e2.symm
 have o2:OwnQ B (u.setCell ⟨q,0,none⟩ v') v' (zs++ys).length (zs++ys):=by
  rcases o with ⟨o,hl⟩|⟨o,hl⟩
  ·
   exact .inl ⟨o.kept (gsc u q 0 v') (.inr ne),hl⟩
  ·
   exact .inr ⟨o.kept (gsc u q 0 v') ne,hl⟩
 exact ⟨bx,fr,⟨hsm u q 0 _ _ v' bx,o2,nv,h.bq,by simpa [World.setCell] using sz⟩,fr.q.trans (FrQ.set v' h.bq sz)⟩
theorem readsQ {w:World} {g:Nat} {z:Int} (h:w.heap[g]? = some (.cells #[.int .u8 z] 5 (0,0))):Reads w (some ⟨g,0,none⟩) 1 [z]:=by
 refine ⟨rfl,.inr ⟨_,_,rfl,fun i hi=>?_⟩⟩
 obtain rfl:i=0:=by omega
 rw[cell_of_row w _ _ _ _ (0,0) h];rfl
theorem results_noneQ {P:Program} {fn:Func} (h:fn.results=#[]) (tmps:Array Value) (w:World):(results fn tmps).run P w = .ok (.tuple #[]) w:=by simp [results,h]
def numsB:List Int→List Int
 | []=>[]
 | n::r=>numB n++numsB r
theorem numsB_app (a b:List Int):numsB (a++b)=numsB a++numsB b:=by
 induction a with
 | nil=>rfl
 | cons x r ih=>simp [numsB,ih]
theorem numsB_len (ns:List Int):(numsB ns).length≤5 * ns.length:=by
 induction ns with
 | nil=>simp [numsB]
 | cons x r ih=>have:=numB_len x;simp only[numsB,lA,lB];omega
theorem put0T (z:Int) (u:World):Calls Tryz.prog 103 #[.slice none 0 0,.int .i64 z] u fun e w'=>∃ g,e = .returned (.slice (some ⟨g,0,none⟩) (numB z).length (numB z).length)∧u.grownBy w' none∧Reads w' (some ⟨g,0,none⟩) (numB z).length (numB z):=by
 refine (implPut none 0 0 [] z u (reads_nil u) (by omega)).mono ?_;rintro e w' ⟨g,he,hg,_,hr⟩;rw[Nat.zero_add] at he hr;exact ⟨g,he,hg,by simpa using hr.reads' (n:=(numB z).length) (by simp)⟩
theorem numsT (B q:Nat) (v:Value) (zs:List Int) (ns:List Int) (a:Option Addr) (l c:Nat) (w:World) (h:WrS B q w v zs) (hR:∀ u,FrQ B q w u→RdI u a l ns) (hb:zs.length+5 * l≤90000000) :
  Calls Tryz.prog 91 #[.pointer (some ⟨q,0,none⟩),.slice a l c] w fun e u=>e = .returned (.tuple #[])∧∃ v',WrS B q u v' (zs++numsB ns)∧FrQ B q w u:=by
 have hl:=(hR w (FrQ.refl _ _ _)).2;have hfl:=(hR w (FrQ.refl _ _ _)).1.1;have HR0:Hid (∀ u,FrQ B q w u→RdI u a l ns):=hR;have HW0:Hid (WrS B q w v zs):=h;clear hR h;go_enter Tryz.func91,Tryz.ntmps91;go_wp2
 go_loopw [8] (fun i wr=>∃ (j:Nat) (pre R:List Int) (v1:Value),j≤l∧i = .int .i64 j∧R.length+j=l∧Hid (WrS B q wr v1 (zs++numsB pre)∧FrQ B q w wr∧pre++R=ns)) (fun i _=>l - (intOf i).toNat)
 case atStart=>exact ⟨0,[],ns,v,Nat.zero_le _,rfl,by omega,by simpa [numsB] using HW0.out,FrQ.refl _ _ _,rfl⟩
 case round =>
  clear HW0;obtain ⟨j,pre,R,v0,hj,rfl,hRl,HR⟩:=hrel;by_cases hlt:j < l
  ·
   obtain ⟨z,R',rfl⟩:∃ x R',R=x::R':=by
    cases R with
    | nil=>simp at hRl;omega
    | cons x R'=>exact ⟨x,R',rfl⟩
   obtain ⟨hW,hF,hcs⟩:=HR.out;simp only[lB] at hRl
   obtain ⟨b,o,rfl,hc⟩:∃ b o,a=some ⟨b,o,none⟩∧∀ i,i < l→wr.cell? ⟨b,o+i,none⟩=some (.int .i64 (ns.getD i 0)):=by
    rcases (HR0.out _ hF).1.2 with h|h
    ·
     omega
    ·
     exact h
   have hpl:pre.length=j:=by have:=congrArg List.length hcs;simp at this;omega
   have k0:=hc j hlt;rw[show ns.getD j 0=z by rw[← hcs,List.getD_eq_getElem?_getD,List.getElem?_append_right (by omega),hpl,Nat.sub_self];rfl] at k0;have hn5:=numsB_len pre;obtain ⟨zs0,hzs⟩:∃ zs0,zs++numsB pre=zs0:=⟨_,rfl⟩;have HBD:Hid (zs0.length+5≤90000000∧(numB z).length≤5):=⟨by rw[← hzs];simp only[lA];omega,numB_len z⟩;rw[hzs] at hW;have FX:Hid (FrQ B q w wr∧(pre++[z])++R' = ns∧zs++numsB (pre++[z])=zs0++numB z):=⟨hF,by rw[lD9];exact hcs,by rw[numsB_app,← lD9,hzs];simp [numsB]⟩;clear hF hcs hc HR hzs hn5;obtain ⟨wr0,hwr0⟩:∃ w0,w0=wr.drew:=⟨_,rfl⟩;have gd:=grown_drew (grf wr none)
   have hW1:WrS B q wr0 v0 zs0:=by rw[hwr0];exact hW.grown gd
   have FY:Hid (FrQ B q w wr0):=by rw[hwr0];exact FX.out.1.trans (FrQ.grown gd hW.size)
   have SK:Hid (∀ u,FrQ B q wr0 u→(fun _:World=>True) u):=fun _ _=>trivial
   have CC:Hid (∀ u,_):=fun u=>put0T z u
   have HW1:Hid (WrS B q wr0 v0 zs0):=hW1;clear hW hW1 gd;go_wp2_with fail;refine wp_region_held_drew (S:=(fun _:World=>True)) (by kernel_rfl) trivial (fun hH=>?_);rw[← hwr0];clear hwr0 k0;simp only[sA9,lB,lC,Nat.reduceAdd,Array.replicate,List.replicate];refine tk 0 ?_;refine tk 1 ?_;refine tk 2 ?_;refine tk 3 ?_;refine tk 5 ?_;refine wpAnyH_ready (rs:=[4,6]) (by kernel_rfl) (by simp) ?_;refine AllReadyH.cons rfl (fun K hK=>?_) (AllReadyH.cons rfl (fun K hK=>?_) AllReadyH.nil)
   ·
    obtain ⟨cb,-⟩:=HW1.out.cell;go_simp;refine hK.out _ _ trivial ?_;clear hK K hH;intro hH;simp only[Act.put,nA,nB,nC,nD,nE,nF];clear cb;refine rd 6 rfl (fun K hK=>?_);go_simp;refine Calls.mono (CC.out wr0) ?_;rintro e u1 ⟨g,he,hg,hr⟩;subst he;have AL:Hid (WrS B q u1 v0 zs0∧Reads u1 (some ⟨g,0,none⟩) (numB z).length (numB z)∧(some (⟨g,0,none⟩:Addr)=none→(numB z).length=0)∧FrQ B q wr0 u1):=⟨HW1.out.grown hg,hr,(by intro h;cases h),FrQ.grown hg HW1.out.size⟩;clear CC HW1 hg hr;refine hK.out _ _ trivial ?_;clear hK K hH;intro hH;simp only[Act.put,nA,nB,nC,nD,nE,nF];have AW:=AL.out;obtain ⟨i0,hi,hz0,hz1,hz2⟩:=info_parts info5;refine rd 7 rfl (fun K hK=>?_);refine step_ofQ rfl (wp_appQ _ _ 22 rfl B i0 (.int .u8 0) Tryz.underlying22 hi hz0 hz1 hz2 rfl _ _ _ rfl AW.1.own _ _ _ (numB z) rfl AW.2.1 AW.2.2.1 (by have:=AW.2.1.1;have:=HBD.out;omega) AW.1.size ?_);intro v2 u2 o2 g2 n2;have nv2:v2≠.slice none 0 0:=n2 AW.1.nn
    have o2':OwnQ B u2 v2 (zs0.length+(numB z).length) (zs0++(numB z)):=by rw[AW.2.1.1];exact o2
    obtain ⟨g9,cp9,rfl⟩:=o2'.form nv2;obtain ⟨bx,fr,w2,f2⟩:=AW.1.next o2' g2 nv2
    have cb:u2.cell? ⟨q,0,none⟩=some v0:=by rw[cell_of_row u2 q 0 _ _ (0,0) bx];rfl
    have fz:=frozen_of_row u2 q 0 _ _ bx;have AM:Hid (WrS B q (u2.setCell ⟨q,0,none⟩ (.slice (some ⟨g9,0,none⟩) (zs0.length+(numB z).length) cp9)) (.slice (some ⟨g9,0,none⟩) (zs0.length+(numB z).length) cp9) (zs0++(numB z))∧FrQ B q wr0 (u2.setCell ⟨q,0,none⟩ (.slice (some ⟨g9,0,none⟩) (zs0.length+(numB z).length) cp9))):=⟨w2,AW.2.2.2.trans f2⟩;have S1:Hid ((fun _:World=>True) u2):=SK.out _ (AW.2.2.2.trans fr.q);have S2:Hid ((fun _:World=>True) (u2.setCell ⟨q,0,none⟩ (.slice (some ⟨g9,0,none⟩) (zs0.length+(numB z).length) cp9))):=SK.out _ AM.out.2;clear AL AW o2 o2' g2 n2 nv2 bx fr w2 f2 hi hz0 hz1 hz2 i0;refine hK.out _ _ S1.out ?_;clear hK K hH;intro hH;simp only[Act.put,nA,nB,nC,nD,nE,nF];refine tk 8 ?_;refine tk 9 ?_;refine rd 10 rfl (fun K hK=>?_);go_simp;refine hK.out _ _ S2.out (fun hH2=>?_);clear hK K hH hH2 S1 S2 cb fz;simp only[Act.put,nA,nB,nC,nD,nE,nF];refine wpAnyH_done (by kernel_rfl) ?_ _
    go_wp2;go_roundw
    case rel=>exact ⟨j+1,pre++[z],R',_,by omega,by go_num,by omega,by rw[FX.out.2.2];exact AM.out.1,FY.out.trans AM.out.2,FX.out.2.1⟩
    case measure=>simp [intOf];omega
   ·
    go_simp;refine Calls.mono (CC.out wr0) ?_;rintro e u1 ⟨g,he,hg,hr⟩;subst he;have AL:Hid (WrS B q u1 v0 zs0∧Reads u1 (some ⟨g,0,none⟩) (numB z).length (numB z)∧(some (⟨g,0,none⟩:Addr)=none→(numB z).length=0)∧FrQ B q wr0 u1):=⟨HW1.out.grown hg,hr,(by intro h;cases h),FrQ.grown hg HW1.out.size⟩;clear CC HW1 hg hr;refine hK.out _ _ trivial ?_;clear hK K hH;intro hH;simp only[Act.put,nA,nB,nC,nD,nE,nF];obtain ⟨cb,-⟩:=AL.out.1.cell;refine rd 4 rfl (fun K hK=>?_);go_simp;refine hK.out _ _ trivial ?_;clear hK K hH;intro hH;simp only[Act.put,nA,nB,nC,nD,nE,nF];clear cb;have AW:=AL.out;obtain ⟨i0,hi,hz0,hz1,hz2⟩:=info_parts info5;refine rd 7 rfl (fun K hK=>?_);refine step_ofQ rfl (wp_appQ _ _ 22 rfl B i0 (.int .u8 0) Tryz.underlying22 hi hz0 hz1 hz2 rfl _ _ _ rfl AW.1.own _ _ _ (numB z) rfl AW.2.1 AW.2.2.1 (by have:=AW.2.1.1;have:=HBD.out;omega) AW.1.size ?_);intro v2 u2 o2 g2 n2;have nv2:v2≠.slice none 0 0:=n2 AW.1.nn
    have o2':OwnQ B u2 v2 (zs0.length+(numB z).length) (zs0++(numB z)):=by rw[AW.2.1.1];exact o2
    obtain ⟨g9,cp9,rfl⟩:=o2'.form nv2;obtain ⟨bx,fr,w2,f2⟩:=AW.1.next o2' g2 nv2
    have cb:u2.cell? ⟨q,0,none⟩=some v0:=by rw[cell_of_row u2 q 0 _ _ (0,0) bx];rfl
    have fz:=frozen_of_row u2 q 0 _ _ bx;have AM:Hid (WrS B q (u2.setCell ⟨q,0,none⟩ (.slice (some ⟨g9,0,none⟩) (zs0.length+(numB z).length) cp9)) (.slice (some ⟨g9,0,none⟩) (zs0.length+(numB z).length) cp9) (zs0++(numB z))∧FrQ B q wr0 (u2.setCell ⟨q,0,none⟩ (.slice (some ⟨g9,0,none⟩) (zs0.length+(numB z).length) cp9))):=⟨w2,AW.2.2.2.trans f2⟩;have S1:Hid ((fun _:World=>True) u2):=SK.out _ (AW.2.2.2.trans fr.q);have S2:Hid ((fun _:World=>True) (u2.setCell ⟨q,0,none⟩ (.slice (some ⟨g9,0,none⟩) (zs0.length+(numB z).length) cp9))):=SK.out _ AM.out.2;clear AL AW o2 o2' g2 n2 nv2 bx fr w2 f2 hi hz0 hz1 hz2 i0;refine hK.out _ _ S1.out ?_;clear hK K hH;intro hH;simp only[Act.put,nA,nB,nC,nD,nE,nF];refine tk 8 ?_;refine tk 9 ?_;refine rd 10 rfl (fun K hK=>?_);go_simp;refine hK.out _ _ S2.out (fun hH2=>?_);clear hK K hH hH2 S1 S2 cb fz;simp only[Act.put,nA,nB,nC,nD,nE,nF];refine wpAnyH_done (by kernel_rfl) ?_ _
    go_wp2;go_roundw
    case rel=>exact ⟨j+1,pre++[z],R',_,by omega,by go_num,by omega,by rw[FX.out.2.2];exact AM.out.1,FY.out.trans AM.out.2,FX.out.2.1⟩
    case measure=>simp [intOf];omega
  ·
   obtain rfl:j=l:=by omega
   obtain rfl:R=[]:=lz0 (by omega);obtain ⟨hW,hF,hcs⟩:=HR.out;rw[List.append_nil] at hcs;subst hcs;have FQ:Hid (WrS B q wr v0 (zs++numsB pre)∧FrQ B q w wr):=⟨hW,hF⟩;clear hW hF HR;go_wp2
   (try simp only[Exit.inBlock,Exit.then])
   refine bodyPost_end (results_noneQ (P:=Tryz.prog) Tryz.results91 _ _) rfl ?_;exact ⟨rfl,v0,FQ.out.1,FQ.out.2⟩
theorem InF.skip {w:World}:∀ {P R:F} {b off:Nat},InF w (P.app R) b off→InF w R b (off+P.len * 3)
 | .nil,R,b,off,h=>by simpa [F.app,F.len] using h
 | .cons k n d r,R,b,off,h=>by
  have:=InF.skip (P:=r) h.2;rw[show off+(F.cons k n d r).len * 3=off+3+r.len * 3 by simp only[F.len];omega];exact this
def tysB:F→List Int
 | .nil=>[]
 | .cons k n d r=>bytesV k n d++tysB r
theorem tysB_app (a b:F):tysB (a.app b)=tysB a++tysB b:=by
 induction a with
 | nil=>rfl
 | cons k n d r _ ih=>simp [tysB,F.app,ih]
theorem tysB_len (f:F):(tysB f).length≤660 * f.len:=by
 induction f with
 | nil=>simp [tysB]
 | cons k n d r _ ih=>have:=bytesV_len k n d;simp only[tysB,lA,F.len];omega
theorem OwB.cap0 {B n c:Nat} {w:World} {a:Option Addr} {zs:List Int} (h:OwB B w a n c zs):a=none→c=0:=by
 rintro rfl;rcases h.1.2 with ⟨e,_⟩|⟨g,cap,cur,e,_⟩
 ·
  injection e
 ·
  injection e with e1
  cases e1
theorem typesT (B q:Nat) (v:Value) (zs:List Int) (ns:F) (a:Option Addr) (l c:Nat) (w:World) (h:WrS B q w v zs) (hR:∀ u,FrQ B q w u→SlF u a l ns) (hb:zs.length+660 * l≤90000000) :
  Calls Tryz.prog 92 #[.pointer (some ⟨q,0,none⟩),.slice a l c] w fun e u=>e = .returned (.tuple #[])∧∃ v',WrS B q u v' (zs++tysB ns)∧FrQ B q w u:=by
 have hl:=(hR w (FrQ.refl _ _ _)).2.1;have hfl:=(hR w (FrQ.refl _ _ _)).1;have HR0:Hid (∀ u,FrQ B q w u→SlF u a l ns):=hR;have HW0:Hid (WrS B q w v zs):=h;clear hR h;go_enter Tryz.func92,Tryz.ntmps92;go_wp2
 go_loopw [8] (fun i wr=>∃ (j:Nat) (pre R:F) (v1:Value),j≤l∧i = .int .i64 j∧R.len+j=l∧Hid (WrS B q wr v1 (zs++tysB pre)∧FrQ B q w wr∧pre.app R=ns)) (fun i _=>l - (intOf i).toNat)
 case atStart=>exact ⟨0,.nil,ns,v,Nat.zero_le _,rfl,by omega,by simpa [tysB] using HW0.out,FrQ.refl _ _ _,rfl⟩
 case round =>
  clear HW0;obtain ⟨j,pre,R,v0,hj,rfl,hRl,HR⟩:=hrel;by_cases hlt:j < l
  ·
   obtain ⟨q1,hq1⟩:∃ q1,R.len=q1+1:=⟨R.len - 1,by omega⟩;obtain ⟨kk,nn,d',R',rfl,hR'⟩:=F.cons_of_len hq1;obtain ⟨hW,hF,hcs⟩:=HR.out
   have hpl:pre.len=j:=by have:=congrArg F.len hcs;rw[F.app_len] at this;omega
   obtain ⟨b,o,rfl,hc⟩:∃ b o,a=some ⟨b,o,none⟩∧InF wr ns b o:=by
    rcases (HR0.out _ hF).2.2 with h|h
    ·
     omega
    ·
     exact h
   rw[← hcs] at hc;obtain ⟨a',l',c',c0,c1,c2',hd,-⟩:=(InF.skip hc).out;rw[hpl] at c0 c1 c2';have ga:=gal wr (.cells #[.int .i64 kk,.int .i64 nn,.slice a' l' c'] 46) none;have ba:=hnw wr (.cells #[.int .i64 kk,.int .i64 nn,.slice a' l' c'] 46);simp only[F.len] at hRl;have hn5:=tysB_len pre;obtain ⟨zs0,hzs⟩:∃ zs0,zs++tysB pre=zs0:=⟨_,rfl⟩;have HBD:Hid (zs0.length+660≤90000000∧(bytesV kk nn d').length≤660):=⟨by rw[← hzs];simp only[lA];omega,bytesV_len kk nn d'⟩;rw[hzs] at hW;have FX:Hid (FrQ B q w wr∧(pre.app (.cons kk nn d' .nil)).app R' = ns∧zs++tysB (pre.app (.cons kk nn d' .nil))=zs0++bytesV kk nn d'):=⟨hF,by rw[F.app_assoc];exact hcs,by rw[tysB_app,← lD9,hzs];simp [tysB]⟩
   have hqn:q≠wr.heap.size:=by have:=lbk hW.box;omega
   have HT:Hid (SlF (wr.alloc (.cells #[.int .i64 kk,.int .i64 nn,.slice a' l' c'] 46)) a' l' d'):=hd.none ga;have hsz:=hW.size;have hW:=hW.grown ga;have FX1:Hid (FrQ B q w (wr.alloc (.cells #[.int .i64 kk,.int .i64 nn,.slice a' l' c'] 46))):=hF.trans (FrQ.grown ga hsz);clear hF hcs hc HR hzs hn5 hd ga;obtain ⟨wr0,hwr0⟩:∃ w0,w0=(wr.alloc (.cells #[.int .i64 kk,.int .i64 nn,.slice a' l' c'] 46)).drew:=⟨_,rfl⟩;have gd:=grown_drew (grf (wr.alloc (.cells #[.int .i64 kk,.int .i64 nn,.slice a' l' c'] 46)) none)
   have hW1:WrS B q wr0 v0 zs0:=by rw[hwr0];exact hW.grown gd
   have FY:Hid (FrQ B q w wr0):=by rw[hwr0];exact FX1.out.trans (FrQ.grown gd hW.size)
   have BA:Hid (wr0.heap[wr.heap.size]? = some (Obj.cells #[.int .i64 kk,.int .i64 nn,.slice a' l' c'] 46)):=by rw[hwr0];exact (gd.block _ (lbk ba) (by simp)).trans ba
   have HT1:Hid (SlF wr0 a' l' d'):=by rw[hwr0];exact HT.out.none gd
   have CC:Hid (∀ u,wr0.grownBy u none→_):=fun u hu=>implTyBytesT d' kk nn a' l' c' u (HT1.out.none hu)
   have SK:Hid (∀ u,FrQ B q wr0 u→(fun u:World=>u.cell? ⟨wr.heap.size,0,none⟩=some (.int .i64 kk)∧u.cell? ⟨wr.heap.size,1,none⟩=some (.int .i64 nn)∧u.cell? ⟨wr.heap.size,2,none⟩=some (.slice a' l' c')) u):=fun u hu=>(three (hu.other _ _ _ _ BA.out (by decide) (fun e=>hqn e.symm))).1
   have HW1:Hid (WrS B q wr0 v0 zs0):=hW1;clear hW hW1 gd ba HT FX1 hqn;go_upto_region 3 with fail;clear c0 c1 c2';generalize wr.heap.size=p9 at *;refine wp_region_held_drew (S:=(fun u:World=>u.cell? ⟨p9,0,none⟩=some (.int .i64 kk)∧u.cell? ⟨p9,1,none⟩=some (.int .i64 nn)∧u.cell? ⟨p9,2,none⟩=some (.slice a' l' c'))) (by kernel_rfl) (by rw[← hwr0];exact SK.out _ (FrQ.refl _ _ _)) (fun hH=>?_);rw[← hwr0] at hH ⊢;clear hwr0 BA;simp only[sA9,lB,lC,Nat.reduceAdd,Array.replicate,List.replicate];refine tk 0 ?_;refine tk 1 ?_;refine tk 2 ?_;refine tk 3 ?_;refine tk 5 ?_;refine wpAnyH_ready (rs:=[4,6]) (by kernel_rfl) (by simp) ?_;refine AllReadyH.cons rfl (fun K hK=>?_) (AllReadyH.cons rfl (fun K hK=>?_) AllReadyH.nil)
   ·
    obtain ⟨cb,-⟩:=HW1.out.cell;go_simp;refine hK.out _ _ (SK.out _ (FrQ.refl _ _ _)) ?_;clear hK K hH;intro hH;simp only[Act.put,nA,nB,nC,nD,nE,nF];clear cb;refine rd 6 rfl (fun K hK=>?_);go_simp;refine Calls.mono (CC.out wr0 (grf _ _)) ?_;rintro e u1 ⟨a9,c9',he,hg,hr9⟩;subst he;have AL:Hid (WrS B q u1 v0 zs0∧Reads u1 a9 (bytesV kk nn d').length (bytesV kk nn d')∧(a9=none→c9' = 0)∧FrQ B q wr0 u1):=⟨HW1.out.grown hg,hr9.reads,hr9.cap0,FrQ.grown hg HW1.out.size⟩;clear CC HW1 hg hr9;refine hK.out _ _ (SK.out _ AL.out.2.2.2) ?_;clear hK K hH;intro hH;simp only[Act.put,nA,nB,nC,nD,nE,nF];have AW:=AL.out;obtain ⟨i0,hi,hz0,hz1,hz2⟩:=info_parts info5;refine rd 7 rfl (fun K hK=>?_);refine step_ofQ rfl (wp_appQ _ _ 22 rfl B i0 (.int .u8 0) Tryz.underlying22 hi hz0 hz1 hz2 rfl _ _ _ rfl AW.1.own _ _ _ (bytesV kk nn d') rfl AW.2.1 AW.2.2.1 (by have:=AW.2.1.1;have:=HBD.out;omega) AW.1.size ?_);intro v2 u2 o2 g2 n2
    have nv2:v2≠.slice none 0 0:=n2 AW.1.nn
    have o2':OwnQ B u2 v2 (zs0.length+(bytesV kk nn d').length) (zs0++(bytesV kk nn d')):=by rw[AW.2.1.1];exact o2
    obtain ⟨g9,cp9,rfl⟩:=o2'.form nv2;obtain ⟨bx,fr,w2,f2⟩:=AW.1.next o2' g2 nv2
    have cb:u2.cell? ⟨q,0,none⟩=some v0:=by rw[cell_of_row u2 q 0 _ _ (0,0) bx];rfl
    have fz:=frozen_of_row u2 q 0 _ _ bx;have AM:Hid (WrS B q (u2.setCell ⟨q,0,none⟩ (.slice (some ⟨g9,0,none⟩) (zs0.length+(bytesV kk nn d').length) cp9)) (.slice (some ⟨g9,0,none⟩) (zs0.length+(bytesV kk nn d').length) cp9) (zs0++(bytesV kk nn d'))∧FrQ B q wr0 (u2.setCell ⟨q,0,none⟩ (.slice (some ⟨g9,0,none⟩) (zs0.length+(bytesV kk nn d').length) cp9))):=⟨w2,AW.2.2.2.trans f2⟩;have S1:Hid ((fun u:World=>u.cell? ⟨p9,0,none⟩=some (.int .i64 kk)∧u.cell? ⟨p9,1,none⟩=some (.int .i64 nn)∧u.cell? ⟨p9,2,none⟩=some (.slice a' l' c')) u2):=SK.out _ (AW.2.2.2.trans fr.q);have S2:Hid ((fun u:World=>u.cell? ⟨p9,0,none⟩=some (.int .i64 kk)∧u.cell? ⟨p9,1,none⟩=some (.int .i64 nn)∧u.cell? ⟨p9,2,none⟩=some (.slice a' l' c')) (u2.setCell ⟨q,0,none⟩ (.slice (some ⟨g9,0,none⟩) (zs0.length+(bytesV kk nn d').length) cp9))):=SK.out _ AM.out.2;clear AL AW o2 o2' g2 n2 nv2 bx fr w2 f2 hi hz0 hz1 hz2 i0;refine hK.out _ _ S1.out ?_
    clear hK K hH;intro hH;simp only[Act.put,nA,nB,nC,nD,nE,nF];refine tk 8 ?_;refine tk 9 ?_;refine rd 10 rfl (fun K hK=>?_);go_simp;refine hK.out _ _ S2.out (fun hH2=>?_);clear hK K hH hH2 S1 S2 cb fz;simp only[Act.put,nA,nB,nC,nD,nE,nF];refine wpAnyH_done (by kernel_rfl) ?_ _;go_wp2;go_roundw
    case rel=>exact ⟨j+1,pre.app (.cons kk nn d' .nil),R',_,by omega,by go_num,by omega,by rw[FX.out.2.2];exact AM.out.1,FY.out.trans AM.out.2,FX.out.2.1⟩
    case measure=>simp [intOf];omega
   ·
    go_simp;refine Calls.mono (CC.out wr0 (grf _ _)) ?_;rintro e u1 ⟨a9,c9',he,hg,hr9⟩;subst he;have AL:Hid (WrS B q u1 v0 zs0∧Reads u1 a9 (bytesV kk nn d').length (bytesV kk nn d')∧(a9=none→c9' = 0)∧FrQ B q wr0 u1):=⟨HW1.out.grown hg,hr9.reads,hr9.cap0,FrQ.grown hg HW1.out.size⟩;clear CC HW1 hg hr9;refine hK.out _ _ (SK.out _ AL.out.2.2.2) ?_;clear hK K hH;intro hH;simp only[Act.put,nA,nB,nC,nD,nE,nF];obtain ⟨cb,-⟩:=AL.out.1.cell;refine rd 4 rfl (fun K hK=>?_);go_simp;refine hK.out _ _ (SK.out _ AL.out.2.2.2) ?_;clear hK K hH;intro hH;simp only[Act.put,nA,nB,nC,nD,nE,nF];clear cb;have AW:=AL.out;obtain ⟨i0,hi,hz0,hz1,hz2⟩:=info_parts info5;refine rd 7 rfl (fun K hK=>?_);refine step_ofQ rfl (wp_appQ _ _ 22 rfl B i0 (.int .u8 0) Tryz.underlying22 hi hz0 hz1 hz2 rfl _ _ _ rfl AW.1.own _ _ _ (bytesV kk nn d') rfl AW.2.1 AW.2.2.1 (by have:=AW.2.1.1;have:=HBD.out;omega) AW.1.size ?_);intro v2 u2 o2 g2 n2
    have nv2:v2≠.slice none 0 0:=n2 AW.1.nn
    have o2':OwnQ B u2 v2 (zs0.length+(bytesV kk nn d').length) (zs0++(bytesV kk nn d')):=by rw[AW.2.1.1];exact o2
    obtain ⟨g9,cp9,rfl⟩:=o2'.form nv2;obtain ⟨bx,fr,w2,f2⟩:=AW.1.next o2' g2 nv2
    have cb:u2.cell? ⟨q,0,none⟩=some v0:=by rw[cell_of_row u2 q 0 _ _ (0,0) bx];rfl
    have fz:=frozen_of_row u2 q 0 _ _ bx;have AM:Hid (WrS B q (u2.setCell ⟨q,0,none⟩ (.slice (some ⟨g9,0,none⟩) (zs0.length+(bytesV kk nn d').length) cp9)) (.slice (some ⟨g9,0,none⟩) (zs0.length+(bytesV kk nn d').length) cp9) (zs0++(bytesV kk nn d'))∧FrQ B q wr0 (u2.setCell ⟨q,0,none⟩ (.slice (some ⟨g9,0,none⟩) (zs0.length+(bytesV kk nn d').length) cp9))):=⟨w2,AW.2.2.2.trans f2⟩;have S1:Hid ((fun u:World=>u.cell? ⟨p9,0,none⟩=some (.int .i64 kk)∧u.cell? ⟨p9,1,none⟩=some (.int .i64 nn)∧u.cell? ⟨p9,2,none⟩=some (.slice a' l' c')) u2):=SK.out _ (AW.2.2.2.trans fr.q);have S2:Hid ((fun u:World=>u.cell? ⟨p9,0,none⟩=some (.int .i64 kk)∧u.cell? ⟨p9,1,none⟩=some (.int .i64 nn)∧u.cell? ⟨p9,2,none⟩=some (.slice a' l' c')) (u2.setCell ⟨q,0,none⟩ (.slice (some ⟨g9,0,none⟩) (zs0.length+(bytesV kk nn d').length) cp9))):=SK.out _ AM.out.2;clear AL AW o2 o2' g2 n2 nv2 bx fr w2 f2 hi hz0 hz1 hz2 i0;refine hK.out _ _ S1.out ?_
    clear hK K hH;intro hH;simp only[Act.put,nA,nB,nC,nD,nE,nF];refine tk 8 ?_;refine tk 9 ?_;refine rd 10 rfl (fun K hK=>?_);go_simp;refine hK.out _ _ S2.out (fun hH2=>?_);clear hK K hH hH2 S1 S2 cb fz;simp only[Act.put,nA,nB,nC,nD,nE,nF];refine wpAnyH_done (by kernel_rfl) ?_ _;go_wp2;go_roundw
    case rel=>exact ⟨j+1,pre.app (.cons kk nn d' .nil),R',_,by omega,by go_num,by omega,by rw[FX.out.2.2];exact AM.out.1,FY.out.trans AM.out.2,FX.out.2.1⟩
    case measure=>simp [intOf];omega
  ·
   obtain rfl:j=l:=by omega
   obtain rfl:R = .nil:=F.nil_of_len (by omega);obtain ⟨hW,hF,hcs⟩:=HR.out;rw[F.app_nil] at hcs;subst hcs;have FQ:Hid (WrS B q wr v0 (zs++tysB pre)∧FrQ B q w wr):=⟨hW,hF⟩;clear hW hF HR;go_wp2
   (try simp only[Exit.inBlock,Exit.then])
   refine bodyPost_end (results_noneQ (P:=Tryz.prog) Tryz.results92 _ _) rfl ?_;exact ⟨rfl,v0,FQ.out.1,FQ.out.2⟩
def textB (ts:List Int):List Int:=if 40 < ts.length then [] else numB (ts.length:Int)++ts
theorem textB_long {ts:List Int} (h:40 < ts.length):textB ts=[]:=by rw[textB,if_pos h]
theorem textB_fits {ts:List Int} (h:¬ 40 < ts.length):textB ts=numB (ts.length:Int)++ts:=by rw[textB,if_neg h]
theorem implTxt (a a':Option Addr) (n m cap cap':Nat) (zs ts:List Int) (w:World) (h:Reads w a n zs) (h':Reads w a' m ts) (hn:n≤1048576) (hm:m≤1048576) :
  Calls Tryz.prog 115 #[.slice a n cap,.slice a' m cap'] w fun e w'=>∃ g,e = .returned (.slice (some ⟨g,0,none⟩) (n+(textB ts).length) (n+(textB ts).length))∧w.grownBy w' none∧w.heap.size≤g∧Row w' g (n+(textB ts).length) (zs++textB ts):=by
 have hl':=h'.1;by_cases hlong:40 < m
 ·
  rw[textB_long (by omega)];have hJ:=joinedT a none n 0 cap 0 zs [] w h (reads_nil w) (by omega) (by omega);clear h h' hl';go_enter Tryz.func115,Tryz.ntmps115;go_wp2_with fail;refine hJ.mono ?_;rintro e w1 ⟨g,rfl,hg,hlt,hrow⟩;clear hJ;go_wp2;go_ret;exact ⟨g,rfl,hg,hlt,hrow⟩
 ·
  rw[textB_fits (by omega),hl'];obtain ⟨L,hL⟩:∃ L,L=numB (m:Int):=⟨_,rfl⟩
  have hLl:L.length≤5:=by rw[hL];exact numB_len _
  have hP:=implPut a n cap zs (m:Int) w h (by omega);rw[← hL] at hP ⊢
  have HE:Hid (n+(L++ts).length=n+L.length+m):=by show _=_;rw[lA,hl'];omega
  clear hL hl';generalize hl:n+L.length=l at *
  have hlb:l≤90000005:=by omega
  go_enter Tryz.func115,Tryz.ntmps115;go_wp2_with fail;refine hP.mono ?_;rintro e w1 ⟨g1,rfl,hg1,hb1,hrow1⟩;clear hP;have hr1:Reads w1 (some ⟨g1,0,none⟩) l (zs++L):=hrow1.reads' (by have:=h.1;rw[lA];omega);have hJ:=joinedT (some ⟨g1,0,none⟩) a' l m l cap' (zs++L) ts w1 hr1 (h'.none hg1) (by omega) (by omega);clear hl hr1;go_wp2_with fail;refine hJ.mono ?_;rintro e w2 ⟨g2,rfl,hg2,hb2,hrow2⟩;clear hJ;go_wp2;go_ret;rw[HE.out,← lD9];exact ⟨g2,rfl,gtr hg1 hg2,Nat.le_trans hg1.size hb2,hrow2⟩
end Go.Proofs.YtnmlbeefjjohfaaGreatDoor.By
