/-
  No statement is proved here.
-/
import Derived.Test.YtblbnillilbacaaGreatDoorTMarkAlsoa
import Derived.Test.YtblbnillilbacaaGreatDoorTSizea
namespace Go.Proofs.YtblbnillilbacaaGreatDoor.By
open Go.RowKit
set_option linter.unusedVariables false
set_option linter.unusedSimpArgs false
theorem grown_of_belowS {w w':World} (h:Below w.heap.size w w'):w.grownBy w' none:=⟨h.os,h.tape,h.output,h.size,fun k hk _=>h.block k hk⟩
structure FrS (B:Nat) (w u:World):Prop where
 below:Below B w u
 other:∀ (i:Nat) (cur:Array Value) (t:TypeId) (r:Nat × Nat),w.heap[i]? = some (.cells cur t r)→t≠5→u.heap[i]? = some (.cells cur t r)
theorem FrS.own {B N:Nat} {w u:World} {v:Value} {xs:List Value} (h:w.grownBy u v.ownBlock) (ho:w.ownsRow B 5 1 v N xs) (hB:B≤w.heap.size):FrS B w u:=by
 refine ⟨(Below.refl B w).grown h hB (fun k hk=>(ho.lt k hk).1),fun i cur t r hi ht=>(h.block i (lt_of_block hi) ?_).trans hi⟩;rcases ho.2 with ⟨rfl,_⟩|⟨g,cap,cur',rfl,_,hg,_⟩
 ·
  simp [Value.ownBlock]
 ·
  simp only[Value.ownBlock];intro e;injection e with e;subst e;rw[hg] at hi;injection hi with hi;injection hi with _ h2;exact ht h2.symm
def OwS (B:Nat) (w:World) (a:Option Addr) (n c:Nat) (zs:List Int):Prop:=w.ownsRow B 5 1 (.slice a n c) n (vals zs)∧zs.length=n
theorem OwS.reads {B n c:Nat} {w:World} {a:Option Addr} {zs:List Int} (h:OwS B w a n c zs):Reads w a n zs:=by
 obtain ⟨h,hl⟩:=h;rcases h.2 with ⟨_,h0⟩|⟨g,cap,cur,e,_,hg,hn,_,hs,ht⟩
 ·
  exact ⟨hl,.inl h0⟩
 ·
  injection e with e1 e2 e3;subst e1;have hr:Row w g cap zs:=⟨cur,hg,by omega,by rw[hl];simpa using ht,by omega⟩;exact hr.reads' hl
theorem OwS.nil (B:Nat) (w:World):OwS B w none 0 0 []:=⟨⟨rfl,.inl ⟨rfl,rfl⟩⟩,rfl⟩
theorem infoS:(Tryz.prog.info? 5).map (fun i=>(i.zero,i.size,i.bytes))=some (some (.int .u8 0),1,1):=by kernel_rfl
theorem newsS {w:World} {b off n:Nat} {zs:List Int} (hl:zs.length=n) (hc:∀ i,i < n→w.cell? ⟨b,off+i,none⟩=some (.int .u8 (zs.getD i 0))):∀ j u,(vals zs)[j]? = some u→w.cell? ((⟨b,off,none⟩:Addr).add j)=some u:=by
 intro j u hu
 have hj:j < zs.length:=by
  have:=(List.getElem?_eq_some_iff.1 hu).1;simpa [vals] using this
 have e:(vals zs)[j]? = some (.int .u8 (zs.getD j 0)):=by simp [vals,hj]
 rw[e] at hu;rw[Go.WideShapes.add_plain,hc j (by omega),hu]
theorem oneS (zs:List Int):∀ u ∈ vals zs,u.oneCell' = true:=by
 intro u hu;simp only[vals,List.mem_map] at hu;obtain ⟨x,_,rfl⟩:=hu;rfl
theorem run_appB {P:Program} {w:World} (t ty:TypeId) (B:Nat) (i:TypeInfo) (z:Value) (ht:P.underlying t=some (.slice 5)) (hi:P.info? 5=some i) (hz:i.zero=some z)
  (hsize:i.size=1) (hby:i.bytes=1) (hzs:z.cells.size=1) (v:Value) (n:Nat) (zs:List Int) (hown:w.ownsRow B 5 1 v n (vals zs)) (src:Option Addr) (m c:Nat) (ys:List Int)
  (hr:Reads w src m ys) (hn:src=none→c=0) (hm:n+m≤1048576) (hB:B≤w.heap.size) :
  ∃ v' w',(Builtin.append_ #[t,t] ty #[v,.slice src m c]).run P w = .ok v' w'∧w'.ownsRow B 5 1 v' (n+m) (vals (zs++ys))∧w.grownBy w' v.ownBlock∧(v' = .slice none 0 0 ↔ v = .slice none 0 0∧m=0):=by
 obtain ⟨hl,hr⟩:=hr
 cases src with
 | none =>
  obtain rfl:=hn rfl
  obtain rfl:m=0:=by
   rcases hr with h|⟨_,_,h,_⟩
   ·
    exact h
   ·
    cases h
  obtain rfl:ys=[]:=List.eq_nil_of_length_eq_zero (by omega);exact ⟨v,w,run_append_owned_none (P:=P) (w:=w) B t ty 5 i 1 ht hi v n _ hown,by simpa using hown,grf _ _,by simp⟩
 | some ad =>
  have hnews:∀ j u,(vals ys)[j]? = some u→w.cell? (ad.add j)=some u:=by
   rcases hr with h|⟨b,off,h,hc⟩
   ·
    have:ys=[]:=List.eq_nil_of_length_eq_zero (by omega);subst this;intro j u hu;simp [vals] at hu
   ·
    cases h;exact newsS hl hc
  obtain ⟨v',w',h1,h2,h3,h4⟩:=run_append_own (P:=P) w B t ty 5 i z 1 1 ht hi hz hsize hby hzs (by decide) v n (vals zs) hown ad m c (vals ys) (by simp [vals,hl]) hnews (oneS ys) (by simp [maxLen];omega) (by omega) hB;exact ⟨v',w',h1,by simpa [vals] using h2,h3,h4⟩
theorem wpList_appB {P:Program} {w:World} {ops:Array Oper} {rest:List Oper} {o:Oper} {ac:Act} {Q:Exit→Act→World→Prop}
  (hg:o.guard=none) (s x:Operand) (t:TypeId) (ho:o.op = .call { callee:=.builtin .append,args:=#[s,x],argTypes:=#[t,t] })
  (B:Nat) (i:TypeInfo) (z:Value) (ht:P.underlying t=some (.slice 5)) (hi:P.info? 5=some i) (hz:i.zero=some z) (hsize:i.size=1) (hby:i.bytes=1) (hzs:z.cells.size=1)
  (v:Value) (n:Nat) (zs:List Int) (hs:ac.eval s=v) (hown:w.ownsRow B 5 1 v n (vals zs)) (src:Option Addr) (m c:Nat) (ys:List Int) (hx:ac.eval x = .slice src m c) (hr:Reads w src m ys) (hn:src=none→c=0) (hm:n+m≤1048576) (hB:B≤w.heap.size)
  (H:∀ v' w',w'.ownsRow B 5 1 v' (n+m) (vals (zs++ys))→w.grownBy w' v.ownBlock→(v' = .slice none 0 0 ↔ v = .slice none 0 0∧m=0)→wpList P ops Q rest (ac.put o.dst v') w') :
  wpList P ops Q (o::rest) ac w:=by
 refine wpList_plain hg fun K hK=>?_
 obtain ⟨v',w',hr',h2,h3,h4⟩:=run_appB (P:=P) (w:=w) t o.type B i z ht hi hz hsize hby hzs v n zs hown src m c ys hr hn hm hB;unfold Oper.wp execOp;simp only[ho,resolve,invoke,builtin,Sem.run_bind,Sem.run_pure,Result.andThen_ok,List.map_toArray,List.map_cons,List.map_nil,hs,hx,hr'];exact hK _ _ (H v' w' h2 h3 h4)
def ofB (l:List UInt8):List Int:=l.map fun b=>(b.toNat:Int)
theorem byteCells_vals (l:List UInt8):Lib.byteCells l=vals (ofB l):=by simp [Lib.byteCells,vals,ofB,Function.comp_def]
theorem strCells_vals (s:ByteArray):Lib.strCells s=vals (ofB s.data.toList):=by rw[Lib.strCells_eq,byteCells_vals]
theorem ofB_len (l:List UInt8):(ofB l).length=l.length:=by simp [ofB]
theorem ofB_app (a b:List UInt8):ofB (a++b)=ofB a++ofB b:=by simp [ofB]
theorem step_of {P:Program} {ops:Array Oper} {o:Oper} {ac:Act} {w:World} {K:Act→World→Prop} {Q:Exit→Act→World→Prop} {E:Prop} (hg:o.guard=none) (h:Oper.wp P o ac w K Q):if Region.wanted o (yielded ops ac.tmps)=true then Oper.wp P o ac w K Q else E:=by
 have hw:Region.wanted o (yielded ops ac.tmps)=true:=by simp [Region.wanted,hg]
 rw[if_pos hw];exact h
theorem wp_strB {P:Program} {w:World} {o:Oper} {ac:Act} {K:Act→World→Prop} {Q:Exit→Act→World→Prop}
  (s x:Operand) (t u:TypeId) (ho:o.op = .call { callee:=.builtin .append,args:=#[s,x],argTypes:=#[t,u] })
  (B:Nat) (i:TypeInfo) (ht:P.underlying t=some (.slice 5)) (hu:P.underlying u=some .string) (hi:P.info? 5=some i) (hz:i.zero=some (.int .u8 0)) (hsize:i.size=1) (hby:i.bytes=1)
  (v:Value) (n:Nat) (zs:List Int) (hs:ac.eval s=v) (hown:w.ownsRow B 5 1 v n (vals zs)) (st:ByteArray) (ys:List Int) (hx:ac.eval x = .string st) (hy:ofB st.data.toList=ys) (hm:n+ys.length≤1048576) (hB:B≤w.heap.size)
  (H:∀ v' w',w'.ownsRow B 5 1 v' (n+ys.length) (vals (zs++ys))→w.grownBy w' v.ownBlock→K (ac.put o.dst v') w') :
  Oper.wp P o ac w K Q:=by
 have hsz:st.size=ys.length:=by rw[← hy,ofB_len,Array.length_toList];rfl
 obtain ⟨v',w',hr',h2,h3,_⟩:=Lib.run_append_own_string (P:=P) w B t u o.type 5 i ht hu hi hz hsize hby v n (vals zs) hown st (by simp only[maxLen];omega) (by omega) hB;unfold Oper.wp execOp;simp only[ho,resolve,invoke,builtin,Sem.run_bind,Sem.run_pure,Result.andThen_ok,List.map_toArray,List.map_cons,List.map_nil,hs,hx,hr'];refine H v' w' ?_ h3;rw[strCells_vals,hy,hsz] at h2;simpa [vals] using h2
theorem wpList_strB {P:Program} {w:World} {ops:Array Oper} {rest:List Oper} {o:Oper} {ac:Act} {Q:Exit→Act→World→Prop}
  (hg:o.guard=none) (s x:Operand) (t u:TypeId) (ho:o.op = .call { callee:=.builtin .append,args:=#[s,x],argTypes:=#[t,u] })
  (B:Nat) (i:TypeInfo) (ht:P.underlying t=some (.slice 5)) (hu:P.underlying u=some .string) (hi:P.info? 5=some i) (hz:i.zero=some (.int .u8 0)) (hsize:i.size=1) (hby:i.bytes=1)
  (v:Value) (n:Nat) (zs:List Int) (hs:ac.eval s=v) (hown:w.ownsRow B 5 1 v n (vals zs)) (st:ByteArray) (ys:List Int) (hx:ac.eval x = .string st) (hy:ofB st.data.toList=ys) (hm:n+ys.length≤1048576) (hB:B≤w.heap.size)
  (H:∀ v' w',w'.ownsRow B 5 1 v' (n+ys.length) (vals (zs++ys))→w.grownBy w' v.ownBlock→wpList P ops Q rest (ac.put o.dst v') w') :
  wpList P ops Q (o::rest) ac w :=
 wpList_plain hg fun K hK=>wp_strB s x t u ho B i ht hu hi hz hsize hby v n zs hs hown st ys hx hy hm hB fun v' w' h1 h2=>hK _ _ (H v' w' h1 h2)
theorem readsOneB (w:World) (x:Int) (t:TypeId):Reads (w.alloc (.cells #[.int .u8 x] t)) (some ⟨w.heap.size,0,none⟩) 1 [x]:=by
 refine ⟨rfl,.inr ⟨_,_,rfl,fun i hi=>?_⟩⟩
 obtain rfl:i=0:=by omega
 have hb:=heap_alloc_new w (.cells #[.int .u8 x] t);unfold World.cell?;rw[hb];rfl
theorem ownsS {B n:Nat} {w:World} {v:Value} {zs:List Int} (h:w.ownsRow B 5 1 v n (vals zs)):zs.length=n∧∃ a c,v = .slice a n c∧OwS B w a n c zs:=by
 have hl:zs.length=n:=by have:=h.1;simpa [vals] using this
 refine ⟨hl,?_⟩;rcases h.2 with ⟨rfl,h0⟩|⟨g,cap,cur,rfl,_⟩
 ·
  subst h0;exact ⟨none,0,rfl,h,hl⟩
 ·
  exact ⟨_,_,rfl,h,hl⟩
theorem OwS.nilCap {B n c:Nat} {w:World} {a:Option Addr} {zs:List Int} (h:OwS B w a n c zs):a=none→c=0:=by
 intro e;rcases h.1.2 with ⟨e1,_⟩|⟨g,cap,cur,e1,_⟩
 ·
  injection e1 with _ _ e3
 ·
  injection e1 with e2;rw[e] at e2;cases e2
end Go.Proofs.YtblbnillilbacaaGreatDoor.By
