/-
  No statement is proved here.
-/
import Derived.Test.YtnmlbeefjjohfaaGreatDoorIAAlsoSh
import Derived.Deep.DeepCutAuto
import Derived.LaidLaws
import Derived.Deep.CutBlock
namespace Go.Proofs.YtnmlbeefjjohfaaGreatDoor.By
set_option maxRecDepth 100000
set_option maxHeartbeats 16000000
open Go.RowKit
set_option linter.unusedVariables false
set_option linter.unusedSimpArgs false
set_option maxRecDepth 20000
def hasA (op:Int):Bool:=decide (op=1) || decide (op=4) || decide (op=6) || decide (op=7) || decide (op=21) || decide (op=22) || decide (op=23) || decide (op=26) || decide (op=27) || decide (op=29) || decide (op=31)
def opsA:Array Value:=#[.bool false,.bool false,.bool false,.bool false,.bool false,.bool true,.bool true,.bool false,.bool false,.bool false,.bool false,.bool false,.bool false,.bool true,.bool false,.bool false,.bool false,.bool false,.bool false,.bool false,.bool true,.bool false,.bool false,.bool false,.bool false,.bool false,.bool false,.bool false,.bool false,.bool false,.bool true,.bool false,.bool false,.bool false,.bool false,.bool true,.bool false,.bool false,.bool false,.bool false,.bool false,.bool false,.bool false,.bool false,.bool false,.bool false,.bool false,.bool false,.bool false,.bool false,.bool false,.bool false,.bool false,.bool false,.bool false,.bool false,.bool false,.bool false,.bool false,.bool false,.bool false,.bool false,.bool false,.bool false,.bool false,.bool false,.bool false,.bool false,.bool false,.bool false,.bool false,.bool false,.bool false,.bool false,.bool false,.bool false,.bool false,.bool false,.bool false,.bool false,.bool false,.bool false,.bool false,.bool false,.bool false,.bool false,.bool false,.bool false,.bool false,.bool false,.bool false,.bool false,.bool false,.bool false,.bool false,.bool false,.bool false,.bool false,.bool false,.bool false,.bool false,.bool false,.bool false,.bool false,.bool false,.bool true,.bool false,.bool true,.bool false,.bool false,.bool true,.bool false,.bool false,.bool false,.bool true,.bool true,.bool false,.bool false,.bool false,.bool false,.bool false,.bool false,.bool false,.bool false,.bool false,.bool false,.bool false,.bool false,.bool false,.bool false,.bool true,.bool false,.bool false,.bool false,.bool false,.bool true,.bool false,.bool false,.bool false,.bool false,.bool false,.bool false,.bool false,.bool false,.bool false,.bool true,.bool false,.bool false,.bool false,.bool false,.bool false,.bool false,.bool false,.bool false,.bool false,.bool true,.bool false,.bool false,.bool false,.bool false]
theorem opsA_size:opsA.size=160:=by kernel_rfl
theorem getO:∀ (j:Nat),j < 32→opsA[j * 5]? = some (.bool (hasA j))∧opsA[j * 5+1]? = some (.bool (decide ((j:Int)=1)))∧opsA[j * 5+2]? = some (.bool (decide ((j:Int)=21)))∧opsA[j * 5+3]? = some (.bool (decide ((j:Int)=2)))∧opsA[j * 5+4]? = some (.bool (decide ((j:Int)=22)))
 | 0,_=>⟨by kernel_rfl,by kernel_rfl,by kernel_rfl,by kernel_rfl,by kernel_rfl⟩
 | 1,_=>⟨by kernel_rfl,by kernel_rfl,by kernel_rfl,by kernel_rfl,by kernel_rfl⟩
 | 2,_=>⟨by kernel_rfl,by kernel_rfl,by kernel_rfl,by kernel_rfl,by kernel_rfl⟩
 | 3,_=>⟨by kernel_rfl,by kernel_rfl,by kernel_rfl,by kernel_rfl,by kernel_rfl⟩
 | 4,_=>⟨by kernel_rfl,by kernel_rfl,by kernel_rfl,by kernel_rfl,by kernel_rfl⟩
 | 5,_=>⟨by kernel_rfl,by kernel_rfl,by kernel_rfl,by kernel_rfl,by kernel_rfl⟩
 | 6,_=>⟨by kernel_rfl,by kernel_rfl,by kernel_rfl,by kernel_rfl,by kernel_rfl⟩
 | 7,_=>⟨by kernel_rfl,by kernel_rfl,by kernel_rfl,by kernel_rfl,by kernel_rfl⟩
 | 8,_=>⟨by kernel_rfl,by kernel_rfl,by kernel_rfl,by kernel_rfl,by kernel_rfl⟩
 | 9,_=>⟨by kernel_rfl,by kernel_rfl,by kernel_rfl,by kernel_rfl,by kernel_rfl⟩
 | 10,_=>⟨by kernel_rfl,by kernel_rfl,by kernel_rfl,by kernel_rfl,by kernel_rfl⟩
 | 11,_=>⟨by kernel_rfl,by kernel_rfl,by kernel_rfl,by kernel_rfl,by kernel_rfl⟩
 | 12,_=>⟨by kernel_rfl,by kernel_rfl,by kernel_rfl,by kernel_rfl,by kernel_rfl⟩
 | 13,_=>⟨by kernel_rfl,by kernel_rfl,by kernel_rfl,by kernel_rfl,by kernel_rfl⟩
 | 14,_=>⟨by kernel_rfl,by kernel_rfl,by kernel_rfl,by kernel_rfl,by kernel_rfl⟩
 | 15,_=>⟨by kernel_rfl,by kernel_rfl,by kernel_rfl,by kernel_rfl,by kernel_rfl⟩
 | 16,_=>⟨by kernel_rfl,by kernel_rfl,by kernel_rfl,by kernel_rfl,by kernel_rfl⟩
 | 17,_=>⟨by kernel_rfl,by kernel_rfl,by kernel_rfl,by kernel_rfl,by kernel_rfl⟩
 | 18,_=>⟨by kernel_rfl,by kernel_rfl,by kernel_rfl,by kernel_rfl,by kernel_rfl⟩
 | 19,_=>⟨by kernel_rfl,by kernel_rfl,by kernel_rfl,by kernel_rfl,by kernel_rfl⟩
 | 20,_=>⟨by kernel_rfl,by kernel_rfl,by kernel_rfl,by kernel_rfl,by kernel_rfl⟩
 | 21,_=>⟨by kernel_rfl,by kernel_rfl,by kernel_rfl,by kernel_rfl,by kernel_rfl⟩
 | 22,_=>⟨by kernel_rfl,by kernel_rfl,by kernel_rfl,by kernel_rfl,by kernel_rfl⟩
 | 23,_=>⟨by kernel_rfl,by kernel_rfl,by kernel_rfl,by kernel_rfl,by kernel_rfl⟩
 | 24,_=>⟨by kernel_rfl,by kernel_rfl,by kernel_rfl,by kernel_rfl,by kernel_rfl⟩
 | 25,_=>⟨by kernel_rfl,by kernel_rfl,by kernel_rfl,by kernel_rfl,by kernel_rfl⟩
 | 26,_=>⟨by kernel_rfl,by kernel_rfl,by kernel_rfl,by kernel_rfl,by kernel_rfl⟩
 | 27,_=>⟨by kernel_rfl,by kernel_rfl,by kernel_rfl,by kernel_rfl,by kernel_rfl⟩
 | 28,_=>⟨by kernel_rfl,by kernel_rfl,by kernel_rfl,by kernel_rfl,by kernel_rfl⟩
 | 29,_=>⟨by kernel_rfl,by kernel_rfl,by kernel_rfl,by kernel_rfl,by kernel_rfl⟩
 | 30,_=>⟨by kernel_rfl,by kernel_rfl,by kernel_rfl,by kernel_rfl,by kernel_rfl⟩
 | 31,_=>⟨by kernel_rfl,by kernel_rfl,by kernel_rfl,by kernel_rfl,by kernel_rfl⟩
 | j+32,h=>absurd h (by omega)
def OpsIn (w:World):Prop:=∃ t fr,w.heap[0]? = some (.cells opsA t fr)
theorem OpsIn.none {w u:World} (h:OpsIn w) (k:w.grownBy u Option.none):OpsIn u:=by
 obtain ⟨t,fr,h⟩:=h;exact ⟨t,fr,(k.block _ (lbk h) (by simp)).trans h⟩
theorem cellsO {w:World} (h:OpsIn w) (j:Nat) (hj:j < 32):w.cell? ⟨0,j * 5,none⟩=some (.bool (hasA j))∧w.cell? ⟨0,j * 5+1,none⟩=some (.bool (decide ((j:Int)=1)))∧w.cell? ⟨0,j * 5+2,none⟩=some (.bool (decide ((j:Int)=21)))∧w.cell? ⟨0,j * 5+3,none⟩=some (.bool (decide ((j:Int)=2)))∧w.cell? ⟨0,j * 5+4,none⟩=some (.bool (decide ((j:Int)=22))):=by
 obtain ⟨t,fr,h⟩:=h;obtain ⟨q0,q1,q2,q3,q4⟩:=getO j hj;exact ⟨(cell_of_row w _ _ _ t fr h).trans q0,(cell_of_row w _ _ _ t fr h).trans q1,(cell_of_row w _ _ _ t fr h).trans q2,(cell_of_row w _ _ _ t fr h).trans q3,(cell_of_row w _ _ _ t fr h).trans q4⟩
def opOk (op:Int):Bool:=decide (0≤op) && decide (op≤31)
def FoO (op:Int) (e:Ending):Prop:=e = .returned (.tuple #[.agg #[.bool (opOk op && hasA op),.bool (opOk op && decide (op=1)),.bool (opOk op && decide (op=21)),.bool (opOk op && decide (op=2)),.bool (opOk op && decide (op=22))],.bool (opOk op)])
theorem blk5 {w:World} {g:Nat} {t:TypeId} {v0 v1 v2 v3 v4:Value} (h:w.heap[g]? = some (.cells #[v0,v1,v2,v3,v4] t (0,0))):(w.cell? ⟨g,0,none⟩=some v0∧w.cell? ⟨g,1,none⟩=some v1∧w.cell? ⟨g,2,none⟩=some v2∧w.cell? ⟨g,3,none⟩=some v3∧w.cell? ⟨g,4,none⟩=some v4)∧∀ j,w.frozen? ⟨g,j,none⟩=false:=by
 refine ⟨⟨?_,?_,?_,?_,?_⟩,fun j=>frozen_of_row w g _ _ t h⟩ <;> (rw[cell_of_row w g _ _ t (0,0) h];rfl)
theorem results_cell2O {P:Program} {fn:Func} {p u:Tmp} {ty:TypeId} (h:fn.results=#[.cell p ty,.tmp u]) (tmps:Array Value) (w:World) (g:Nat) (t:TypeId) (cs:Array Value) (fr:Nat × Nat) (d:TypeDesc)
  (hp:tmps.getD p undef = .pointer (some ⟨g,0,none⟩)) (hg:w.heap[g]? = some (.cells cs t fr))
  (hu:P.underlying ty=some d) (hd:(match d with | .struct _ | .array _ _=>true|_=>false)=true) (hi:(P.info? ty).map (·.size)=some cs.size) :
  (results fn tmps).run P w = .ok (.tuple #[.agg cs,tmps.getD u undef]) w:=by
 have hp':tmps[p]?.getD undef = .pointer (some ⟨g,0,none⟩):=by simpa using hp
 simp [results,h,hp',asAddr,run_loadVar_row w g t ty cs fr d hg hu hd hi]
theorem formOfOpT (op:Int) (w:World) (hF:OpsIn w) :
  Calls Tryz.prog 96 #[.int .i64 op] w fun e u=>FoO op e∧w.grownBy u none:=by
 have b0:=hnw w (.cells #[.bool false,.bool false,.bool false,.bool false,.bool false] 114);have g0:=gal w (.cells #[.bool false,.bool false,.bool false,.bool false,.bool false] 114) none;have hf0:=hF.none g0;have L0:Hid (w.grownBy _ none∧_=some (Obj.cells #[.bool false,.bool false,.bool false,.bool false,.bool false] 114)):=⟨g0,b0⟩;obtain ⟨⟨y0,y1,y2,y3,y4⟩,hfy⟩:=blk5 b0;have f0:=hfy 0;have f1:=hfy 1;have f2:=hfy 2;have f3:=hfy 3;have f4:=hfy 4;clear hF g0 b0 hfy;by_cases h1:op < 0
 ·
  have HE:Hid (opOk op=false):=by show _=_;simp [opOk];omega
  clear hf0;go_enter Tryz.func96,Tryz.ntmps96;go_wp2;refine bodyPost_ret (results_cell2O (P:=Tryz.prog) Tryz.results96 _ _ _ _ _ _ _ rfl L0.out.2 Tryz.underlying114 rfl (by kernel_rfl)) rfl ?_;exact ⟨by unfold FoO;rw[HE.out];rfl,L0.out.1⟩
 by_cases h2:op > 31
 ·
  have HE:Hid (opOk op=false):=by show _=_;simp [opOk];omega
  clear hf0;go_enter Tryz.func96,Tryz.ntmps96;go_wp2;refine bodyPost_ret (results_cell2O (P:=Tryz.prog) Tryz.results96 _ _ _ _ _ _ _ rfl L0.out.2 Tryz.underlying114 rfl (by kernel_rfl)) rfl ?_;exact ⟨by unfold FoO;rw[HE.out];rfl,L0.out.1⟩
 obtain ⟨j,rfl⟩:∃ j:Nat,op=(j:Int):=⟨op.toNat,by omega⟩
 have HE:Hid (opOk j=true):=by show _=_;simp [opOk];omega
 obtain ⟨q0,q1,q2,q3,q4⟩:=cellsO hf0 j (by omega);obtain ⟨x0,hx0⟩:∃ x,hasA j=x:=⟨_,rfl⟩;obtain ⟨x1,hx1⟩:∃ x,decide ((j:Int)=1)=x:=⟨_,rfl⟩;obtain ⟨x2,hx2⟩:∃ x,decide ((j:Int)=21)=x:=⟨_,rfl⟩;obtain ⟨x3,hx3⟩:∃ x,decide ((j:Int)=2)=x:=⟨_,rfl⟩;obtain ⟨x4,hx4⟩:∃ x,decide ((j:Int)=22)=x:=⟨_,rfl⟩;rw[hx0] at q0;rw[hx1] at q1;rw[hx2] at q2;rw[hx3] at q3;rw[hx4] at q4;have HF5:Hid _:=fill5 (.bool x0) (.bool x1) (.bool x2) (.bool x3) (.bool x4) L0.out.2
 have GG:Hid (FoO j (.returned (.tuple #[.agg #[.bool x0,.bool x1,.bool x2,.bool x3,.bool x4],.bool true]))):=by
  show FoO _ _
  unfold FoO;rw[HE.out,hx0,hx1,hx2,hx3,hx4];simp only[Bool.true_and]
 clear HE hf0 hx0 hx1 hx2 hx3 hx4;go_enter Tryz.func96,Tryz.ntmps96;go_upto_region 3 with fail;have G9:Hid (w.grownBy _ none∧w.heap.size≤w.heap.size):=⟨L0.out.1,Nat.le_refl _⟩;clear L0;generalize w.alloc (.cells #[.bool false,.bool false,.bool false,.bool false,.bool false] 114)=u at *;generalize hp:w.heap.size=p at *;have HP:Hid (w.heap.size=p):=hp;clear hp;go_wp2;refine bodyPost_ret (results_cell2O (P:=Tryz.prog) Tryz.results96 _ _ _ _ _ _ _ rfl HF5.out.1 Tryz.underlying114 rfl (by kernel_rfl)) rfl ?_;exact ⟨GG.out,grown_into G9.out.1 HF5.out.2 (Nat.le_of_eq HP.out)⟩
set_option maxRecDepth 100000
abbrev Ofm:=Bool × Bool × Bool × Bool × Bool
def opsL:List Ofm:=[(false,false,false,false,false),(true,true,false,false,false),(false,false,false,true,false),(false,false,false,false,false),(true,false,false,false,false),(false,false,false,false,false),(true,false,false,false,false),(true,false,false,false,false),(false,false,false,false,false),(false,false,false,false,false),(false,false,false,false,false),(false,false,false,false,false),(false,false,false,false,false),(false,false,false,false,false),(false,false,false,false,false),(false,false,false,false,false),(false,false,false,false,false),(false,false,false,false,false),(false,false,false,false,false),(false,false,false,false,false),(false,false,false,false,false),(true,false,true,false,false),(true,false,false,false,true),(true,false,false,false,false),(false,false,false,false,false),(false,false,false,false,false),(true,false,false,false,false),(true,false,false,false,false),(false,false,false,false,false),(true,false,false,false,false),(false,false,false,false,false),(true,false,false,false,false)]
theorem opsL_len:opsL.length=32:=rfl
def cellsOf5 (f:Ofm):List Value:=[.bool f.1,.bool f.2.1,.bool f.2.2.1,.bool f.2.2.2.1,.bool f.2.2.2.2]
def datO {H:Type} (f:Ofm):DataW H:=.agg [.lit (.bool f.1),.lit (.bool f.2.1),.lit (.bool f.2.2.1),.lit (.bool f.2.2.2.1),.lit (.bool f.2.2.2.2)]
theorem opsA_cells:opsA.toList=opsL.flatMap cellsOf5:=by kernel_rfl
theorem laidO_dat:(Rows.laid_loop_example_g00293_impl_opForms:DataW Unit) = .agg (opsL.map datO):=by kernel_rfl
theorem rowsO_join:∀ (rows:List Ofm) (cs:List Value),cs.length=rows.length * 5→(∀ i f,rows[i]? = some f→(cs.drop (i * 5)).take 5=cellsOf5 f)→cs=rows.flatMap cellsOf5
 | [],cs,h,_=>by simpa using h
 | f::rows,cs,h,H=>by
  have h0:cs.take 5=cellsOf5 f:=by simpa using H 0 f rfl
  have ht:cs.drop 5=rows.flatMap cellsOf5:=rowsO_join rows (cs.drop 5) (by simp at h ⊢;omega) (fun i g hg=>by
   have:=H (i+1) g (by simpa using hg);rw[List.drop_drop]
   have e:5+i * 5=(i+1) * 5:=by omega
   rw[e];exact this)
  rw[List.flatMap_cons,← h0,← ht,List.take_append_drop]
section
variable {H:Type} {enc:TypeId × Value→H} {W:World} {base:Nat} {spare:Nat→Bool} {held:Bool}
theorem ofm_of {m:Nat} {cs:List Value} {f:Ofm} {p:List MemPlace} (h:DataW.trod enc Tryz.prog W base spare held m 114 cs=some (datO f,p)):cs=cellsOf5 f:=by
 have c4:Tryz.prog.cellsOf 4=1:=by kernel_rfl
 have c5:Tryz.prog.cellsOf 114=5:=by kernel_rfl
 obtain ⟨xs,n,hn,hx,hl,hxl,hf⟩:=DataW.trod_struct Tryz.underlying114 h;have f0:DataW.trod enc Tryz.prog W base spare held n 4 ((cs.drop 0).take (Tryz.prog.cellsOf 4))=xs[0]?:=hf 0 _ rfl;have f1:DataW.trod enc Tryz.prog W base spare held n 4 ((cs.drop 1).take (Tryz.prog.cellsOf 4))=xs[1]?:=hf 1 _ rfl;have f2:DataW.trod enc Tryz.prog W base spare held n 4 ((cs.drop 2).take (Tryz.prog.cellsOf 4))=xs[2]?:=hf 2 _ rfl;have f3:DataW.trod enc Tryz.prog W base spare held n 4 ((cs.drop 3).take (Tryz.prog.cellsOf 4))=xs[3]?:=hf 3 _ rfl;have f4:DataW.trod enc Tryz.prog W base spare held n 4 ((cs.drop 4).take (Tryz.prog.cellsOf 4))=xs[4]?:=hf 4 _ rfl;rw[c4] at f0 f1 f2 f3 f4;have hx5:xs.length=5:=hxl;rw[c5] at hl
 match cs,hl with
 | [v0,v1,v2,v3,v4],_ =>
 match xs,hx5 with
 | [x0,x1,x2,x3,x4],_ =>
 obtain ⟨s0,e0,d0⟩:=DataW.trod_bool Tryz.underlying4 (show DataW.trod enc Tryz.prog W base spare held n 4 [v0]=some x0 from f0);obtain ⟨s1,e1,d1⟩:=DataW.trod_bool Tryz.underlying4 (show DataW.trod enc Tryz.prog W base spare held n 4 [v1]=some x1 from f1);obtain ⟨s2,e2,d2⟩:=DataW.trod_bool Tryz.underlying4 (show DataW.trod enc Tryz.prog W base spare held n 4 [v2]=some x2 from f2);obtain ⟨s3,e3,d3⟩:=DataW.trod_bool Tryz.underlying4 (show DataW.trod enc Tryz.prog W base spare held n 4 [v3]=some x3 from f3);obtain ⟨s4,e4,d4⟩:=DataW.trod_bool Tryz.underlying4 (show DataW.trod enc Tryz.prog W base spare held n 4 [v4]=some x4 from f4);subst d0 d1 d2 d3 d4;have hd:=congrArg Prod.fst hx;simp only[datO,List.map_cons,List.map_nil,DataW.agg.injEq,List.cons.injEq,DataW.lit.injEq,Lit.bool.injEq,and_true] at hd;obtain ⟨q0,q1,q2,q3,q4⟩:=hd
 cases e0;cases e1;cases e2;cases e3;cases e4
 unfold cellsOf5;rw[q0,q1,q2,q3,q4]
theorem ops_of {fuel:Nat} {cs:List Value} {p:List MemPlace} (h:DataW.trod enc Tryz.prog W base spare held fuel 142 cs=some (.agg (opsL.map datO),p)):cs=opsA.toList:=by
 have c4:Tryz.prog.cellsOf 114=5:=by kernel_rfl
 have c160:Tryz.prog.cellsOf 142=160:=by kernel_rfl
 obtain ⟨xs,m,hm,hx,hl,hxl,he⟩:=DataW.trod_array Tryz.underlying142 h;rw[c160] at hl
 have hd:opsL.map datO=xs.map (·.1):=by
  have:=congrArg Prod.fst hx;simpa only [DataW.agg.injEq] using this
 rw[opsA_cells]
 refine rowsO_join opsL cs (by rw[hl,opsL_len]) fun i f hf=>?_
 have hi:i < 32:=by
  have:=(List.getElem?_eq_some_iff.1 hf).1
  rwa [opsL_len] at this
 have h1:=he i hi;rw[c4] at h1
 have h2:(xs.map (·.1))[i]? = some (datO f):=by rw[← hd,List.getElem?_map,hf];rfl
 rw[List.getElem?_map] at h2;obtain ⟨⟨y,z⟩,hy,hz⟩:=Option.map_eq_some_iff.1 h2;rw[hy] at h1;obtain rfl:y=datO f:=hz;exact ofm_of h1
end
theorem opsIn_of_laid {W : World} {rest : List (String × DataW Unit)} (h : laidMet Tryz.prog (("loop.example/g00293/impl.opForms", Rows.laid_loop_example_g00293_impl_opForms) :: rest) W) : OpsIn W := by
 obtain ⟨ps,⟨g,t,cs,fuel,p,q,hg,ht,hvar,hd,_,_⟩,_⟩:=h;obtain rfl := Option.some.inj ((show Tryz.prog.globalNamed "loop.example/g00293/impl.opForms" = some 0 by kernel_rfl).symm.trans hg);obtain rfl:=Option.some.inj ((show (Tryz.prog.globals[0]?).map (·.type)=some 142 by kernel_rfl).symm.trans ht);rw[laidO_dat] at hd;have hc:cs.toList=opsA.toList:=ops_of hd
 obtain rfl:cs=opsA:=by
  cases cs;cases hfa:opsA
  rw[hfa] at hc;simp at hc;rw[hc]
 unfold World.var? at hvar;rw[hg] at hvar;simp only[Option.bind_some] at hvar
 split at hvar
 ·
  rename_i c t' fr hh
  exact ⟨t',fr,by rw[hh];cases hvar;rfl⟩
 ·
  cases hvar
def getAt (zs:List Int) (p:Nat):Nat→Nat→Int→Int × Int
 | 0,_,_=>(0,-1)
 | f+1,i,n =>
  if p+i < zs.length then
   if 128≤zs.getD (p+i) 0 then getAt zs p f (i+1) (n+zs.getD (p+i) 0 % 128 * 128 ^ i)
   else if (zs.getD (p+i) 0=0∧0 < i)∨2147483647 < n+zs.getD (p+i) 0 % 128 * 128 ^ i then (0,-1)
   else (n+zs.getD (p+i) 0 % 128 * 128 ^ i,(p:Int)+i+1)
  else (0,-1)
def getNum (zs:List Int) (at':Int):Int × Int:=if at' < 0 then (0,-1) else getAt zs at'.toNat 5 0 0
theorem getAt_out {zs:List Int} {p f i:Nat} {n:Int} (h:¬ p+i < zs.length):getAt zs p f i n=(0,-1):=by
 cases f with
 | zero=>rfl
 | succ f=>rw[getAt,if_neg h]
theorem getAt_more {zs:List Int} {p f i:Nat} {n x U:Int} (h:p+i < zs.length) (hx:x=zs.getD (p+i) 0) (hU:U=128 ^ i) (h1:128≤x):getAt zs p (f+1) i n=getAt zs p f (i+1) (n+x % 128 * U):=by
 subst hx hU;rw[getAt,if_pos h,if_pos h1]
theorem getAt_no {zs:List Int} {p f i:Nat} {n x U:Int} (h:p+i < zs.length) (hx:x=zs.getD (p+i) 0) (hU:U=128 ^ i) (h1:x < 128) (h2:(x=0∧0 < i)∨2147483647 < n+x % 128 * U):getAt zs p (f+1) i n=(0,-1):=by
 subst hx hU;rw[getAt,if_pos h,if_neg (by omega),if_pos h2]
theorem getAt_yes {zs:List Int} {p f i:Nat} {n x U:Int} (h:p+i < zs.length) (hx:x=zs.getD (p+i) 0) (hU:U=128 ^ i) (h1:x < 128) (h2:¬ ((x=0∧0 < i)∨2147483647 < n+x % 128 * U)):getAt zs p (f+1) i n=(n+x % 128 * U,(p:Int)+i+1):=by
 subst hx hU;rw[getAt,if_pos h,if_neg (by omega),if_neg h2]
theorem at_zero {N x U r1 r2:Int} {q k:Nat} (hx:x=0) (hk:k=0) (h:(N+x % 128 * U,(q:Int)+k+1)=(r1,r2)):(N,(q:Int)+1)=(r1,r2):=by
 subst hx hk;simpa using h
theorem unit_le {k:Nat} {U:Int} (hU:U=128 ^ k) (hk:k < 5):1≤U∧U≤268435456:=by
 rcases (show k=0∨k=1∨k=2∨k=3∨k=4 by omega) with rfl|rfl|rfl|rfl|rfl <;> (subst hU;exact ⟨by decide,by decide⟩)
theorem unit_step {k:Nat} {U:Int} (hU:U=128 ^ k):U * 128=128 ^ (k+1):=by rw[Int.pow_succ,hU]
theorem prod_le {x U:Int} (h0:0≤x) (hU:1≤U):0≤x % 128 * U∧x % 128 * U≤127 * U:=by
 exact ⟨Int.mul_nonneg (by omega) (by omega),Int.mul_le_mul_of_nonneg_right (by omega) (by omega)⟩
theorem and127:∀ x:Nat,x < 256→bits BinOp.and IntKind.i64 (x:Int) 127=(x:Int) % 128:=by decide +kernel
theorem and127' (x:Int) (h0:0≤x) (h1:x≤255):bits BinOp.and IntKind.i64 x 127=x % 128:=by
 have:=and127 x.toNat (by omega)
 rwa [Int.toNat_of_nonneg h0] at this
theorem ret2 {a b c d:Int} (h:(a,b)=(c,d)):Ending.returned (.tuple #[.int .i64 a,.int .i64 b]) = .returned (.tuple #[.int .i64 c,.int .i64 d]):=by
 obtain ⟨rfl,rfl⟩:=Prod.mk.inj h;rfl
theorem getAt_bounds (zs:List Int) (hz:Byt zs) (p:Nat):∀ (f i:Nat) (n:Int),0≤n→(getAt zs p f i n=(0,-1))∨(0≤(getAt zs p f i n).1∧0≤(getAt zs p f i n).2∧(getAt zs p f i n).2≤zs.length):=by
 intro f
 induction f with
 | zero=>intro i n _;exact .inl rfl
 | succ f ih =>
  intro i n hn;have hb:=byt_get hz (p+i);rw[← List.getD_eq_getElem?_getD] at hb;have hp:0≤zs.getD (p+i) 0 % 128 * 128 ^ i:=Int.mul_nonneg (by omega) (Int.le_of_lt (Int.pow_pos (by decide)));rw[getAt];by_cases h1:p+i < zs.length
  ·
   rw[if_pos h1];by_cases h2:128≤zs.getD (p+i) 0
   ·
    rw[if_pos h2];exact ih _ _ (by omega)
   ·
    rw[if_neg h2];by_cases h3:(zs.getD (p+i) 0=0∧0 < i)∨2147483647 < n+zs.getD (p+i) 0 % 128 * 128 ^ i
    ·
     rw[if_pos h3];exact .inl rfl
    ·
     rw[if_neg h3];right;refine ⟨by show 0≤n+_;omega,by show 0≤(p:Int)+i+1;omega,by show (p:Int)+i+1≤_;omega⟩
  ·
   rw[if_neg h1];exact .inl rfl
theorem getNum_bounds (zs:List Int) (hz:Byt zs) (p:Int):(getNum zs p=(0,-1))∨(0≤(getNum zs p).1∧0≤(getNum zs p).2∧(getNum zs p).2≤zs.length):=by
 unfold getNum;split
 ·
  exact .inl rfl
 ·
  exact getAt_bounds zs hz _ 5 0 0 (by omega)
def fitsB (k n:Int) (l:Nat):Bool :=
 if k=0∨k=1∨k=2 then decide (l=0) && decide (n=0)
 else if k=3∨k=4 then decide (l=2) && decide (n=0)
 else if k=5 then decide (l=1) && decide (n=0)
 else if k=6 then decide (l≤3) && (decide (0≤n) && decide (n < 20))
 else if k=7 then decide (l=0) && (decide (0≤n) && decide (n < 100000))
 else false
def okF:F→Nat→Bool
 | .nil,_=>true
 | .cons k n d r,p=>decide (p≠0) && fitsB k n d.len && okF d (p - 1) && okF r p
def tyV (bad:Int) (k n:Int) (d:F) (p room:Nat):Int:=if p≠0∧fitsB k n d.len=true∧okF d (p - 1)=true∧1+d.size≤room then ((1+d.size:Nat):Int) else bad
def accV (bad:Int) (R:F) (p s room:Nat):Int:=if okF R p=true∧s+R.size≤room then ((s+R.size:Nat):Int) else bad
theorem accV_nil {bad:Int} {p s room:Nat} (h:s≤room):accV bad .nil p s room=(s:Int):=by
 unfold accV;rw[if_pos ⟨rfl,by simpa [F.size] using h⟩];simp [F.size]
theorem accV_cons {bad k n:Int} {d r:F} {p s room:Nat} (hp:p≠0) (h1:fitsB k n d.len=true) (h2:okF d (p - 1)=true):accV bad (.cons k n d r) p s room=accV bad r p (s+(1+d.size)) room:=by
 unfold accV
 have e:okF (.cons k n d r) p=okF r p:=by simp [okF,hp,h1,h2]
 have e2:s+(F.cons k n d r).size=s+(1+d.size)+r.size:=by simp only[F.size];omega
 rw[e,e2]
theorem accV_bad {bad k n:Int} {d r:F} {p s room:Nat} (h:¬ (p≠0∧fitsB k n d.len=true∧okF d (p - 1)=true∧s+(1+d.size)≤room)):accV bad (.cons k n d r) p s room=bad:=by
 unfold accV;rw[if_neg];rintro ⟨h1,h2⟩;apply h;simp only[okF,bA9,dE9] at h1;simp only[F.size] at h2;exact ⟨h1.1.1.1,h1.1.1.2,h1.1.2,by omega⟩
theorem tyV_acc {bad k n:Int} {d:F} {p room:Nat} (hp:p≠0) (h1:fitsB k n d.len=true):tyV bad k n d p room=accV bad d (p - 1) 1 room:=by
 unfold tyV accV;by_cases h:okF d (p - 1)=true∧1+d.size≤room
 ·
  rw[if_pos ⟨hp,h1,h⟩,if_pos h]
 ·
  rw[if_neg (fun x=>h x.2.2),if_neg h]
theorem tyV_bad {bad k n:Int} {d:F} {p room:Nat} (h:¬ (p≠0∧fitsB k n d.len=true)):tyV bad k n d p room=bad:=by
 unfold tyV;rw[if_neg (fun x=>h ⟨x.1,x.2.1⟩)]
theorem n0 (n:Int):decide (n=0)=(decide (0≤n) && decide (n≤0)):=by
 by_cases h:n=0
 ·
  subst h;rfl
 ·
  by_cases h2:0≤n
  ·
   have h3:¬ n≤0:=by omega
   simp [h,h3]
  ·
   simp [h,h2]
theorem nlt (n:Int) (m:Int):decide (n < m+1)=decide (n≤m):=by
 by_cases h:n≤m
 ·
  simp [h,show n < m+1 by omega]
 ·
  simp [h,show ¬ n < m+1 by omega]
theorem fits012 {k n:Int} {l:Nat} (h:k=0∨k=1∨k=2):fitsB k n l=(decide (l=0) && (decide (0≤n) && decide (n≤0))):=by
 unfold fitsB;rw[if_pos h,n0]
theorem fits34 {k n:Int} {l:Nat} (h:k=3∨k=4):fitsB k n l=(decide (l=2) && (decide (0≤n) && decide (n≤0))):=by
 unfold fitsB;rw[if_neg (by omega),if_pos h,n0]
theorem fits5 {n:Int} {l:Nat}:fitsB 5 n l=(decide (l=1) && (decide (0≤n) && decide (n≤0))):=by
 unfold fitsB;rw[if_neg (by omega),if_neg (by omega),if_pos rfl,n0]
theorem fits6 {n:Int} {l:Nat} (h:l≤3):fitsB 6 n l=(decide (l=l) && (decide (0≤n) && decide (n≤19))):=by
 unfold fitsB;rw[if_neg (by omega),if_neg (by omega),if_neg (by omega),if_pos rfl,← nlt n 19];simp [h]
theorem fits6x {n:Int} {l:Nat} (h:¬ l≤3):fitsB 6 n l=false:=by
 unfold fitsB;rw[if_neg (by omega),if_neg (by omega),if_neg (by omega),if_pos rfl];simp [h]
theorem fits7 {n:Int} {l:Nat}:fitsB 7 n l=(decide (l=0) && (decide (0≤n) && decide (n≤99999))):=by
 unfold fitsB;rw[if_neg (by omega),if_neg (by omega),if_neg (by omega),if_neg (by omega),if_pos rfl,← nlt n 99999];rfl
theorem fitsx {k n:Int} {l:Nat} (h0:k≠0) (h1:k≠1) (h2:k≠2) (h3:k≠3) (h4:k≠4) (h5:k≠5) (h6:k≠6) (h7:k≠7):fitsB k n l=false:=by
 unfold fitsB;rw[if_neg (by omega),if_neg (by omega),if_neg h5,if_neg h6,if_neg h7]
theorem l3okT (m:Nat):∀ (d:F) (k n:Int) (a:Option Addr) (l c:Nat) (deep:Int) (w:World),d.size < m→SlF w a l d→1≤deep→deep≤11 →
  Calls Tryz.prog 75 #[.agg #[.int .i64 k,.int .i64 n,.slice a l c],.int .i64 deep] w fun e u=>e = .returned (.int .i64 (tyV (-1) k n d (11 - deep).toNat 60))∧w.grownBy u none:=by
 induction m with
 | zero=>intro d k n a l c deep w hm;exact absurd hm (Nat.not_lt_zero _)
 | succ m ih =>
  intro d k n a l c deep w hm h h0 h1;have hfl:=h.1;have hl:=h.2.1;by_cases hdeep:deep=11
  ·
   subst hdeep;have E:Hid (tyV (-1) k n d (11 - 11:Int).toNat 60 = -1):=tyV_bad (by simp);go_enter Tryz.func75,Tryz.ntmps75;go_wp2;go_ret;exact ⟨by rw[E.out];rfl,gal _ _ _⟩
  have hd10:deep≤10:=by omega
  have hp0:(11 - deep).toNat≠0:=by omega
  have IH:Hid _:=ih;have HS:Hid (SlF w a l d):=h;clear ih h hdeep h1;go_enter Tryz.func75,Tryz.ntmps75;go_upto_block 0 with fail
  go_cut [5,6] (fun s5 s6 wx=>wx=w.alloc (.cells #[.int .i64 k,.int .i64 n,.slice a l c] 46)∧∃ (want:Nat) (most:Int),s5 = .int .i64 want∧s6 = .int .i64 most∧Hid (fitsB k n l=(decide (l=want) && (decide (0≤n) && decide (n≤most)))))
  case first =>
   by_cases k0:k=0
   ·
    subst k0;go_wp2;go_meet;case rel=>exact ⟨rfl,0,0,rfl,rfl,fits012 (by simp)⟩
   by_cases k1:k=1
   ·
    subst k1;go_wp2;go_meet;case rel=>exact ⟨rfl,0,0,rfl,rfl,fits012 (by simp)⟩
   by_cases k2:k=2
   ·
    subst k2;go_wp2;go_meet;case rel=>exact ⟨rfl,0,0,rfl,rfl,fits012 (by simp)⟩
   by_cases k3:k=3
   ·
    subst k3;go_wp2;go_meet;case rel=>exact ⟨rfl,2,0,rfl,rfl,fits34 (by simp)⟩
   by_cases k4:k=4
   ·
    subst k4;go_wp2;go_meet;case rel=>exact ⟨rfl,2,0,rfl,rfl,fits34 (by simp)⟩
   by_cases k5:k=5
   ·
    subst k5;go_wp2;go_meet;case rel=>exact ⟨rfl,1,0,rfl,rfl,fits5⟩
   by_cases k6:k=6
   ·
    subst k6;by_cases l3:l≤3
    ·
     have l3':(l:Int)≤3:=by omega
     go_wp2;go_meet;case rel=>exact ⟨rfl,l,19,rfl,rfl,fits6 l3⟩
    ·
     have l3':(3:Int) < l:=by omega
     have E:Hid (tyV (-1) 6 n d (11 - deep).toNat 60 = -1):=tyV_bad (by rw[hfl,fits6x l3];simp);go_wp2;go_ret;exact ⟨by rw[E.out];rfl,gal _ _ _⟩
   by_cases k7:k=7
   ·
    subst k7;go_wp2;go_meet;case rel=>exact ⟨rfl,0,99999,rfl,rfl,fits7⟩
   have E:Hid (tyV (-1) k n d (11 - deep).toNat 60 = -1):=tyV_bad (by rw[fitsx k0 k1 k2 k3 k4 k5 k6 k7];simp);go_wp2;go_ret;exact ⟨by rw[E.out];rfl,gal _ _ _⟩
  case rest =>
   obtain ⟨rfl,want,most,rfl,rfl,hF⟩:=hcut;have hF':=hF.out;by_cases f1:l=want
   rotate_left
   ·
    have E:Hid (tyV (-1) k n d (11 - deep).toNat 60 = -1):=tyV_bad (by rw[hfl,hF',decide_eq_false f1];simp)
    have f1':¬ (l:Int)=want:=by omega
    clear hF' f1;go_wp2;go_ret;exact ⟨by rw[E.out];rfl,gal _ _ _⟩
   subst f1;by_cases f2:0≤n
   rotate_left
   ·
    have E:Hid (tyV (-1) k n d (11 - deep).toNat 60 = -1):=tyV_bad (by rw[hfl,hF',decide_eq_false f2];simp)
    have f2':n < 0:=by omega
    clear hF' f2;go_wp2;go_ret;exact ⟨by rw[E.out];rfl,gal _ _ _⟩
   by_cases f3:n≤most
   rotate_left
   ·
    have E:Hid (tyV (-1) k n d (11 - deep).toNat 60 = -1):=tyV_bad (by rw[hfl,hF',decide_eq_false f3];simp)
    have f3':most < n:=by omega
    clear hF' f3;go_wp2;go_ret;exact ⟨by rw[E.out];rfl,gal _ _ _⟩
   have hfit:fitsB k n d.len=true:=by rw[hfl,hF',decide_eq_true f2,decide_eq_true f3];simp
   have E:Hid (tyV (-1) k n d (11 - deep).toNat 60=accV (-1) d ((11 - deep).toNat - 1) 1 60):=tyV_acc hp0 hfit;clear hF' hF hfit;have g0:w.grownBy (w.alloc (.cells #[.int .i64 k,.int .i64 n,.slice a l c] 46)) none:=gal _ _ _;have b0:=(three (hnw w (.cells #[.int .i64 k,.int .i64 n,.slice a l c] 46))).1.2.2;rcases HS.out.cases with ⟨rfl,rfl⟩|⟨b,o,rfl,hin,-,hpos⟩
   ·
    have E2:Hid (tyV (-1) k n .nil (11 - deep).toNat 60=1):=E.out.trans (accV_nil (by omega));clear b0;go_wp2;refine wp_loop_rounds 1 ?_;rw[rounds_succ];go_wp2;go_ret;exact ⟨by rw[E2.out];rfl,g0⟩
   have IN:Hid (InF _ d b o):=hin.none g0;have G0:Hid (w.grownBy _ none):=g0;have B0:Hid (_=some _):=b0;clear hin HS g0 b0;go_wp2;generalize w.alloc (.cells #[.int .i64 k,.int .i64 n,.slice (some ⟨b,o,none⟩) l c] 46)=W0 at *
   go_loopw [7,8] (fun v i wr=>∃ (j s:Nat) (R:F),j≤l∧i = .int .i64 j∧v = .int .i64 s∧1≤s∧s≤60∧W0.grownBy wr none∧InF wr R b (o+j * 3)∧R.len+j=l∧R.size≤d.size∧Hid (accV (-1) d ((11 - deep).toNat - 1) 1 60=accV (-1) R ((11 - deep).toNat - 1) s 60)) (fun _ i _=>l - (intOf i).toNat)
   case atStart=>exact ⟨0,1,d,Nat.zero_le _,rfl,rfl,by omega,by omega,grf _ _,by simpa using IN.out,by omega,Nat.le_refl _,rfl⟩
   case round =>
    obtain ⟨j,s,R,hj,rfl,rfl,hs1,hs2,hg,hR,hRl,hRs,hv⟩:=hrel;have x2:=hg.cell B0.out (by simp);by_cases hlt:j < l
    ·
     obtain ⟨q,hq⟩:∃ q,R.len=q+1:=⟨R.len - 1,by omega⟩;obtain ⟨kk,nn,d',R',rfl,hR'⟩:=F.cons_of_len hq;obtain ⟨a',l',c',c0,c1,c2,hd,hR2⟩:=hR.out
     have e3:o+j * 3+3=o+(j+1) * 3:=by omega
     rw[e3] at hR2
     have hds:d'.size < m:=by simp only[F.size] at hRs hm;omega
     have hRs':R'.size≤d.size:=by simp only[F.size] at hRs;omega
     have CC:Hid _:=IH.out d' kk nn a' l' c' (deep+1) wr hds hd (by omega) (by omega);have FX:Hid (InF wr R' b (o+(j+1) * 3)∧W0.grownBy wr none):=⟨hR2,hg⟩
     have hP:(11 - (deep+1)).toNat=(11 - deep).toNat - 1:=by omega
     rw[hP] at CC;generalize (11 - deep).toNat - 1=P1 at *;clear hd hR hR2 hg IN IH hRs hP;go_wp2_with fail;refine Calls.mono CC.out ?_;rintro e u ⟨rfl,hgu⟩;obtain ⟨hR2,hg⟩:=FX.out;have FY:Hid (InF u R' b (o+(j+1) * 3)∧W0.grownBy u none):=⟨hR2.none hgu,gtr hg hgu⟩;clear hR2 hg hgu CC c0 c1 c2 FX x2;simp only[];by_cases hh:P1≠0∧fitsB kk nn d'.len=true∧okF d' (P1 - 1)=true∧1+d'.size≤60
     ·
      have e1:tyV (-1) kk nn d' P1 60=((1+d'.size:Nat):Int):=if_pos hh;rw[e1];obtain ⟨q0,q1,q2,q3⟩:=hh;by_cases hsum:s+(1+d'.size)≤60
      ·
       have hv2:Hid (accV (-1) d P1 1 60=accV (-1) R' P1 (s+(1+d'.size)) 60):=hv.out.trans (accV_cons q0 q1 q2)
       have hs3:¬ (60 < (s:Int)+((1+d'.size:Nat):Int)):=by omega
       generalize hz:1+d'.size=z at *;clear e1 hv q0 q1 q2;go_wp2;go_roundw
       case rel=>exact ⟨j+1,s+z,R',by omega,by go_num,by go_num,by omega,hsum,FY.out.2,FY.out.1,by omega,hRs',hv2⟩
       case measure=>simp [intOf];omega
      ·
       have hv2:Hid (accV (-1) d P1 1 60 = -1):=hv.out.trans (accV_bad (fun x=>hsum x.2.2.2))
       have hs3:(60 < (s:Int)+((1+d'.size:Nat):Int)):=by omega
       generalize hz:1+d'.size=z at *;clear e1 hv q0 q1 q2;go_wp2;go_ret;exact ⟨by rw[E.out,hv2.out];rfl,gtr G0.out FY.out.2⟩
     ·
      have e1:tyV (-1) kk nn d' P1 60 = -1:=if_neg hh;rw[e1];have hv2:Hid (accV (-1) d P1 1 60 = -1):=hv.out.trans (accV_bad (fun x=>hh ⟨x.1,x.2.1,x.2.2.1,by omega⟩));clear e1 hv hh;go_wp2;go_ret;exact ⟨by rw[E.out,hv2.out];rfl,gtr G0.out FY.out.2⟩
    ·
     obtain rfl:j=l:=by omega
     obtain rfl:R = .nil:=F.nil_of_len (by omega);have E2:Hid (tyV (-1) k n d (11 - deep).toNat 60=(s:Int)):=(E.out.trans hv.out).trans (accV_nil hs2);clear hv;go_wp2;go_ret;exact ⟨by rw[E2.out];rfl,gtr G0.out hg⟩
def okT (k n:Int) (d:F):Bool:=fitsB k n d.len && okF d 9 && decide (1+d.size≤60)
theorem tyV_ok {bad k n:Int} {d:F} (h:okT k n d=true):tyV bad k n d 10 60=((1+d.size:Nat):Int):=by
 simp only[okT,bA9,dE9] at h;exact if_pos ⟨by omega,h.1.1,h.1.2,h.2⟩
theorem tyV_no {bad k n:Int} {d:F} (h:okT k n d=false):tyV bad k n d 10 60=bad:=by
 refine if_neg (fun x=>?_)
 have:okT k n d=true:=by simp only[okT,bA9,dE9];exact ⟨⟨x.2.1,x.2.2.1⟩,x.2.2.2⟩
 rw[this] at h;cases h
theorem specTyOkT (d:F) (k n:Int) (a:Option Addr) (l c:Nat) (w:World) (h:SlF w a l d) :
  Calls Tryz.prog 53 #[.agg #[.int .i64 k,.int .i64 n,.slice a l c]] w fun e u=>e = .returned (.bool (okT k n d))∧w.grownBy u none:=by
 have g0:w.grownBy (w.alloc (.cells #[.int .i64 k,.int .i64 n,.slice a l c] 46)) none:=gal _ _ _;have CC:Hid _:=l3okT (d.size+1) d k n a l c 1 _ (Nat.lt_succ_self _) (h.none g0) (by omega) (by omega);have G0:Hid _:=g0;clear h g0;go_enter Tryz.func53,Tryz.ntmps53;go_wp2_with fail;refine Calls.mono CC.out ?_;rintro e u ⟨rfl,hg⟩;have G:Hid (w.grownBy u none):=gtr G0.out hg;clear hg G0 CC;have e10:(11 - 1:Int).toNat=10:=rfl;simp only[e10]
 cases hb:okT k n d with
 | true =>
  rw[tyV_ok hb]
  have hpos:(0:Int) < ((1+d.size:Nat):Int):=by omega
  generalize ((1+d.size:Nat):Int)=z at *;go_wp2;go_ret;exact ⟨by simp [hb],G.out⟩
 | false =>
  rw[tyV_no hb];go_wp2;go_ret;exact ⟨by rw[hb];rfl,G.out⟩
end Go.Proofs.YtnmlbeefjjohfaaGreatDoor.By
