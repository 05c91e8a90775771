/-
  No statement is proved here.
-/
import Derived.Test.YtblbnillilbacaaGreatDoorNHa
import Derived.Test.YtblbnillilbacaaGreatDoorEMAlsoa
namespace Go.Proofs.YtblbnillilbacaaGreatDoor.By
set_option maxRecDepth 100000
set_option maxHeartbeats 16000000
open Go.RowKit
set_option linter.unusedVariables false
set_option linter.unusedSimpArgs false
def gapB (zs:List Int):Bool:=match zs.getLast? with
 | none=>false
 | some z=>!decide (z=40) && !decide (z=10)
def gapZ (zs:List Int):List Int:=if gapB zs=true then zs++[32] else zs
theorem gapB_app {t:List Int} (zs:List Int) (h:gapB t=true):gapB (zs++t)=true:=by
 unfold gapB at *
 cases ht:t.getLast? with
 | none=>rw[ht] at h;cases h
 | some z=>rw[ht] at h;rw[List.getLast?_append,ht];exact h
theorem gapZ_good {t:List Int} (zs:List Int) (h:gapB t=true):gapZ (zs++t)=zs++t++[32]:=by
 unfold gapZ;rw[if_pos (gapB_app zs h)]
theorem gapB_last (zs:List Int) (z:Int):gapB (zs++[z])=(!decide (z=40) && !decide (z=10)):=by
 unfold gapB;rw[List.getLast?_concat]
theorem gapZ_open (zs:List Int):gapZ (zs++[40])=zs++[40]:=by unfold gapZ;rw[gapB_last];rfl
theorem gapZ_line (zs:List Int):gapZ (zs++[10])=zs++[10]:=by unfold gapZ;rw[gapB_last];rfl
theorem gapZ_len (zs:List Int):(gapZ zs).length≤zs.length+1:=by
 unfold gapZ;split
 ·
  simp
 ·
  omega
theorem gapB_at {zs:List Int} (h:zs≠[]):gapB zs=(!decide (zs.getD (zs.length - 1) 0=40) && !decide (zs.getD (zs.length - 1) 0=10)):=by
 have e:=List.dropLast_concat_getLast h
 have e2:zs.getD (zs.length - 1) 0=zs.getLast h:=by
  rw[List.getLast_eq_getElem,List.getD_eq_getElem?_getD,List.getElem?_eq_getElem (by have:=List.length_pos_iff.2 h;omega)];rfl
 rw[e2]
 conv=>lhs;rw[← e]
 exact gapB_last _ _
theorem gapB_one {z:Int} (h1:z≠40) (h2:z≠10) (zs:List Int):gapB (zs++[z])=true:=by rw[gapB_last];simp [h1,h2]
theorem gapB_cons {z:Int} {t:List Int} (h:gapB t=true):gapB (z::t)=true:=gapB_app [z] h
def blz:List (List Int)→List Int
 | []=>[]
 | t::r=>32::t++blz r
def joinZ:List (List Int)→List Int
 | []=>[]
 | t::r=>t++blz r
def putZ:List Int→List (List Int)→List Int
 | zs,[]=>zs
 | zs,t::r=>putZ (gapZ zs++t) r
theorem blz_app (a b:List (List Int)):blz (a++b)=blz a++blz b:=by
 induction a with
 | nil=>rfl
 | cons x r ih=>simp [blz,ih]
theorem putZ_app (a b:List (List Int)):∀ zs,putZ zs (a++b)=putZ (putZ zs a) b:=by
 induction a with
 | nil=>intro zs;rfl
 | cons x r ih=>intro zs;exact ih _
theorem putZ_tail:∀ (xs:List (List Int)) (zs t:List Int),gapB t=true→(∀ x ∈ xs,gapB x=true)→putZ (zs++t) xs=zs++t++blz xs
 | [],zs,t,_,_=>by simp [putZ,blz]
 | x::r,zs,t,ht,hx=>by
  rw[putZ,gapZ_good zs ht,List.append_assoc (zs++t),putZ_tail r (zs++t) ([32]++x) (gapB_app [32] (hx x (List.mem_cons_self ..))) (fun y hy=>hx y (List.mem_cons_of_mem _ hy))];simp [blz]
theorem putZ_join (xs:List (List Int)) (zs:List Int) (hne:xs≠[]) (hx:∀ x ∈ xs,gapB x=true):putZ zs xs=gapZ zs++joinZ xs:=by
 cases xs with
 | nil=>exact absurd rfl hne
 | cons x r =>
  rw[putZ,putZ_tail r (gapZ zs) x (hx x (List.mem_cons_self ..)) (fun y hy=>hx y (List.mem_cons_of_mem _ hy))];simp [joinZ]
def intB (n:Int):List Int:=ofB (Lib.itoa n)
theorem intB_pos {n:Int} (h:0≤n):intB n=decB n.toNat:=by unfold intB Lib.itoa decB;rw[if_neg (by omega)]
theorem intB_neg {n:Int} (h:n < 0):intB n=45::decB n.natAbs:=by unfold intB Lib.itoa decB;rw[if_pos h];rfl
theorem decB_good (n:Nat):gapB (decB n)=true:=by
 by_cases h:n < 10
 ·
  rw[decB_small h];exact gapB_one (by omega) (by omega) []
 ·
  rw[decB_great h];exact gapB_one (by omega) (by omega) _
theorem intB_good (n:Int):gapB (intB n)=true:=by
 by_cases h:0≤n
 ·
  rw[intB_pos h];exact decB_good _
 ·
  rw[intB_neg (by omega)];exact gapB_cons (decB_good _)
theorem intB_len {n:Int} (h:wholeV n=true):(intB n).length≤11:=by
 simp only[wholeV,Bool.and_eq_true,decide_eq_true_eq] at h;by_cases h0:0≤n
 ·
  rw[intB_pos h0];have:=decB_len 9 n.toNat (by omega);omega
 ·
  rw[intB_neg (by omega)];have:=decB_len 9 n.natAbs (by omega);simp only[lB];omega
theorem lod_good:∀ (zs:List Int),zs≠[]→(∀ z ∈ zs,48≤z)→gapB zs=true:=by
 intro zs hne h;have e:=List.dropLast_concat_getLast hne;rw[← e];have:=h _ (List.getLast_mem hne);exact gapB_one (by omega) (by omega) _
theorem wordV_good {lo hi:Int} {zs:List Int} (hlo:48≤lo) (h:wordV lo hi zs=true):gapB zs=true∧zs.length≤8∧zs≠[]:=by
 unfold wordV at h;simp only[Bool.and_eq_true,decide_eq_true_eq] at h;obtain ⟨⟨h1,h2⟩,h3⟩:=h
 have hne:zs≠[]:=by intro e;rw[e] at h1;simp at h1
 refine ⟨lod_good zs hne ?_,h2,hne⟩
 cases zs with
 | nil=>simp
 | cons z r =>
  unfold wordR at h3;simp only[if_true,Bool.and_eq_true,decide_eq_true_eq,List.all_eq_true] at h3;intro y hy;rcases List.mem_cons.1 hy with rfl|hy
  ·
   omega
  ·
   have:=h3.2 y hy;simp only[lodB,Bool.or_eq_true,Bool.and_eq_true,decide_eq_true_eq] at this;omega
theorem nameV_good {zs:List Int} (h:nameV zs=true):gapB zs=true∧zs.length≤8∧zs≠[]:=by
 unfold nameV at h;simp only[Bool.and_eq_true] at h;exact wordV_good (by omega) h.1
def twB (ds:List Da) (k n:Int):List Int:=if k=6 then (match ds[n.toNat]? with|some x=>x.name|none=>[]) else if k=7 then 39::decB n.toNat else wordB k
def tyXF (ds:List Da):F→List Int
 | .nil=>[]
 | .cons k n d r=>32::(match d with | .nil=>twB ds k n | .cons ..=>40::twB ds k n++(tyXF ds d++[41]))++tyXF ds r
def tyX (ds:List Da) (k n:Int) (d:F):List Int:=match d with | .nil=>twB ds k n | .cons ..=>40::twB ds k n++(tyXF ds d++[41])
theorem tyXF_cons (ds:List Da) (k n:Int) (d r:F):tyXF ds (.cons k n d r)=32::tyX ds k n d++tyXF ds r:=rfl
theorem tyX_nil (ds:List Da) (k n:Int):tyX ds k n .nil=twB ds k n:=rfl
theorem tyX_some {ds:List Da} {k n:Int} {d:F} (h:d.len≠0):tyX ds k n d=40::twB ds k n++(tyXF ds d++[41]):=by
 cases d with
 | nil=>exact absurd rfl h
 | cons=>rfl
def NamG (ds:List Da):Prop:=∀ x ∈ ds,gapB x.name=true∧x.name.length≤8
theorem wordB_good (k:Int):gapB (wordB k)=true:=by unfold wordB;(repeat' split) <;> rfl
theorem tw_data {V:Int} {ds:List Da} {n:Int} {d:F} (h:tyD V ds 6 n d=true):∃ x,ds[n.toNat]? = some x∧(d.len:Int)=x.vars∧tyDF V ds d=true:=by
 unfold tyD dtV at h;rw[if_neg (by decide),if_pos rfl] at h
 cases hx:ds[n.toNat]? with
 | none=>rw[hx] at h;simp at h
 | some x=>rw[hx] at h;simp only[Bool.and_eq_true,decide_eq_true_eq] at h;exact ⟨x,rfl,h.1,h.2⟩
theorem twB_good {V:Int} {ds:List Da} {k n:Int} {d:F} (hG:NamG ds) (hf:fitsB k n d.len=true) (hd:tyD V ds k n d=true):gapB (twB ds k n)=true∧(twB ds k n).length≤8:=by
 unfold twB
 split
 ·
  rename_i h6;subst h6
  obtain ⟨x,hx,-⟩:=tw_data hd;rw[hx];exact hG x (List.mem_of_getElem? hx)
 ·
  split
  ·
   have hn:=fits_num hf;refine ⟨gapB_cons (decB_good _),?_⟩;have:=decB_len 4 n.toNat (by omega);simp only[lB];omega
  ·
   exact ⟨wordB_good k,by have:=wordB_len k;omega⟩
theorem tyD_sub {V:Int} {ds:List Da} {k n:Int} {d:F} (h7:k≠7) (h:tyD V ds k n d=true):tyDF V ds d=true:=by
 unfold tyD at h;rw[if_neg h7] at h
 split at h
 ·
  simp only[Bool.and_eq_true] at h;exact h.2
 ·
  exact h
theorem fits7z {n:Int} {l:Nat} (h:fitsB 7 n l=true):l=0:=by
 unfold fitsB at h;simp at h;exact h.1
theorem tyD_subs {V:Int} {ds:List Da} {k n:Int} {d:F} (hf:fitsB k n d.len=true) (h:tyD V ds k n d=true):tyDF V ds d=true:=by
 by_cases h7:k=7
 ·
  subst h7;have:=fits7z hf
  cases d with
  | nil=>rfl
  | cons=>simp [F.len] at this
 ·
  exact tyD_sub h7 h
theorem tyX_good {V:Int} {ds:List Da} {k n:Int} {d:F} (hG:NamG ds) (hf:fitsB k n d.len=true) (hd:tyD V ds k n d=true):gapB (tyX ds k n d)=true:=by
 cases d with
 | nil=>exact (twB_good hG hf hd).1
 | cons k1 n1 d1 r1 =>
  rw[tyX_some (by simp [F.len])]
  have e:(40::twB ds k n++(tyXF ds (F.cons k1 n1 d1 r1)++[41]))=((40::twB ds k n++tyXF ds (F.cons k1 n1 d1 r1))++[41]):=by simp
  rw[e];exact gapB_one (by decide) (by decide) _
theorem tyXF_len {V:Int} {ds:List Da} (hG:NamG ds) (f:F):∀ p,okF f p=true→tyDF V ds f=true→(tyXF ds f).length≤11 * f.size:=by
 induction f with
 | nil=>intro p _ _;simp [tyXF]
 | cons k n d r ihd ihr =>
  intro p h hd;rw[tyDF_cons] at hd;simp only[okF,Bool.and_eq_true,decide_eq_true_eq] at h hd;have h1:=ihd _ h.1.2 (tyD_subs h.1.1.2 hd.1);have h2:=ihr _ h.2 hd.2;have h3:=(twB_good hG h.1.1.2 hd.1).2;have e:(F.cons k n d r).size=1+d.size+r.size:=rfl;rw[tyXF_cons,e]
  cases d with
  | nil=>rw[tyX_nil];simp only[lA,lB];omega
  | cons k1 n1 d1 r1 =>
   rw[tyX_some (by simp [F.len])];simp only[lA,lB,lC];omega
theorem tyX_len {V:Int} {ds:List Da} {k n:Int} {d:F} {p:Nat} (hG:NamG ds) (hf:fitsB k n d.len=true) (ho:okF d p=true) (hd:tyD V ds k n d=true):(tyX ds k n d).length+1≤11 * (1+d.size):=by
 have h1:=tyXF_len hG d p ho (tyD_subs hf hd);have h3:=(twB_good hG hf hd).2
 cases d with
 | nil=>rw[tyX_nil];omega
 | cons k1 n1 d1 r1 =>
  rw[tyX_some (by simp [F.len])];simp only[lA,lB,lC];omega
theorem dtV_more {ds R:List Da} {n:Int} {l:Nat} (h:dtV ds n l=true):dtV (ds++R) n l=true:=by
 unfold dtV at *
 cases hx:ds[n.toNat]? with
 | none=>rw[hx] at h;cases h
 | some x =>
  rw[hx] at h;have hl:n.toNat < ds.length:=(List.getElem?_eq_some_iff.1 hx).1;rw[List.getElem?_append_left hl,hx];exact h
theorem tyDF_more {V:Int} {ds:List Da} (R:List Da) (f:F):tyDF V ds f=true→tyDF V (ds++R) f=true:=by
 induction f with
 | nil=>intro _;rfl
 | cons k n d r ihd ihr =>
  intro h;rw[tyDF_cons] at *;simp only[Bool.and_eq_true] at *;refine ⟨?_,ihr h.2⟩;have h1:=h.1;unfold tyD at *
  split at h1
  ·
   rename_i e;rw[if_pos e];exact h1
  ·
   rename_i e;rw[if_neg e]
   split at h1
   ·
    rename_i e2;rw[if_pos e2]
    simp only[Bool.and_eq_true] at *;exact ⟨dtV_more h1.1,ihd h1.2⟩
   ·
    rename_i e2;rw[if_neg e2];exact ihd h1
def fldG (V:Int) (ds:List Da) (f:F):Prop:=okL9 f∧tyDF V ds f=true
 where okL9:F→Prop
 | .nil=>True
 | .cons k n d r=>okT k n d=true∧okL9 r
theorem fldG_of {V:Int} {ds:List Da} (f:F) (h:fldsV V ds f=true):fldG V ds f:=by
 induction f with
 | nil=>exact ⟨trivial,rfl⟩
 | cons k n d r ihd ihr =>
  simp only[fldsV,Bool.and_eq_true] at h;have:=ihr h.2;exact ⟨⟨h.1.1,this.1⟩,by rw[tyDF_cons,h.1.2,this.2];rfl⟩
theorem fldG_cons {V:Int} {ds:List Da} {k n:Int} {d r:F} (h:fldG V ds (.cons k n d r)):(fitsB k n d.len=true∧okF d 9=true∧1+d.size≤60∧tyD V ds k n d=true)∧fldG V ds r:=by
 obtain ⟨⟨h1,h2⟩,h3⟩:=h;rw[tyDF_cons] at h3;simp only[okT,Bool.and_eq_true,decide_eq_true_eq] at h1 h3;exact ⟨⟨h1.1.1,h1.1.2,h1.2,h3.1⟩,h2,h3.2⟩
theorem fldG_len {V:Int} {ds:List Da} (hG:NamG ds) (f:F):fldG V ds f→(tyXF ds f).length≤660 * f.len:=by
 induction f with
 | nil=>intro _;simp [tyXF]
 | cons k n d r ihd ihr =>
  intro h;obtain ⟨⟨h1,h2,h3,h4⟩,h5⟩:=fldG_cons h;have:=ihr h5;have:=tyX_len hG h1 h2 h4;rw[tyXF_cons];simp only[F.len,lA,lB];omega
def conX (ds:List Da) (c:Co):List Int:=[32,40]++c.name++tyXF ds c.flds++[41]
def conXs (ds:List Da):List Co→List Int
 | []=>[]
 | c::r=>conX ds c++conXs ds r
def datX (ds:List Da) (x:Da):List Int:=[40,100,97,116,97,32]++x.name++32::decB x.vars.toNat++conXs ds x.cons++[41,10]
def datXs (ds:List Da):List Da→List Int
 | []=>[]
 | x::r=>datX ds x++datXs ds r
def conG (V:Int) (ds:List Da) (c:Co):Prop:=(gapB c.name=true∧c.name.length≤8)∧c.flds.len≤3∧fldG V ds c.flds
def daG (ds:List Da) (x:Da):Prop:=(gapB x.name=true∧x.name.length≤8)∧(0≤x.vars∧x.vars≤2)∧x.cons.length≤5∧∀ c ∈ x.cons,conG x.vars ds c
theorem daG_of {ds:List Da} (R:List Da) {x:Da} (h:lastV ds x=true):daG (ds++R) x:=by
 unfold lastV headV at h;simp only[Bool.and_eq_true,decide_eq_true_eq,List.all_eq_true] at h;obtain ⟨⟨h1,h2,h3,h4,h5⟩,h6⟩:=h;have hn:=nameV_good h1;refine ⟨⟨hn.1,hn.2.1⟩,⟨h2,h3⟩,h5,fun c hc=>?_⟩;have:=h6 c hc;unfold conV at this;simp only[Bool.and_eq_true,decide_eq_true_eq] at this;have hw:=wordV_good (by omega) this.1;have hf:=fldG_of _ this.2.2;exact ⟨⟨hw.1,hw.2.1⟩,this.2.1,hf.1,tyDF_more R _ hf.2⟩
theorem daG_pre:∀ (R P:List Da),preV P R=true→∀ x ∈ R,daG (P++R) x
 | [],_,_,x,hx=>by simp at hx
 | y::r,P,h,x,hx=>by
  have h':(lastV (P++[y]) y && preV (P++[y]) r)=true:=h;simp only[Bool.and_eq_true] at h';rcases List.mem_cons.1 hx with rfl|hx
  ·
   have:=daG_of r h'.1;simpa using this
  ·
   have:=daG_pre r (P++[y]) h'.2 x hx;simpa using this
theorem daG_all {ds:List Da} (h:implV ds=true):(∀ x ∈ ds,daG ds x)∧NamG ds∧ds.length≤6:=by
 unfold implV at h;simp only[Bool.and_eq_true,decide_eq_true_eq] at h;have:=daG_pre ds [] h.2.1;simp only[List.nil_append] at this;exact ⟨this,fun x hx=>(this x hx).1,h.1⟩
theorem conX_good (ds:List Da) (c:Co):gapB (conX ds c)=true:=gapB_one (by decide) (by decide) _
theorem conX_len {V:Int} {ds:List Da} (hG:NamG ds) {c:Co} (h:conG V ds c):(conX ds c).length≤2000:=by
 have:=fldG_len hG _ h.2.2;have:=h.1.2;have:=h.2.1;unfold conX;simp only[lA,lB,lC];omega
theorem conXs_len {V:Int} {ds:List Da} (hG:NamG ds):∀ cs:List Co,(∀ c ∈ cs,conG V ds c)→(conXs ds cs).length≤2000 * cs.length
 | [],_=>by simp [conXs]
 | c::r,h=>by
  have h1:=conX_len hG (h c (List.mem_cons_self ..));have h2:=conXs_len hG r (fun x hx=>h x (List.mem_cons_of_mem _ hx));simp only[conXs,lA,lB];omega
theorem datXs_app (ds:List Da) (a b:List Da):datXs ds (a++b)=datXs ds a++datXs ds b:=by
 induction a with
 | nil=>rfl
 | cons x r ih=>simp [datXs,ih]
theorem datX_len {ds:List Da} (hG:NamG ds) {x:Da} (h:daG ds x):(datX ds x).length≤10100:=by
 have h1:=conXs_len hG _ h.2.2.2;have:=h.1.2;have:=h.2.2.1;have:=decB_len 0 x.vars.toNat (by have:=h.2.1;omega);unfold datX;simp only[lA,lB,lC];omega
theorem datXs_len {ds:List Da} (hG:NamG ds):∀ R:List Da,(∀ x ∈ R,daG ds x)→(datXs ds R).length≤10100 * R.length
 | [],_=>by simp [datXs]
 | c::r,h=>by
  have h1:=datX_len hG (h c (List.mem_cons_self ..));have h2:=datXs_len hG r (fun x hx=>h x (List.mem_cons_of_mem _ hx));simp only[datXs,lA,lB];omega
theorem datXs_gap (ds:List Da):∀ R:List Da,gapZ (datXs ds R)=datXs ds R:=by
 intro R;rcases List.eq_nil_or_concat R with rfl|⟨P,x,rfl⟩
 ·
  rfl
 ·
  rw[List.concat_eq_append,datXs_app]
  have e:datXs ds P++datXs ds [x]=(datXs ds P++([40,100,97,116,97,32]++x.name++32::decB x.vars.toNat++conXs ds x.cons++[41]))++[10]:=by simp [datXs,datX]
  rw[e,gapZ_line]
structure SayG (B:Nat) (w:World) (v v1:Value) (zs:List Int) (u:World):Prop where
 gr:w.grownBy u v.ownBlock
 own:u.ownsRow B 5 1 v1 zs.length (vals zs)
 blk:v1.ownBlock=v.ownBlock∨∀ g,v1.ownBlock=some g→w.heap.size≤g
 low:∀ g,v.ownBlock=some g→B≤g
 size:B≤u.heap.size
 size0:B≤w.heap.size
theorem SayG.start {B:Nat} {w:World} {v:Value} {zs:List Int} (h:w.ownsRow B 5 1 v zs.length (vals zs)) (hB:B≤w.heap.size):SayG B w v v zs w :=
 ⟨grf _ _,h,.inl rfl,fun g hg=>(h.lt g hg).1,hB,hB⟩
theorem SayG.trans {B:Nat} {w u u':World} {v v1 v2:Value} {zs ys:List Int} (h:SayG B w v v1 zs u) (k:SayG B u v1 v2 ys u'):SayG B w v v2 ys u':=by
 refine ⟨⟨k.gr.os.trans h.gr.os,k.gr.tape.trans h.gr.tape,k.gr.output.trans h.gr.output,Nat.le_trans h.gr.size k.gr.size,fun i hi hne=>(k.gr.block i (Nat.lt_of_lt_of_le hi h.gr.size) ?_).trans (h.gr.block i hi hne)⟩,k.own,?_,h.low,k.size,h.size0⟩
 ·
  rcases h.blk with e|e
  ·
   rw[e];exact hne
  ·
   intro e2;have:=e i e2.symm;omega
 ·
  rcases k.blk with e|e
  ·
   rcases h.blk with e2|e2
   ·
    exact .inl (e.trans e2)
   ·
    exact .inr fun g hg=>e2 g (by rw[← e];exact hg)
  ·
   exact .inr fun g hg=>Nat.le_trans h.gr.size (e g hg)
theorem SayG.grown {B:Nat} {w u u':World} {v v1:Value} {zs:List Int} (h:SayG B w v v1 zs u) (g:u.grownBy u' none):SayG B w v v1 zs u' :=
 h.trans ⟨grown_none g _,h.own.kept g (Classical.em _),.inl rfl,fun b hb=>(h.own.lt b hb).1,Nat.le_trans h.size g.size,h.size⟩
theorem SayG.as {B:Nat} {w u:World} {v v1:Value} {zs ys:List Int} (h:SayG B w v v1 zs u) (e:zs=ys):SayG B w v v1 ys u:=e ▸ h
theorem SayG.re {B:Nat} {w u:World} {v v1:Value} {zs:List Int} (h:SayG B w v v1 zs u):SayG B u v1 v1 zs u:=SayG.start h.own h.size
theorem app_blk {P:Program} {w:World} (t tx ty:TypeId) (B:Nat) (i:TypeInfo) (z:Value) (ht:P.underlying t=some (.slice 5)) (hi:P.info? 5=some i) (hz:i.zero=some z)
  (hsize:i.size=1) (hby:i.bytes=1) (v:Value) (n:Nat) (xs:List Value) (hown:w.ownsRow B 5 1 v n xs) (x:Value) (m:Nat) (news:List Value) (hs:Src P i.size tx x m news w) (hm:n+m≤1048576)
  (v':Value) (w':World) (hr:(Builtin.append_ #[t,tx] ty #[v,x]).run P w = .ok v' w') (hnil:v' = .slice none 0 0 ↔ v = .slice none 0 0∧m=0):v'.ownBlock=v.ownBlock∨v'.ownBlock=some w.heap.size:=by
 rcases hown.2 with ⟨rfl,rfl⟩|⟨g,cap,cur,rfl,hbg,hg,hnc,hcm,hcs,htake⟩
 ·
  by_cases h0:m=0
  ·
   rw[hnil.2 ⟨rfl,h0⟩];exact .inl rfl
  ·
   have r:=run_append_grow_src (P:=P) w t tx ty 5 i z ht hi hz none 0 0 [] (run_firstCells_none w.drew i.size 0 0 0) x m news hs (by omega) (by omega) (growslice_fits (by omega) (by rw[hby];omega));rw[r] at hr;injection hr with e1 e2;rw[← e1];exact .inr rfl
 ·
  by_cases hroom:n+m≤cap
  ·
   have r:=run_append_room_src (P:=P) w t tx ty 5 i ht hi g 0 n cap x m news hs hroom (fun j hj=>by
    have hl:=hs.newsLen;rw[hsize,Nat.mul_one] at hl
    have hlt:0+n * i.size+j < cur.size:=by rw[hsize,hcs];omega
    rw[cell_of_row w g _ _ _ (0,0) hg,Array.getElem?_eq_getElem hlt];rfl) (fun j hj=>frozen_of_row w g _ _ _ hg)
   rw[r] at hr;injection hr with e1 e2;rw[← e1];exact .inl rfl
  ·
   have hold:(Builtin.firstCells i.size n (.slice (some ⟨g,0,none⟩) n cap)).run P w.drew = .ok xs.toArray w.drew:=by
    refine run_firstCells_some w.drew i.size n ⟨g,0,none⟩ n cap _ (by rw[hsize];exact hown.1) (fun j u hu=>?_);rw[Go.WideShapes.add_plain,Nat.zero_add]
    have hj:j < n:=by have h1:=(List.getElem?_eq_some_iff.1 hu).1;have h2:=hown.1;omega
    have e:w.drew.cell? ⟨g,j,none⟩=cur[j]?:=cell_of_row w g j _ _ (0,0) hg;rw[e,← Array.getElem?_toList,← hu,← htake,List.getElem?_take_of_lt (by omega)]
   have r:=run_append_grow_src (P:=P) w t tx ty 5 i z ht hi hz (some ⟨g,0,none⟩) n cap xs hold x m news hs (by omega) (by omega) (growslice_fits (by omega) (by rw[hby];omega));rw[r] at hr;injection hr with e1 e2;rw[← e1];exact .inr rfl
theorem say_of {B n m:Nat} {w w':World} {v v':Value} {zs ys:List Int} (hown:w.ownsRow B 5 1 v n (vals zs)) (hl:zs.length=n) (hy:ys.length=m) (hB:B≤w.heap.size) (ho:w'.ownsRow B 5 1 v' (n+m) (vals (zs++ys))) (hg:w.grownBy w' v.ownBlock) (hb:v'.ownBlock=v.ownBlock∨v'.ownBlock=some w.heap.size):SayG B w v v' (zs++ys) w':=by
 refine ⟨hg,by rw[lA,hl,hy];exact ho,?_,fun g h=>(hown.lt g h).1,Nat.le_trans hB hg.size,hB⟩;rcases hb with e|e
 ·
  exact .inl e
 ·
  exact .inr fun g h=>by rw[e] at h;injection h with h;omega
theorem run_appG {P:Program} {w:World} (t ty:TypeId) (B:Nat) (i:TypeInfo) (z:Value) (ht:P.underlying t=some (.slice 5)) (hi:P.info? 5=some i) (hz:i.zero=some z)
  (hsize:i.size=1) (hby:i.bytes=1) (hzs:z.cells.size=1) (v:Value) (zs:List Int) (hown:w.ownsRow B 5 1 v zs.length (vals zs)) (src:Option Addr) (m c:Nat) (ys:List Int)
  (hr:Reads w src m ys) (hn:src=none→c=0) (hm:zs.length+m≤1048576) (hB:B≤w.heap.size) :
  ∃ v' w',(Builtin.append_ #[t,t] ty #[v,.slice src m c]).run P w = .ok v' w'∧SayG B w v v' (zs++ys) w':=by
 obtain ⟨v',w',h1,h2,h3,h4⟩:=run_appB (P:=P) (w:=w) t ty B i z ht hi hz hsize hby hzs v zs.length zs hown src m c ys hr hn hm hB;refine ⟨v',w',h1,say_of hown rfl hr.1 hB h2 h3 ?_⟩
 have sr:∃ news,Src P i.size t (.slice src m c) m news w:=by
  obtain ⟨hl,hr⟩:=hr
  cases src with
  | none =>
   obtain rfl:m=0:=by
    rcases hr with h|⟨_,_,h,_⟩
    ·
     exact h
    ·
     cases h
   exact ⟨[],Src.ofNil w ht c⟩
  | some ad =>
   refine ⟨vals ys,Src.ofSlice w ht ad m c _ (by rw[hsize];simp [vals,hl]) ?_ (oneS ys)⟩;rcases hr with h|⟨b,off,h,hc⟩
   ·
    have:ys=[]:=List.eq_nil_of_length_eq_zero (by omega);subst this;intro j u hu;simp [vals] at hu
   ·
    cases h;exact newsS hl hc
 obtain ⟨news,sr⟩:=sr;exact app_blk t t ty B i z ht hi hz hsize hby v zs.length _ hown _ m news sr hm v' w' h1 h4
theorem wp_appG {P:Program} {w:World} {o:Oper} {ac:Act} {K:Act→World→Prop} {Q:Exit→Act→World→Prop}
  (s x:Operand) (t:TypeId) (ho:o.op = .call { callee:=.builtin .append,args:=#[s,x],argTypes:=#[t,t] })
  (B:Nat) (i:TypeInfo) (z:Value) (ht:P.underlying t=some (.slice 5)) (hi:P.info? 5=some i) (hz:i.zero=some z) (hsize:i.size=1) (hby:i.bytes=1) (hzs:z.cells.size=1)
  (v:Value) (zs:List Int) (hs:ac.eval s=v) (hown:w.ownsRow B 5 1 v zs.length (vals zs)) (src:Option Addr) (m c:Nat) (ys:List Int) (hx:ac.eval x = .slice src m c) (hr:Reads w src m ys) (hn:src=none→c=0) (hm:zs.length+m≤1048576) (hB:B≤w.heap.size)
  (H:∀ v' w',SayG B w v v' (zs++ys) w'→K (ac.put o.dst v') w') :
  Oper.wp P o ac w K Q:=by
 obtain ⟨v',w',hr',h2⟩:=run_appG (P:=P) (w:=w) t o.type B i z ht hi hz hsize hby hzs v zs hown src m c ys hr hn hm hB;unfold Oper.wp execOp;simp only[ho,resolve,invoke,builtin,Sem.run_bind,Sem.run_pure,Result.andThen_ok,List.map_toArray,List.map_cons,List.map_nil,hs,hx,hr'];exact H v' w' h2
theorem wpList_appG {P:Program} {w:World} {ops:Array Oper} {rest:List Oper} {o:Oper} {ac:Act} {Q:Exit→Act→World→Prop}
  (hg:o.guard=none) (s x:Operand) (t:TypeId) (ho:o.op = .call { callee:=.builtin .append,args:=#[s,x],argTypes:=#[t,t] })
  (B:Nat) (i:TypeInfo) (z:Value) (ht:P.underlying t=some (.slice 5)) (hi:P.info? 5=some i) (hz:i.zero=some z) (hsize:i.size=1) (hby:i.bytes=1) (hzs:z.cells.size=1)
  (v:Value) (zs:List Int) (hs:ac.eval s=v) (hown:w.ownsRow B 5 1 v zs.length (vals zs)) (src:Option Addr) (m c:Nat) (ys:List Int) (hx:ac.eval x = .slice src m c) (hr:Reads w src m ys) (hn:src=none→c=0) (hm:zs.length+m≤1048576) (hB:B≤w.heap.size)
  (H:∀ v' w',SayG B w v v' (zs++ys) w'→wpList P ops Q rest (ac.put o.dst v') w') :
  wpList P ops Q (o::rest) ac w :=
 wpList_plain hg fun K hK=>wp_appG s x t ho B i z ht hi hz hsize hby hzs v zs hs hown src m c ys hx hr hn hm hB fun v' w' h=>hK _ _ (H v' w' h)
theorem wp_strG {P:Program} {w:World} {o:Oper} {ac:Act} {K:Act→World→Prop} {Q:Exit→Act→World→Prop}
  (s x:Operand) (t u:TypeId) (ho:o.op = .call { callee:=.builtin .append,args:=#[s,x],argTypes:=#[t,u] })
  (B:Nat) (i:TypeInfo) (ht:P.underlying t=some (.slice 5)) (hu:P.underlying u=some .string) (hi:P.info? 5=some i) (hz:i.zero=some (.int .u8 0)) (hsize:i.size=1) (hby:i.bytes=1)
  (v:Value) (zs:List Int) (hs:ac.eval s=v) (hown:w.ownsRow B 5 1 v zs.length (vals zs)) (st:ByteArray) (ys:List Int) (hx:ac.eval x = .string st) (hy:ofB st.data.toList=ys) (hm:zs.length+ys.length≤1048576) (hB:B≤w.heap.size)
  (H:∀ v' w',SayG B w v v' (zs++ys) w'→K (ac.put o.dst v') w') :
  Oper.wp P o ac w K Q:=by
 have hsz:st.size=ys.length:=by rw[← hy,ofB_len,Array.length_toList];rfl
 obtain ⟨v',w',hr',h2,h3,h4⟩:=Lib.run_append_own_string (P:=P) w B t u o.type 5 i ht hu hi hz hsize hby v zs.length (vals zs) hown st (by simp only[maxLen];omega) (by omega) hB;have hb:=app_blk t u o.type B i _ ht hi hz hsize hby v zs.length _ hown (.string st) st.size (byteCells st) (by rw[hsize];exact Src.ofString w hu st) (by omega) v' w' hr' h4;unfold Oper.wp execOp;simp only[ho,resolve,invoke,builtin,Sem.run_bind,Sem.run_pure,Result.andThen_ok,List.map_toArray,List.map_cons,List.map_nil,hs,hx,hr'];refine H v' w' (say_of hown rfl rfl hB ?_ h3 hb);rw[strCells_vals,hy,hsz] at h2;simpa [vals] using h2
theorem wpList_strG {P:Program} {w:World} {ops:Array Oper} {rest:List Oper} {o:Oper} {ac:Act} {Q:Exit→Act→World→Prop}
  (hg:o.guard=none) (s x:Operand) (t u:TypeId) (ho:o.op = .call { callee:=.builtin .append,args:=#[s,x],argTypes:=#[t,u] })
  (B:Nat) (i:TypeInfo) (ht:P.underlying t=some (.slice 5)) (hu:P.underlying u=some .string) (hi:P.info? 5=some i) (hz:i.zero=some (.int .u8 0)) (hsize:i.size=1) (hby:i.bytes=1)
  (v:Value) (zs:List Int) (hs:ac.eval s=v) (hown:w.ownsRow B 5 1 v zs.length (vals zs)) (st:ByteArray) (ys:List Int) (hx:ac.eval x = .string st) (hy:ofB st.data.toList=ys) (hm:zs.length+ys.length≤1048576) (hB:B≤w.heap.size)
  (H:∀ v' w',SayG B w v v' (zs++ys) w'→wpList P ops Q rest (ac.put o.dst v') w') :
  wpList P ops Q (o::rest) ac w :=
 wpList_plain hg fun K hK=>wp_strG s x t u ho B i ht hu hi hz hsize hby v zs hs hown st ys hx hy hm hB fun v' w' h=>hK _ _ (H v' w' h)
theorem l3tensW (m:Nat):∀ (n:Nat) (w:World),n < m→n < 10000000000 →
  Calls Tryz.prog 89 #[.int .u64 n] w fun e u=>∃ a c,e = .returned (.slice a (decB n).length c)∧w.grownBy u none∧OwS w.heap.size u a (decB n).length c (decB n):=by
 induction m with
 | zero=>intro n w h;exact absurd h (Nat.not_lt_zero _)
 | succ m ih =>
  intro n w hm hn;by_cases h10:n < 10
  ·
   have E:Hid (decB n=[48+(n:Int)]):=decB_small h10
   have h10':(n:Int) < 10:=by omega
   have hw:IntKind.u8.wrap (48+(n:Int))=48+(n:Int):=IntWalk.u8_in _ (by omega);go_enter Tryz.func89,Tryz.ntmps89;have FF:Hid (OwS w.heap.size (w.alloc (.cells #[.int .u8 (48+(n:Int))] 5)) (some ⟨w.heap.size,0,none⟩) 1 1 [48+(n:Int)]):=⟨⟨rfl,.inr ⟨_,_,_,rfl,Nat.le_refl _,heap_alloc_new w _,by omega,by decide,rfl,rfl⟩⟩,rfl⟩;go_wp2;go_ret;exact ⟨_,_,by rw[E.out];rfl,gal _ _ _,by rw[E.out];exact FF.out⟩
  ·
   have E:Hid (decB n=decB (n / 10)++[48+((n % 10:Nat):Int)]):=decB_great h10
   have h10':¬ (n:Int) < 10:=by omega
   have e0:((n / 10:Nat):Int)=(n:Int) / 10:=by omega
   have e1:((n % 10:Nat):Int)=(n:Int) % 10:=by omega
   have CC:=ih (n / 10) w (by omega) (by omega);rw[e0] at CC;have CH:Hid _:=CC;rw[e1] at E;obtain ⟨i0,hi,hz0,hz1,hz2⟩:=info_parts infoS;have hlen:(decB (n / 10)).length≤10:=decB_len 9 _ (by omega);have hw:IntKind.u8.wrap (48+(n:Int) % 10)=48+(n:Int) % 10:=IntWalk.u8_in _ (by omega);generalize decB (n / 10)=ds at *;clear CC e0 e1 ih;go_enter Tryz.func89,Tryz.ntmps89;go_wp2_with fail;refine Calls.mono CH.out ?_;rintro e u ⟨a,c,rfl,hg,hO⟩;have ga:=gal u (.cells #[.int .u8 (48+(n:Int) % 10)] 5) none;have S2:Hid ((u.alloc (.cells #[.int .u8 (48+(n:Int) % 10)] 5)).ownsRow w.heap.size 5 1 (.slice a ds.length c) ds.length (vals ds)∧Reads (u.alloc (.cells #[.int .u8 (48+(n:Int) % 10)] 5)) (some ⟨u.heap.size,0,none⟩) 1 [48+(n:Int) % 10]∧w.grownBy (u.alloc (.cells #[.int .u8 (48+(n:Int) % 10)] 5)) none):=⟨hO.1.alloc _,readsOneB u _ 5,gtr hg ga⟩;clear hg hO CH ga;simp only[];go_wp2_with (at_builtin;go_must (refine wpList_appB rfl _ _ 23 rfl w.heap.size i0 (.int .u8 0) Tryz.underlying23 hi hz0 hz1 hz2 rfl (.slice a ds.length c) ds.length ds rfl S2.out.1 (some ⟨u.heap.size,0,none⟩) 1 1 [48+(n:Int) % 10] rfl S2.out.2.1 (by simp) (by omega) S2.out.2.2.size ?_);intro v3 w3 o3 g3 n3)
   have o4:w3.ownsRow w.heap.size 5 1 v3 (decB n).length (vals (decB n)):=by rw[E.out,lA];exact o3
   obtain ⟨-,a',c',hv,hO⟩:=ownsS o4;subst hv;have FF:Hid (w.grownBy w3 none∧OwS w.heap.size w3 a' (decB n).length c' (decB n)):=⟨⟨g3.os.trans S2.out.2.2.os,g3.tape.trans S2.out.2.2.tape,g3.output.trans S2.out.2.2.output,Nat.le_trans S2.out.2.2.size g3.size,fun i hi _=>(g3.block i (Nat.lt_of_lt_of_le hi S2.out.2.2.size) (fun e=>by have:=(S2.out.1.lt i e.symm).1;omega)).trans (S2.out.2.2.block i hi (by simp))⟩,hO⟩;clear o3 o4 g3 n3 hO S2;go_ret;exact ⟨a',c',rfl,FF.out⟩
theorem l3digitsW (n:Int) (w:World) (h0:-1073741824≤n) (h1:n≤1073741823) :
  Calls Tryz.prog 54 #[.int .i64 n] w fun e u=>∃ a c,e = .returned (.slice a (intB n).length c)∧w.grownBy u none∧OwS w.heap.size u a (intB n).length c (intB n):=by
 by_cases hneg:n < 0
 ·
  obtain ⟨m,rfl⟩:∃ m:Nat,n = -(m:Int):=⟨n.natAbs,by omega⟩
  have hm1:1≤m:=by omega
  have E:Hid (intB (-(m:Int))=[45]++decB m):=by
   show _=_
   rw[intB_neg hneg,show (-(m:Int)).natAbs=m by omega];rfl
  have hwr:IntKind.u64.wrap (-IntKind.u64.wrap (-(m:Int)))=(m:Int):=by rw[IntKind.wrap_u64,IntKind.wrap_u64];omega
  have ga:=gal w (.cells #[.int .u8 45] 5) none;have HO:Hid ((w.alloc (.cells #[.int .u8 45] 5)).ownsRow w.heap.size 5 1 (.slice (some ⟨w.heap.size,0,none⟩) 1 1) 1 (vals [45])∧w.grownBy (w.alloc (.cells #[.int .u8 45] 5)) none):=⟨⟨rfl,.inr ⟨_,_,_,rfl,Nat.le_refl _,heap_alloc_new w _,by omega,by decide,rfl,rfl⟩⟩,ga⟩;have CC:Hid _:=l3tensW (m+1) m (w.alloc (.cells #[.int .u8 45] 5)) (by omega) (by omega);have hdl:=decB_len 9 m (by omega);obtain ⟨i0,hi,hz0,hz1,hz2⟩:=info_parts infoS;clear ga;generalize decB m=ds at *;go_enter Tryz.func54,Tryz.ntmps54;go_wp2_with fail;refine Calls.mono CC.out ?_;rintro e u ⟨a,c,rfl,hg,hO⟩;have S2:Hid (u.ownsRow w.heap.size 5 1 (.slice (some ⟨w.heap.size,0,none⟩) 1 1) 1 (vals [45])∧Reads u a ds.length ds∧w.grownBy u none):=⟨HO.out.1.kept hg (Classical.em _),hO.reads,gtr HO.out.2 hg⟩;have hac:a=none→c=0:=hO.nilCap;clear hg hO CC HO;simp only[];go_wp2_with (at_builtin;go_must (refine wpList_appB rfl _ _ 23 rfl w.heap.size i0 (.int .u8 0) Tryz.underlying23 hi hz0 hz1 hz2 rfl (.slice (some ⟨w.heap.size,0,none⟩) 1 1) 1 [45] rfl S2.out.1 a ds.length c ds rfl S2.out.2.1 hac (by omega) S2.out.2.2.size ?_);intro v3 w3 o3 g3 n3)
  have o4:w3.ownsRow w.heap.size 5 1 v3 (intB (-(m:Int))).length (vals (intB (-(m:Int)))):=by rw[E.out,lA];exact o3
  obtain ⟨-,a',c',hv,hO⟩:=ownsS o4;subst hv;have FF:Hid (w.grownBy w3 none∧OwS w.heap.size w3 a' (intB (-(m:Int))).length c' (intB (-(m:Int)))):=⟨⟨g3.os.trans S2.out.2.2.os,g3.tape.trans S2.out.2.2.tape,g3.output.trans S2.out.2.2.output,Nat.le_trans S2.out.2.2.size g3.size,fun i hi _=>(g3.block i (Nat.lt_of_lt_of_le hi S2.out.2.2.size) (fun e=>by have:=(S2.out.1.lt i e.symm).1;omega)).trans (S2.out.2.2.block i hi (by simp))⟩,hO⟩;clear o3 o4 g3 n3 hO S2;go_ret;exact ⟨a',c',rfl,FF.out⟩
 ·
  obtain ⟨m,rfl⟩:∃ m:Nat,n=(m:Int):=⟨n.toNat,by omega⟩
  have E:Hid (intB (m:Int)=decB m):=by show _=_;rw[intB_pos (by omega),Int.toNat_natCast]
  have CC:Hid _:=l3tensW (m+1) m w (by omega) (by omega);clear h0;go_enter Tryz.func54,Tryz.ntmps54;go_wp2_with fail;refine Calls.mono CC.out ?_;rintro e u ⟨a,c,rfl,hg,hO⟩;have FF:Hid (w.grownBy u none∧OwS w.heap.size u a (decB m).length c (decB m)):=⟨hg,hO⟩;clear hg hO CC;simp only[];go_wp2;go_ret;exact ⟨a,c,by rw[E.out];rfl,by rw[E.out];exact FF.out⟩
end Go.Proofs.YtblbnillilbacaaGreatDoor.By
