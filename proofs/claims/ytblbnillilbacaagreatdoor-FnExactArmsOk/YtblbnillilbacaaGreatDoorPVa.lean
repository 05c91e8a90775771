/-
  No statement is proved here.
-/
import Derived.Test.YtblbnillilbacaaGreatDoorPUa
namespace Go.Proofs.YtblbnillilbacaaGreatDoor.By
open Go.RowKit
set_option linter.unusedVariables false
set_option linter.unusedSimpArgs false
set_option maxRecDepth 20000
structure NdF (p:PE) (nk na:Nat):Prop where
 lo:0≤p.k
 hi:p.k≤20
 whole:p.k=1→wholeV p.n=true
 two:p.k=5∨p.k=18→nk=2
 op:p.k=19→0≤p.n∧p.n≤6
 cap:p.k=20→0≤p.n∧p.n≤4
 name:p.name.length≤8
 arg:p.arg.length≤8
 lit:p.lit.length≤20
 form:p.k=1∨0≤p.n∧p.n≤6
structure TxF (wd s:List Int) (p:PE) (ks rs:List (List Int)):Prop where
 same:noX wd s p ks rs=saY p ks rs
 good:∀ x ∈ inB2 wd s p ks rs,gapB x=true
 some:inB2 wd s p ks rs≠[]
 gap:gapB (saY p ks rs)=true
 len:(saY p ks rs).length≤60+(blz ks).length+(blz rs).length
 kid:∀ j,j < s.length→s.getD j 0=107→(s.take j).count 107 < ks.length
 asc:∀ z ∈ s,0≤z∧z < 128
theorem sy0 (p:PE) (kids alts:GE) (ks rs:List (List Int)) (hk:p.k=0) (hn:p.n=0) (hf:fitV ⟨#[]⟩ p kids alts=true) (h1:ks.length=kids.len) (h2:rs.length=alts.len) (gk:∀ x ∈ ks,gapB x=true) (ga:∀ x ∈ rs,gapB x=true):TxF [117,110,105,116] [] p ks rs∧NdF p kids.len alts.len:=by
 rw[fit0] at hf;simp only[Bool.and_eq_true,decide_eq_true_eq,Bool.true_and,Bool.not_eq_true',decide_eq_false_iff_not] at hf;obtain ⟨⟨⟨⟨f1,f2⟩,f3⟩,f4⟩,f5⟩:=hf;obtain ⟨k,n,name,arg,lit⟩:=p;simp only at *;subst hk;subst hn;obtain rfl:=nil_of0 f1;obtain rfl:=nil_of0 f2;obtain rfl:=nil_of0 f3;obtain rfl:=nil_of0 (show rs.length=0 by omega);obtain rfl:=nil_of0 (show ks.length=0 by omega)
 have e:inB2 [117,110,105,116] [] ⟨0,0,[],[],[]⟩ [] []=[[117,110,105,116]]:=by simp [inB2,wdB,itsB,itB,nxB]
 have es:saY ⟨0,0,[],[],[]⟩ [] []=[117,110,105,116]:=by simp [saY,headB,nmB,opsB,capsB,kindsB,blz]
 refine ⟨⟨?_,?_,?_,?_,?_,?_,by decide⟩,⟨by simp,by simp,by simp,by simp,by simp,by simp,by simp,by simp,by simp,by simp⟩⟩
 ·
  unfold noX;rw[e,es];simp [joinZ,blz]
 ·
  rw[e];intro x hx;simp only[List.mem_cons,List.not_mem_nil,or_false,List.cons_append,List.nil_append] at hx;subst hx
  ·
   rfl
 ·
  rw[e];simp
 ·
  rw[es];rfl
 ·
  rw[es];simp only[lA,lB,lC,blz];omega
 ·
  have hk9:∀ j,j < 0→([]:List Int).getD j 0=107→(([]:List Int).take j).count 107 < 0:=by decide
  exact hk9
theorem sy1 (p:PE) (kids alts:GE) (ks rs:List (List Int)) (hk:p.k=1) (hf:fitV ⟨#[105]⟩ p kids alts=true) (h1:ks.length=kids.len) (h2:rs.length=alts.len) (gk:∀ x ∈ ks,gapB x=true) (ga:∀ x ∈ rs,gapB x=true):TxF [] [105] p ks rs∧NdF p kids.len alts.len:=by
 rw[fit2] at hf;simp only[Bool.and_eq_true,decide_eq_true_eq,Bool.true_and,Bool.not_eq_true',decide_eq_false_iff_not] at hf;obtain ⟨⟨⟨⟨⟨f0,f1⟩,f2⟩,f3⟩,f4⟩,f5⟩:=hf;obtain ⟨k,n,name,arg,lit⟩:=p;simp only at *;subst hk;obtain rfl:=nil_of0 f1;obtain rfl:=nil_of0 f2;obtain rfl:=nil_of0 f3;obtain rfl:=nil_of0 (show rs.length=0 by omega);obtain rfl:=nil_of0 (show ks.length=0 by omega)
 have e:inB2 [] [105] ⟨1,n,[],[],[]⟩ [] []=[intB n]:=by simp [inB2,wdB,itsB,itB,nxB]
 have es:saY ⟨1,n,[],[],[]⟩ [] []=intB n:=by simp [saY,headB,nmB,opsB,capsB,kindsB,blz]
 refine ⟨⟨?_,?_,?_,?_,?_,?_,by decide⟩,⟨by simp,by simp,fun _=>f0,by simp,by simp,by simp,by simp,by simp,by simp,by simp⟩⟩
 ·
  unfold noX;rw[e,es];simp [joinZ,blz]
 ·
  rw[e];intro x hx;simp only[List.mem_cons,List.not_mem_nil,or_false,List.cons_append,List.nil_append] at hx;subst hx
  ·
   exact intB_good _
 ·
  rw[e];simp
 ·
  rw[es];exact intB_good _
 ·
  rw[es];have:=intB_len f0;simp only[lA,lB,lC,blz];omega
 ·
  have hk9:∀ j,j < 1→([105]:List Int).getD j 0=107→(([105]:List Int).take j).count 107 < 0:=by decide
  exact hk9
theorem sy2 (p:PE) (kids alts:GE) (ks rs:List (List Int)) (hk:p.k=2) (hn:p.n=0) (hf:fitV ⟨#[116]⟩ p kids alts=true) (h1:ks.length=kids.len) (h2:rs.length=alts.len) (gk:∀ x ∈ ks,gapB x=true) (ga:∀ x ∈ rs,gapB x=true):TxF [] [116] p ks rs∧NdF p kids.len alts.len:=by
 rw[fit12] at hf;simp only[Bool.and_eq_true,decide_eq_true_eq,Bool.true_and,Bool.not_eq_true',decide_eq_false_iff_not] at hf;obtain ⟨⟨⟨⟨f1,f2⟩,f3⟩,f4⟩,f5⟩:=hf;obtain ⟨k,n,name,arg,lit⟩:=p;simp only at *;subst hk;subst hn;obtain rfl:=nil_of0 f1;obtain rfl:=nil_of0 f2
 have t1:lit.length≤20:=by unfold litV at f3;simp only[Bool.and_eq_true,decide_eq_true_eq] at f3;exact f3.1
 obtain rfl:=nil_of0 (show rs.length=0 by omega);obtain rfl:=nil_of0 (show ks.length=0 by omega)
 have e:inB2 [] [116] ⟨2,0,[],[],lit⟩ [] []=[[34]++lit++[34]]:=by simp [inB2,wdB,itsB,itB,nxB]
 have es:saY ⟨2,0,[],[],lit⟩ [] []=([34]++lit++[34]):=by simp [saY,headB,nmB,opsB,capsB,kindsB,blz]
 refine ⟨⟨?_,?_,?_,?_,?_,?_,by decide⟩,⟨by simp,by simp,by simp,by simp,by simp,by simp,by simp,by simp,t1,by simp⟩⟩
 ·
  unfold noX;rw[e,es];simp [joinZ,blz]
 ·
  rw[e];intro x hx;simp only[List.mem_cons,List.not_mem_nil,or_false,List.cons_append,List.nil_append] at hx;subst hx
  ·
   show gapB (([34]++lit)++[34])=true;exact gapB_one (z:=34) (by decide) (by decide) _
 ·
  rw[e];simp
 ·
  rw[es];exact gapB_one (by decide) (by decide) _
 ·
  rw[es];simp only[lA,lB,lC,blz];omega
 ·
  have hk9:∀ j,j < 1→([116]:List Int).getD j 0=107→(([116]:List Int).take j).count 107 < 0:=by decide
  exact hk9
theorem sy3 (p:PE) (kids alts:GE) (ks rs:List (List Int)) (hk:p.k=3) (hn:p.n=0) (hf:fitV ⟨#[110]⟩ p kids alts=true) (h1:ks.length=kids.len) (h2:rs.length=alts.len) (gk:∀ x ∈ ks,gapB x=true) (ga:∀ x ∈ rs,gapB x=true):TxF [] [110] p ks rs∧NdF p kids.len alts.len:=by
 rw[fit8] at hf;simp only[Bool.and_eq_true,decide_eq_true_eq,Bool.true_and,Bool.not_eq_true',decide_eq_false_iff_not] at hf;obtain ⟨⟨⟨⟨f1,f2⟩,f3⟩,f4⟩,f5⟩:=hf;obtain ⟨k,n,name,arg,lit⟩:=p;simp only at *;subst hk;subst hn;obtain ⟨q1,q2,q3⟩:=nameV_good f1;obtain rfl:=nil_of0 f2;obtain rfl:=nil_of0 f3;obtain rfl:=nil_of0 (show rs.length=0 by omega);obtain rfl:=nil_of0 (show ks.length=0 by omega)
 have n0:name.length≠0:=fun e=>q3 (nil_of0 e)
 have e:inB2 [] [110] ⟨3,0,name,[],[]⟩ [] []=[name]:=by simp [inB2,wdB,itsB,itB,nxB]
 have es:saY ⟨3,0,name,[],[]⟩ [] []=name:=by simp [saY,headB,nmB,opsB,capsB,kindsB,blz,n0]
 refine ⟨⟨?_,?_,?_,?_,?_,?_,by decide⟩,⟨by simp,by simp,by simp,by simp,by simp,by simp,q2,by simp,by simp,by simp⟩⟩
 ·
  unfold noX;rw[e,es];simp [joinZ,blz]
 ·
  rw[e];intro x hx;simp only[List.mem_cons,List.not_mem_nil,or_false,List.cons_append,List.nil_append] at hx;subst hx
  ·
   exact q1
 ·
  rw[e];simp
 ·
  rw[es];exact q1
 ·
  rw[es];simp only[lA,lB,lC,blz];omega
 ·
  have hk9:∀ j,j < 1→([110]:List Int).getD j 0=107→(([110]:List Int).take j).count 107 < 0:=by decide
  exact hk9
theorem sy4 (p:PE) (kids alts:GE) (ks rs:List (List Int)) (hk:p.k=4) (hn:p.n=0) (hf:fitV ⟨#[110,107]⟩ p kids alts=true) (h1:ks.length=kids.len) (h2:rs.length=alts.len) (gk:∀ x ∈ ks,gapB x=true) (ga:∀ x ∈ rs,gapB x=true):TxF [102,110] [110,107] p ks rs∧NdF p kids.len alts.len:=by
 rw[fit9] at hf;simp only[Bool.and_eq_true,decide_eq_true_eq,Bool.true_and,Bool.not_eq_true',decide_eq_false_iff_not] at hf;obtain ⟨⟨⟨⟨f1,f2⟩,f3⟩,f4⟩,f5⟩:=hf;obtain ⟨k,n,name,arg,lit⟩:=p;simp only at *;subst hk;subst hn;obtain ⟨q1,q2,q3⟩:=nameV_good f1;obtain rfl:=nil_of0 f2;obtain rfl:=nil_of0 f3;obtain rfl:=nil_of0 (show rs.length=0 by omega);obtain ⟨a,rfl⟩:=one_of (show ks.length=1 by omega)
 have n0:name.length≠0:=fun e=>q3 (nil_of0 e)
 have e:inB2 [102,110] [110,107] ⟨4,0,name,[],[]⟩ [a] []=[[102,110],name,a]:=by simp [inB2,wdB,itsB,itB,nxB]
 have es:saY ⟨4,0,name,[],[]⟩ [a] []=[40]++[102,110]++(32::name)++(32::a)++[41]:=by simp [saY,headB,nmB,opsB,capsB,kindsB,blz,n0]
 refine ⟨⟨?_,?_,?_,?_,?_,?_,by decide⟩,⟨by simp,by simp,by simp,by simp,by simp,by simp,q2,by simp,by simp,by simp⟩⟩
 ·
  unfold noX;rw[e,es];simp [joinZ,blz]
 ·
  rw[e];intro x hx;simp only[List.mem_cons,List.not_mem_nil,or_false,List.cons_append,List.nil_append] at hx;rcases hx with rfl|rfl|rfl
  ·
   rfl
  ·
   exact q1
  ·
   exact gk _ (by simp)
 ·
  rw[e];simp
 ·
  rw[es];exact gapB_one (by decide) (by decide) _
 ·
  rw[es];simp only[lA,lB,lC,blz];omega
 ·
  have hk9:∀ j,j < 2→([110,107]:List Int).getD j 0=107→(([110,107]:List Int).take j).count 107 < 1:=by decide
  exact hk9
theorem sy5 (p:PE) (kids alts:GE) (ks rs:List (List Int)) (hk:p.k=5) (hn:p.n=0) (hf:fitV ⟨#[107,107]⟩ p kids alts=true) (h1:ks.length=kids.len) (h2:rs.length=alts.len) (gk:∀ x ∈ ks,gapB x=true) (ga:∀ x ∈ rs,gapB x=true):TxF [] [107,107] p ks rs∧NdF p kids.len alts.len:=by
 rw[fit4] at hf;simp only[Bool.and_eq_true,decide_eq_true_eq,Bool.true_and,Bool.not_eq_true',decide_eq_false_iff_not] at hf;obtain ⟨⟨⟨⟨f1,f2⟩,f3⟩,f4⟩,f5⟩:=hf;obtain ⟨k,n,name,arg,lit⟩:=p;simp only at *;subst hk;subst hn;obtain rfl:=nil_of0 f1;obtain rfl:=nil_of0 f2;obtain rfl:=nil_of0 f3;obtain rfl:=nil_of0 (show rs.length=0 by omega);obtain ⟨a,b,rfl⟩:=two_of (show ks.length=2 by omega)
 have e:inB2 [] [107,107] ⟨5,0,[],[],[]⟩ [a,b] []=[a,b]:=by simp [inB2,wdB,itsB,itB,nxB]
 have es:saY ⟨5,0,[],[],[]⟩ [a,b] []=[40]++a++(32::b)++[41]:=by simp [saY,headB,nmB,opsB,capsB,kindsB,blz]
 refine ⟨⟨?_,?_,?_,?_,?_,?_,by decide⟩,⟨by simp,by simp,by simp,fun _=>by simpa using f4,by simp,by simp,by simp,by simp,by simp,by simp⟩⟩
 ·
  unfold noX;rw[e,es];simp [joinZ,blz]
 ·
  rw[e];intro x hx;simp only[List.mem_cons,List.not_mem_nil,or_false,List.cons_append,List.nil_append] at hx;rcases hx with rfl|rfl
  ·
   exact gk _ (by simp)
  ·
   exact gk _ (by simp)
 ·
  rw[e];simp
 ·
  rw[es];exact gapB_one (by decide) (by decide) _
 ·
  rw[es];simp only[lA,lB,lC,blz];omega
 ·
  have hk9:∀ j,j < 2→([107,107]:List Int).getD j 0=107→(([107,107]:List Int).take j).count 107 < 2:=by decide
  exact hk9
theorem sy6 (p:PE) (kids alts:GE) (ks rs:List (List Int)) (hk:p.k=6) (hn:p.n=0) (hf:fitV ⟨#[110,107,107]⟩ p kids alts=true) (h1:ks.length=kids.len) (h2:rs.length=alts.len) (gk:∀ x ∈ ks,gapB x=true) (ga:∀ x ∈ rs,gapB x=true):TxF [108,101,116] [110,107,107] p ks rs∧NdF p kids.len alts.len:=by
 rw[fit10] at hf;simp only[Bool.and_eq_true,decide_eq_true_eq,Bool.true_and,Bool.not_eq_true',decide_eq_false_iff_not] at hf;obtain ⟨⟨⟨⟨f1,f2⟩,f3⟩,f4⟩,f5⟩:=hf;obtain ⟨k,n,name,arg,lit⟩:=p;simp only at *;subst hk;subst hn;obtain ⟨q1,q2,q3⟩:=nameV_good f1;obtain rfl:=nil_of0 f2;obtain rfl:=nil_of0 f3;obtain rfl:=nil_of0 (show rs.length=0 by omega);obtain ⟨a,b,rfl⟩:=two_of (show ks.length=2 by omega)
 have n0:name.length≠0:=fun e=>q3 (nil_of0 e)
 have e:inB2 [108,101,116] [110,107,107] ⟨6,0,name,[],[]⟩ [a,b] []=[[108,101,116],name,a,b]:=by simp [inB2,wdB,itsB,itB,nxB]
 have es:saY ⟨6,0,name,[],[]⟩ [a,b] []=[40]++[108,101,116]++(32::name)++(32::a)++(32::b)++[41]:=by simp [saY,headB,nmB,opsB,capsB,kindsB,blz,n0]
 refine ⟨⟨?_,?_,?_,?_,?_,?_,by decide⟩,⟨by simp,by simp,by simp,by simp,by simp,by simp,q2,by simp,by simp,by simp⟩⟩
 ·
  unfold noX;rw[e,es];simp [joinZ,blz]
 ·
  rw[e];intro x hx;simp only[List.mem_cons,List.not_mem_nil,or_false,List.cons_append,List.nil_append] at hx;rcases hx with rfl|rfl|rfl|rfl
  ·
   rfl
  ·
   exact q1
  ·
   exact gk _ (by simp)
  ·
   exact gk _ (by simp)
 ·
  rw[e];simp
 ·
  rw[es];exact gapB_one (by decide) (by decide) _
 ·
  rw[es];simp only[lA,lB,lC,blz];omega
 ·
  have hk9:∀ j,j < 3→([110,107,107]:List Int).getD j 0=107→(([110,107,107]:List Int).take j).count 107 < 2:=by decide
  exact hk9
theorem sy7 (p:PE) (kids alts:GE) (ks rs:List (List Int)) (hk:p.k=7) (hn:p.n=0) (hf:fitV ⟨#[110,97,107,107]⟩ p kids alts=true) (h1:ks.length=kids.len) (h2:rs.length=alts.len) (gk:∀ x ∈ ks,gapB x=true) (ga:∀ x ∈ rs,gapB x=true):TxF [114,101,99] [110,97,107,107] p ks rs∧NdF p kids.len alts.len:=by
 rw[fit11] at hf;simp only[Bool.and_eq_true,decide_eq_true_eq,Bool.true_and,Bool.not_eq_true',decide_eq_false_iff_not] at hf;obtain ⟨⟨⟨⟨f1,f2⟩,f3⟩,f4⟩,f5⟩:=hf;obtain ⟨k,n,name,arg,lit⟩:=p;simp only at *;subst hk;subst hn;obtain ⟨q1,q2,q3⟩:=nameV_good f1;obtain ⟨r1,r2,r3⟩:=nameV_good f2.1;obtain rfl:=nil_of0 f3;obtain rfl:=nil_of0 (show rs.length=0 by omega);obtain ⟨a,b,rfl⟩:=two_of (show ks.length=2 by omega)
 have n0:name.length≠0:=fun e=>q3 (nil_of0 e)
 have a0:arg.length≠0:=fun e=>r3 (nil_of0 e)
 have e:inB2 [114,101,99] [110,97,107,107] ⟨7,0,name,arg,[]⟩ [a,b] []=[[114,101,99],name,arg,a,b]:=by simp [inB2,wdB,itsB,itB,nxB]
 have es:saY ⟨7,0,name,arg,[]⟩ [a,b] []=[40]++[114,101,99]++(32::name)++(32::arg)++(32::a)++(32::b)++[41]:=by simp [saY,headB,nmB,opsB,capsB,kindsB,blz,n0,a0]
 refine ⟨⟨?_,?_,?_,?_,?_,?_,by decide⟩,⟨by simp,by simp,by simp,by simp,by simp,by simp,q2,r2,by simp,by simp⟩⟩
 ·
  unfold noX;rw[e,es];simp [joinZ,blz]
 ·
  rw[e];intro x hx;simp only[List.mem_cons,List.not_mem_nil,or_false,List.cons_append,List.nil_append] at hx;rcases hx with rfl|rfl|rfl|rfl|rfl
  ·
   rfl
  ·
   exact q1
  ·
   exact r1
  ·
   exact gk _ (by simp)
  ·
   exact gk _ (by simp)
 ·
  rw[e];simp
 ·
  rw[es];exact gapB_one (by decide) (by decide) _
 ·
  rw[es];simp only[lA,lB,lC,blz];omega
 ·
  have hk9:∀ j,j < 4→([110,97,107,107]:List Int).getD j 0=107→(([110,97,107,107]:List Int).take j).count 107 < 2:=by decide
  exact hk9
theorem sy8 (p:PE) (kids alts:GE) (ks rs:List (List Int)) (hk:p.k=8) (hn:p.n=0) (hf:fitV ⟨#[107,107,107]⟩ p kids alts=true) (h1:ks.length=kids.len) (h2:rs.length=alts.len) (gk:∀ x ∈ ks,gapB x=true) (ga:∀ x ∈ rs,gapB x=true):TxF [105,102] [107,107,107] p ks rs∧NdF p kids.len alts.len:=by
 rw[fit5] at hf;simp only[Bool.and_eq_true,decide_eq_true_eq,Bool.true_and,Bool.not_eq_true',decide_eq_false_iff_not] at hf;obtain ⟨⟨⟨⟨f1,f2⟩,f3⟩,f4⟩,f5⟩:=hf;obtain ⟨k,n,name,arg,lit⟩:=p;simp only at *;subst hk;subst hn;obtain rfl:=nil_of0 f1;obtain rfl:=nil_of0 f2;obtain rfl:=nil_of0 f3;obtain rfl:=nil_of0 (show rs.length=0 by omega);obtain ⟨a,b,c,rfl⟩:=three_of (show ks.length=3 by omega)
 have e:inB2 [105,102] [107,107,107] ⟨8,0,[],[],[]⟩ [a,b,c] []=[[105,102],a,b,c]:=by simp [inB2,wdB,itsB,itB,nxB]
 have es:saY ⟨8,0,[],[],[]⟩ [a,b,c] []=[40]++[105,102]++(32::a)++(32::b)++(32::c)++[41]:=by simp [saY,headB,nmB,opsB,capsB,kindsB,blz]
 refine ⟨⟨?_,?_,?_,?_,?_,?_,by decide⟩,⟨by simp,by simp,by simp,by simp,by simp,by simp,by simp,by simp,by simp,by simp⟩⟩
 ·
  unfold noX;rw[e,es];simp [joinZ,blz]
 ·
  rw[e];intro x hx;simp only[List.mem_cons,List.not_mem_nil,or_false,List.cons_append,List.nil_append] at hx;rcases hx with rfl|rfl|rfl|rfl
  ·
   rfl
  ·
   exact gk _ (by simp)
  ·
   exact gk _ (by simp)
  ·
   exact gk _ (by simp)
 ·
  rw[e];simp
 ·
  rw[es];exact gapB_one (by decide) (by decide) _
 ·
  rw[es];simp only[lA,lB,lC,blz];omega
 ·
  have hk9:∀ j,j < 3→([107,107,107]:List Int).getD j 0=107→(([107,107,107]:List Int).take j).count 107 < 3:=by decide
  exact hk9
theorem sy9 (p:PE) (kids alts:GE) (ks rs:List (List Int)) (hk:p.k=9) (hn:p.n=0) (hf:fitV ⟨#[107,107]⟩ p kids alts=true) (h1:ks.length=kids.len) (h2:rs.length=alts.len) (gk:∀ x ∈ ks,gapB x=true) (ga:∀ x ∈ rs,gapB x=true):TxF [112,97,105,114] [107,107] p ks rs∧NdF p kids.len alts.len:=by
 rw[fit4] at hf;simp only[Bool.and_eq_true,decide_eq_true_eq,Bool.true_and,Bool.not_eq_true',decide_eq_false_iff_not] at hf;obtain ⟨⟨⟨⟨f1,f2⟩,f3⟩,f4⟩,f5⟩:=hf;obtain ⟨k,n,name,arg,lit⟩:=p;simp only at *;subst hk;subst hn;obtain rfl:=nil_of0 f1;obtain rfl:=nil_of0 f2;obtain rfl:=nil_of0 f3;obtain rfl:=nil_of0 (show rs.length=0 by omega);obtain ⟨a,b,rfl⟩:=two_of (show ks.length=2 by omega)
 have e:inB2 [112,97,105,114] [107,107] ⟨9,0,[],[],[]⟩ [a,b] []=[[112,97,105,114],a,b]:=by simp [inB2,wdB,itsB,itB,nxB]
 have es:saY ⟨9,0,[],[],[]⟩ [a,b] []=[40]++[112,97,105,114]++(32::a)++(32::b)++[41]:=by simp [saY,headB,nmB,opsB,capsB,kindsB,blz]
 refine ⟨⟨?_,?_,?_,?_,?_,?_,by decide⟩,⟨by simp,by simp,by simp,by simp,by simp,by simp,by simp,by simp,by simp,by simp⟩⟩
 ·
  unfold noX;rw[e,es];simp [joinZ,blz]
 ·
  rw[e];intro x hx;simp only[List.mem_cons,List.not_mem_nil,or_false,List.cons_append,List.nil_append] at hx;rcases hx with rfl|rfl|rfl
  ·
   rfl
  ·
   exact gk _ (by simp)
  ·
   exact gk _ (by simp)
 ·
  rw[e];simp
 ·
  rw[es];exact gapB_one (by decide) (by decide) _
 ·
  rw[es];simp only[lA,lB,lC,blz];omega
 ·
  have hk9:∀ j,j < 2→([107,107]:List Int).getD j 0=107→(([107,107]:List Int).take j).count 107 < 2:=by decide
  exact hk9
theorem sy10 (p:PE) (kids alts:GE) (ks rs:List (List Int)) (hk:p.k=10) (hn:p.n=0) (hf:fitV ⟨#[107]⟩ p kids alts=true) (h1:ks.length=kids.len) (h2:rs.length=alts.len) (gk:∀ x ∈ ks,gapB x=true) (ga:∀ x ∈ rs,gapB x=true):TxF [102,115,116] [107] p ks rs∧NdF p kids.len alts.len:=by
 rw[fit3] at hf;simp only[Bool.and_eq_true,decide_eq_true_eq,Bool.true_and,Bool.not_eq_true',decide_eq_false_iff_not] at hf;obtain ⟨⟨⟨⟨f1,f2⟩,f3⟩,f4⟩,f5⟩:=hf;obtain ⟨k,n,name,arg,lit⟩:=p;simp only at *;subst hk;subst hn;obtain rfl:=nil_of0 f1;obtain rfl:=nil_of0 f2;obtain rfl:=nil_of0 f3;obtain rfl:=nil_of0 (show rs.length=0 by omega);obtain ⟨a,rfl⟩:=one_of (show ks.length=1 by omega)
 have e:inB2 [102,115,116] [107] ⟨10,0,[],[],[]⟩ [a] []=[[102,115,116],a]:=by simp [inB2,wdB,itsB,itB,nxB]
 have es:saY ⟨10,0,[],[],[]⟩ [a] []=[40]++[102,115,116]++(32::a)++[41]:=by simp [saY,headB,nmB,opsB,capsB,kindsB,blz]
 refine ⟨⟨?_,?_,?_,?_,?_,?_,by decide⟩,⟨by simp,by simp,by simp,by simp,by simp,by simp,by simp,by simp,by simp,by simp⟩⟩
 ·
  unfold noX;rw[e,es];simp [joinZ,blz]
 ·
  rw[e];intro x hx;simp only[List.mem_cons,List.not_mem_nil,or_false,List.cons_append,List.nil_append] at hx;rcases hx with rfl|rfl
  ·
   rfl
  ·
   exact gk _ (by simp)
 ·
  rw[e];simp
 ·
  rw[es];exact gapB_one (by decide) (by decide) _
 ·
  rw[es];simp only[lA,lB,lC,blz];omega
 ·
  have hk9:∀ j,j < 1→([107]:List Int).getD j 0=107→(([107]:List Int).take j).count 107 < 1:=by decide
  exact hk9
theorem sy11 (p:PE) (kids alts:GE) (ks rs:List (List Int)) (hk:p.k=11) (hn:p.n=0) (hf:fitV ⟨#[107]⟩ p kids alts=true) (h1:ks.length=kids.len) (h2:rs.length=alts.len) (gk:∀ x ∈ ks,gapB x=true) (ga:∀ x ∈ rs,gapB x=true):TxF [115,110,100] [107] p ks rs∧NdF p kids.len alts.len:=by
 rw[fit3] at hf;simp only[Bool.and_eq_true,decide_eq_true_eq,Bool.true_and,Bool.not_eq_true',decide_eq_false_iff_not] at hf;obtain ⟨⟨⟨⟨f1,f2⟩,f3⟩,f4⟩,f5⟩:=hf;obtain ⟨k,n,name,arg,lit⟩:=p;simp only at *;subst hk;subst hn;obtain rfl:=nil_of0 f1;obtain rfl:=nil_of0 f2;obtain rfl:=nil_of0 f3;obtain rfl:=nil_of0 (show rs.length=0 by omega);obtain ⟨a,rfl⟩:=one_of (show ks.length=1 by omega)
 have e:inB2 [115,110,100] [107] ⟨11,0,[],[],[]⟩ [a] []=[[115,110,100],a]:=by simp [inB2,wdB,itsB,itB,nxB]
 have es:saY ⟨11,0,[],[],[]⟩ [a] []=[40]++[115,110,100]++(32::a)++[41]:=by simp [saY,headB,nmB,opsB,capsB,kindsB,blz]
 refine ⟨⟨?_,?_,?_,?_,?_,?_,by decide⟩,⟨by simp,by simp,by simp,by simp,by simp,by simp,by simp,by simp,by simp,by simp⟩⟩
 ·
  unfold noX;rw[e,es];simp [joinZ,blz]
 ·
  rw[e];intro x hx;simp only[List.mem_cons,List.not_mem_nil,or_false,List.cons_append,List.nil_append] at hx;rcases hx with rfl|rfl
  ·
   rfl
  ·
   exact gk _ (by simp)
 ·
  rw[e];simp
 ·
  rw[es];exact gapB_one (by decide) (by decide) _
 ·
  rw[es];simp only[lA,lB,lC,blz];omega
 ·
  have hk9:∀ j,j < 1→([107]:List Int).getD j 0=107→(([107]:List Int).take j).count 107 < 1:=by decide
  exact hk9
theorem sy12 (p:PE) (kids alts:GE) (ks rs:List (List Int)) (hk:p.k=12) (hn:p.n=0) (hf:fitV ⟨#[107]⟩ p kids alts=true) (h1:ks.length=kids.len) (h2:rs.length=alts.len) (gk:∀ x ∈ ks,gapB x=true) (ga:∀ x ∈ rs,gapB x=true):TxF [114,101,102] [107] p ks rs∧NdF p kids.len alts.len:=by
 rw[fit3] at hf;simp only[Bool.and_eq_true,decide_eq_true_eq,Bool.true_and,Bool.not_eq_true',decide_eq_false_iff_not] at hf;obtain ⟨⟨⟨⟨f1,f2⟩,f3⟩,f4⟩,f5⟩:=hf;obtain ⟨k,n,name,arg,lit⟩:=p;simp only at *;subst hk;subst hn;obtain rfl:=nil_of0 f1;obtain rfl:=nil_of0 f2;obtain rfl:=nil_of0 f3;obtain rfl:=nil_of0 (show rs.length=0 by omega);obtain ⟨a,rfl⟩:=one_of (show ks.length=1 by omega)
 have e:inB2 [114,101,102] [107] ⟨12,0,[],[],[]⟩ [a] []=[[114,101,102],a]:=by simp [inB2,wdB,itsB,itB,nxB]
 have es:saY ⟨12,0,[],[],[]⟩ [a] []=[40]++[114,101,102]++(32::a)++[41]:=by simp [saY,headB,nmB,opsB,capsB,kindsB,blz]
 refine ⟨⟨?_,?_,?_,?_,?_,?_,by decide⟩,⟨by simp,by simp,by simp,by simp,by simp,by simp,by simp,by simp,by simp,by simp⟩⟩
 ·
  unfold noX;rw[e,es];simp [joinZ,blz]
 ·
  rw[e];intro x hx;simp only[List.mem_cons,List.not_mem_nil,or_false,List.cons_append,List.nil_append] at hx;rcases hx with rfl|rfl
  ·
   rfl
  ·
   exact gk _ (by simp)
 ·
  rw[e];simp
 ·
  rw[es];exact gapB_one (by decide) (by decide) _
 ·
  rw[es];simp only[lA,lB,lC,blz];omega
 ·
  have hk9:∀ j,j < 1→([107]:List Int).getD j 0=107→(([107]:List Int).take j).count 107 < 1:=by decide
  exact hk9
theorem sy13 (p:PE) (kids alts:GE) (ks rs:List (List Int)) (hk:p.k=13) (hn:p.n=0) (hf:fitV ⟨#[107]⟩ p kids alts=true) (h1:ks.length=kids.len) (h2:rs.length=alts.len) (gk:∀ x ∈ ks,gapB x=true) (ga:∀ x ∈ rs,gapB x=true):TxF [114,101,97,100] [107] p ks rs∧NdF p kids.len alts.len:=by
 rw[fit3] at hf;simp only[Bool.and_eq_true,decide_eq_true_eq,Bool.true_and,Bool.not_eq_true',decide_eq_false_iff_not] at hf;obtain ⟨⟨⟨⟨f1,f2⟩,f3⟩,f4⟩,f5⟩:=hf;obtain ⟨k,n,name,arg,lit⟩:=p;simp only at *;subst hk;subst hn;obtain rfl:=nil_of0 f1;obtain rfl:=nil_of0 f2;obtain rfl:=nil_of0 f3;obtain rfl:=nil_of0 (show rs.length=0 by omega);obtain ⟨a,rfl⟩:=one_of (show ks.length=1 by omega)
 have e:inB2 [114,101,97,100] [107] ⟨13,0,[],[],[]⟩ [a] []=[[114,101,97,100],a]:=by simp [inB2,wdB,itsB,itB,nxB]
 have es:saY ⟨13,0,[],[],[]⟩ [a] []=[40]++[114,101,97,100]++(32::a)++[41]:=by simp [saY,headB,nmB,opsB,capsB,kindsB,blz]
 refine ⟨⟨?_,?_,?_,?_,?_,?_,by decide⟩,⟨by simp,by simp,by simp,by simp,by simp,by simp,by simp,by simp,by simp,by simp⟩⟩
 ·
  unfold noX;rw[e,es];simp [joinZ,blz]
 ·
  rw[e];intro x hx;simp only[List.mem_cons,List.not_mem_nil,or_false,List.cons_append,List.nil_append] at hx;rcases hx with rfl|rfl
  ·
   rfl
  ·
   exact gk _ (by simp)
 ·
  rw[e];simp
 ·
  rw[es];exact gapB_one (by decide) (by decide) _
 ·
  rw[es];simp only[lA,lB,lC,blz];omega
 ·
  have hk9:∀ j,j < 1→([107]:List Int).getD j 0=107→(([107]:List Int).take j).count 107 < 1:=by decide
  exact hk9
theorem sy14 (p:PE) (kids alts:GE) (ks rs:List (List Int)) (hk:p.k=14) (hn:p.n=0) (hf:fitV ⟨#[107,107]⟩ p kids alts=true) (h1:ks.length=kids.len) (h2:rs.length=alts.len) (gk:∀ x ∈ ks,gapB x=true) (ga:∀ x ∈ rs,gapB x=true):TxF [119,114,105,116,101] [107,107] p ks rs∧NdF p kids.len alts.len:=by
 rw[fit4] at hf;simp only[Bool.and_eq_true,decide_eq_true_eq,Bool.true_and,Bool.not_eq_true',decide_eq_false_iff_not] at hf;obtain ⟨⟨⟨⟨f1,f2⟩,f3⟩,f4⟩,f5⟩:=hf;obtain ⟨k,n,name,arg,lit⟩:=p;simp only at *;subst hk;subst hn;obtain rfl:=nil_of0 f1;obtain rfl:=nil_of0 f2;obtain rfl:=nil_of0 f3;obtain rfl:=nil_of0 (show rs.length=0 by omega);obtain ⟨a,b,rfl⟩:=two_of (show ks.length=2 by omega)
 have e:inB2 [119,114,105,116,101] [107,107] ⟨14,0,[],[],[]⟩ [a,b] []=[[119,114,105,116,101],a,b]:=by simp [inB2,wdB,itsB,itB,nxB]
 have es:saY ⟨14,0,[],[],[]⟩ [a,b] []=[40]++[119,114,105,116,101]++(32::a)++(32::b)++[41]:=by simp [saY,headB,nmB,opsB,capsB,kindsB,blz]
 refine ⟨⟨?_,?_,?_,?_,?_,?_,by decide⟩,⟨by simp,by simp,by simp,by simp,by simp,by simp,by simp,by simp,by simp,by simp⟩⟩
 ·
  unfold noX;rw[e,es];simp [joinZ,blz]
 ·
  rw[e];intro x hx;simp only[List.mem_cons,List.not_mem_nil,or_false,List.cons_append,List.nil_append] at hx;rcases hx with rfl|rfl|rfl
  ·
   rfl
  ·
   exact gk _ (by simp)
  ·
   exact gk _ (by simp)
 ·
  rw[e];simp
 ·
  rw[es];exact gapB_one (by decide) (by decide) _
 ·
  rw[es];simp only[lA,lB,lC,blz];omega
 ·
  have hk9:∀ j,j < 2→([107,107]:List Int).getD j 0=107→(([107,107]:List Int).take j).count 107 < 2:=by decide
  exact hk9
theorem sy15 (p:PE) (kids alts:GE) (ks rs:List (List Int)) (hk:p.k=15) (hn:p.n=0) (hf:fitV ⟨#[103,102]⟩ p kids alts=true) (h1:ks.length=kids.len) (h2:rs.length=alts.len) (gk:∀ x ∈ ks,gapB x=true) (ga:∀ x ∈ rs,gapB x=true):TxF [] [103,102] p ks rs∧NdF p kids.len alts.len:=by
 rw[fit1] at hf;simp only[Bool.and_eq_true,decide_eq_true_eq,Bool.true_and,Bool.not_eq_true',decide_eq_false_iff_not] at hf;obtain ⟨⟨⟨⟨f1,f2⟩,f3⟩,f4⟩,f5⟩:=hf;obtain ⟨k,n,name,arg,lit⟩:=p;simp only at *;subst hk;subst hn;obtain ⟨q1,q2,q3⟩:=wordV_good (by omega) f1;obtain rfl:=nil_of0 f2;obtain rfl:=nil_of0 f3;obtain rfl:=nil_of0 (show rs.length=0 by omega)
 have n0:name.length≠0:=fun e=>q3 (nil_of0 e)
 have e:inB2 [] [103,102] ⟨15,0,name,[],[]⟩ ks []=name::ks:=by simp [inB2,wdB,itsB,itB,nxB]
 have es:saY ⟨15,0,name,[],[]⟩ ks []=if ks.length=0 then name else [40]++name++blz ks++[41]:=by simp [saY,blz]
 refine ⟨⟨?_,?_,?_,?_,?_,?_,by decide⟩,⟨by simp,by simp,by simp,by simp,by simp,by simp,q2,by simp,by simp,by simp⟩⟩
 ·
  unfold noX;rw[e,es];by_cases hz:ks.length=0
  ·
   rw[if_pos hz,if_pos hz,nil_of0 hz];simp [joinZ,blz]
  ·
   rw[if_neg hz,if_neg hz];simp [joinZ]
 ·
  rw[e];intro x hx;rcases List.mem_cons.1 hx with rfl|hx
  ·
   exact q1
  ·
   exact gk x hx
 ·
  rw[e];simp
 ·
  rw[es];split
  ·
   exact q1
  ·
   exact gapB_one (by decide) (by decide) _
 ·
  rw[es];split
  ·
   simp only[lC,blz];omega
  ·
   simp only[lA,lB,lC,blz];omega
 ·
  have hk9:∀ j,j < 2→([103,102]:List Int).getD j 0≠107:=by decide
  exact fun j hj e=>absurd e (hk9 j hj)
theorem sy16 (p:PE) (kids alts:GE) (ks rs:List (List Int)) (hk:p.k=16) (hn:p.n=0) (hf:fitV ⟨#[107,109]⟩ p kids alts=true) (h1:ks.length=kids.len) (h2:rs.length=alts.len) (gk:∀ x ∈ ks,gapB x=true) (ga:∀ x ∈ rs,gapB x=true):TxF [109,97,116,99,104] [107,109] p ks rs∧NdF p kids.len alts.len:=by
 rw[fit6] at hf;simp only[Bool.and_eq_true,decide_eq_true_eq,Bool.true_and,Bool.not_eq_true',decide_eq_false_iff_not] at hf;obtain ⟨⟨⟨⟨f1,f2⟩,f3⟩,f4⟩,f5⟩:=hf;obtain ⟨k,n,name,arg,lit⟩:=p;simp only at *;subst hk;subst hn;obtain rfl:=nil_of0 f1;obtain rfl:=nil_of0 f2;obtain rfl:=nil_of0 f3;obtain ⟨a,rfl⟩:=one_of (show ks.length=1 by omega)
 have e:inB2 [109,97,116,99,104] [107,109] ⟨16,0,[],[],[]⟩ [a] rs=[[109,97,116,99,104],a]++rs:=by simp [inB2,wdB,itsB,itB,nxB]
 have es:saY ⟨16,0,[],[],[]⟩ [a] rs=[40]++[109,97,116,99,104]++(32::a)++blz rs++[41]:=by simp [saY,headB,nmB,opsB,capsB,kindsB,blz]
 refine ⟨⟨?_,?_,?_,?_,?_,?_,by decide⟩,⟨by simp,by simp,by simp,by simp,by simp,by simp,by simp,by simp,by simp,by simp⟩⟩
 ·
  unfold noX;rw[e,es];simp [joinZ,blz]
 ·
  rw[e];intro x hx;simp only[List.mem_cons,List.not_mem_nil,or_false,List.cons_append,List.nil_append] at hx;rcases hx with rfl|rfl|hx
  ·
   rfl
  ·
   exact gk _ (by simp)
  ·
   exact ga _ hx
 ·
  rw[e];simp
 ·
  rw[es];exact gapB_one (by decide) (by decide) _
 ·
  rw[es];simp only[lA,lB,lC,blz];omega
 ·
  have hk9:∀ j,j < 2→([107,109]:List Int).getD j 0=107→(([107,109]:List Int).take j).count 107 < 1:=by decide
  exact hk9
theorem sy17 (p:PE) (kids alts:GE) (ks rs:List (List Int)) (hk:p.k=17) (hn:p.n=0) (hf:fitV ⟨#[107]⟩ p kids alts=true) (h1:ks.length=kids.len) (h2:rs.length=alts.len) (gk:∀ x ∈ ks,gapB x=true) (ga:∀ x ∈ rs,gapB x=true):TxF [114,97,105,115,101] [107] p ks rs∧NdF p kids.len alts.len:=by
 rw[fit3] at hf;simp only[Bool.and_eq_true,decide_eq_true_eq,Bool.true_and,Bool.not_eq_true',decide_eq_false_iff_not] at hf;obtain ⟨⟨⟨⟨f1,f2⟩,f3⟩,f4⟩,f5⟩:=hf;obtain ⟨k,n,name,arg,lit⟩:=p;simp only at *;subst hk;subst hn;obtain rfl:=nil_of0 f1;obtain rfl:=nil_of0 f2;obtain rfl:=nil_of0 f3;obtain rfl:=nil_of0 (show rs.length=0 by omega);obtain ⟨a,rfl⟩:=one_of (show ks.length=1 by omega)
 have e:inB2 [114,97,105,115,101] [107] ⟨17,0,[],[],[]⟩ [a] []=[[114,97,105,115,101],a]:=by simp [inB2,wdB,itsB,itB,nxB]
 have es:saY ⟨17,0,[],[],[]⟩ [a] []=[40]++[114,97,105,115,101]++(32::a)++[41]:=by simp [saY,headB,nmB,opsB,capsB,kindsB,blz]
 refine ⟨⟨?_,?_,?_,?_,?_,?_,by decide⟩,⟨by simp,by simp,by simp,by simp,by simp,by simp,by simp,by simp,by simp,by simp⟩⟩
 ·
  unfold noX;rw[e,es];simp [joinZ,blz]
 ·
  rw[e];intro x hx;simp only[List.mem_cons,List.not_mem_nil,or_false,List.cons_append,List.nil_append] at hx;rcases hx with rfl|rfl
  ·
   rfl
  ·
   exact gk _ (by simp)
 ·
  rw[e];simp
 ·
  rw[es];exact gapB_one (by decide) (by decide) _
 ·
  rw[es];simp only[lA,lB,lC,blz];omega
 ·
  have hk9:∀ j,j < 1→([107]:List Int).getD j 0=107→(([107]:List Int).take j).count 107 < 1:=by decide
  exact hk9
theorem sy18 (p:PE) (kids alts:GE) (ks rs:List (List Int)) (hk:p.k=18) (hn:p.n=0) (hf:fitV ⟨#[107,110,107]⟩ p kids alts=true) (h1:ks.length=kids.len) (h2:rs.length=alts.len) (gk:∀ x ∈ ks,gapB x=true) (ga:∀ x ∈ rs,gapB x=true):TxF [116,114,121] [107,110,107] p ks rs∧NdF p kids.len alts.len:=by
 rw[fit7] at hf;simp only[Bool.and_eq_true,decide_eq_true_eq,Bool.true_and,Bool.not_eq_true',decide_eq_false_iff_not] at hf;obtain ⟨⟨⟨⟨f1,f2⟩,f3⟩,f4⟩,f5⟩:=hf;obtain ⟨k,n,name,arg,lit⟩:=p;simp only at *;subst hk;subst hn;obtain ⟨q1,q2,q3⟩:=nameV_good f1;obtain rfl:=nil_of0 f2;obtain rfl:=nil_of0 f3;obtain rfl:=nil_of0 (show rs.length=0 by omega);obtain ⟨a,b,rfl⟩:=two_of (show ks.length=2 by omega)
 have n0:name.length≠0:=fun e=>q3 (nil_of0 e)
 have e:inB2 [116,114,121] [107,110,107] ⟨18,0,name,[],[]⟩ [a,b] []=[[116,114,121],a,name,b]:=by simp [inB2,wdB,itsB,itB,nxB]
 have es:saY ⟨18,0,name,[],[]⟩ [a,b] []=[40]++[116,114,121]++(32::a)++(32::name)++(32::b)++[41]:=by simp [saY,headB,nmB,opsB,capsB,kindsB,blz,n0]
 refine ⟨⟨?_,?_,?_,?_,?_,?_,by decide⟩,⟨by simp,by simp,by simp,fun _=>by simpa using f4,by simp,by simp,q2,by simp,by simp,by simp⟩⟩
 ·
  unfold noX;rw[e,es];simp [joinZ,blz]
 ·
  rw[e];intro x hx;simp only[List.mem_cons,List.not_mem_nil,or_false,List.cons_append,List.nil_append] at hx;rcases hx with rfl|rfl|rfl|rfl
  ·
   rfl
  ·
   exact gk _ (by simp)
  ·
   exact q1
  ·
   exact gk _ (by simp)
 ·
  rw[e];simp
 ·
  rw[es];exact gapB_one (by decide) (by decide) _
 ·
  rw[es];simp only[lA,lB,lC,blz];omega
 ·
  have hk9:∀ j,j < 3→([107,110,107]:List Int).getD j 0=107→(([107,110,107]:List Int).take j).count 107 < 2:=by decide
  exact hk9
theorem sy19 (p:PE) (kids alts:GE) (ks rs:List (List Int)) (hk:p.k=19) (hn:p.n=0) (hf:fitV ⟨#[107,107]⟩ p kids alts=true) (h1:ks.length=kids.len) (h2:rs.length=alts.len) (gk:∀ x ∈ ks,gapB x=true) (ga:∀ x ∈ rs,gapB x=true):TxF [97,100,100] [107,107] p ks rs∧NdF p kids.len alts.len:=by
 rw[fit4] at hf;simp only[Bool.and_eq_true,decide_eq_true_eq,Bool.true_and,Bool.not_eq_true',decide_eq_false_iff_not] at hf;obtain ⟨⟨⟨⟨f1,f2⟩,f3⟩,f4⟩,f5⟩:=hf;obtain ⟨k,n,name,arg,lit⟩:=p;simp only at *;subst hk;subst hn;obtain rfl:=nil_of0 f1;obtain rfl:=nil_of0 f2;obtain rfl:=nil_of0 f3;obtain rfl:=nil_of0 (show rs.length=0 by omega);obtain ⟨a,b,rfl⟩:=two_of (show ks.length=2 by omega)
 have e:inB2 [97,100,100] [107,107] ⟨19,0,[],[],[]⟩ [a,b] []=[[97,100,100],a,b]:=by simp [inB2,wdB,itsB,itB,nxB]
 have es:saY ⟨19,0,[],[],[]⟩ [a,b] []=[40]++[97,100,100]++(32::a)++(32::b)++[41]:=by simp [saY,headB,nmB,opsB,capsB,kindsB,blz]
 refine ⟨⟨?_,?_,?_,?_,?_,?_,by decide⟩,⟨by simp,by simp,by simp,by simp,by simp,by simp,by simp,by simp,by simp,by simp⟩⟩
 ·
  unfold noX;rw[e,es];simp [joinZ,blz]
 ·
  rw[e];intro x hx;simp only[List.mem_cons,List.not_mem_nil,or_false,List.cons_append,List.nil_append] at hx;rcases hx with rfl|rfl|rfl
  ·
   rfl
  ·
   exact gk _ (by simp)
  ·
   exact gk _ (by simp)
 ·
  rw[e];simp
 ·
  rw[es];exact gapB_one (by decide) (by decide) _
 ·
  rw[es];simp only[lA,lB,lC,blz];omega
 ·
  have hk9:∀ j,j < 2→([107,107]:List Int).getD j 0=107→(([107,107]:List Int).take j).count 107 < 2:=by decide
  exact hk9
theorem sy20 (p:PE) (kids alts:GE) (ks rs:List (List Int)) (hk:p.k=19) (hn:p.n=1) (hf:fitV ⟨#[107,107]⟩ p kids alts=true) (h1:ks.length=kids.len) (h2:rs.length=alts.len) (gk:∀ x ∈ ks,gapB x=true) (ga:∀ x ∈ rs,gapB x=true):TxF [115,117,98] [107,107] p ks rs∧NdF p kids.len alts.len:=by
 rw[fit4] at hf;simp only[Bool.and_eq_true,decide_eq_true_eq,Bool.true_and,Bool.not_eq_true',decide_eq_false_iff_not] at hf;obtain ⟨⟨⟨⟨f1,f2⟩,f3⟩,f4⟩,f5⟩:=hf;obtain ⟨k,n,name,arg,lit⟩:=p;simp only at *;subst hk;subst hn;obtain rfl:=nil_of0 f1;obtain rfl:=nil_of0 f2;obtain rfl:=nil_of0 f3;obtain rfl:=nil_of0 (show rs.length=0 by omega);obtain ⟨a,b,rfl⟩:=two_of (show ks.length=2 by omega)
 have e:inB2 [115,117,98] [107,107] ⟨19,1,[],[],[]⟩ [a,b] []=[[115,117,98],a,b]:=by simp [inB2,wdB,itsB,itB,nxB]
 have es:saY ⟨19,1,[],[],[]⟩ [a,b] []=[40]++[115,117,98]++(32::a)++(32::b)++[41]:=by simp [saY,headB,nmB,opsB,capsB,kindsB,blz]
 refine ⟨⟨?_,?_,?_,?_,?_,?_,by decide⟩,⟨by simp,by simp,by simp,by simp,by simp,by simp,by simp,by simp,by simp,by simp⟩⟩
 ·
  unfold noX;rw[e,es];simp [joinZ,blz]
 ·
  rw[e];intro x hx;simp only[List.mem_cons,List.not_mem_nil,or_false,List.cons_append,List.nil_append] at hx;rcases hx with rfl|rfl|rfl
  ·
   rfl
  ·
   exact gk _ (by simp)
  ·
   exact gk _ (by simp)
 ·
  rw[e];simp
 ·
  rw[es];exact gapB_one (by decide) (by decide) _
 ·
  rw[es];simp only[lA,lB,lC,blz];omega
 ·
  have hk9:∀ j,j < 2→([107,107]:List Int).getD j 0=107→(([107,107]:List Int).take j).count 107 < 2:=by decide
  exact hk9
theorem sy21 (p:PE) (kids alts:GE) (ks rs:List (List Int)) (hk:p.k=19) (hn:p.n=2) (hf:fitV ⟨#[107,107]⟩ p kids alts=true) (h1:ks.length=kids.len) (h2:rs.length=alts.len) (gk:∀ x ∈ ks,gapB x=true) (ga:∀ x ∈ rs,gapB x=true):TxF [109,117,108] [107,107] p ks rs∧NdF p kids.len alts.len:=by
 rw[fit4] at hf;simp only[Bool.and_eq_true,decide_eq_true_eq,Bool.true_and,Bool.not_eq_true',decide_eq_false_iff_not] at hf;obtain ⟨⟨⟨⟨f1,f2⟩,f3⟩,f4⟩,f5⟩:=hf;obtain ⟨k,n,name,arg,lit⟩:=p;simp only at *;subst hk;subst hn;obtain rfl:=nil_of0 f1;obtain rfl:=nil_of0 f2;obtain rfl:=nil_of0 f3;obtain rfl:=nil_of0 (show rs.length=0 by omega);obtain ⟨a,b,rfl⟩:=two_of (show ks.length=2 by omega)
 have e:inB2 [109,117,108] [107,107] ⟨19,2,[],[],[]⟩ [a,b] []=[[109,117,108],a,b]:=by simp [inB2,wdB,itsB,itB,nxB]
 have es:saY ⟨19,2,[],[],[]⟩ [a,b] []=[40]++[109,117,108]++(32::a)++(32::b)++[41]:=by simp [saY,headB,nmB,opsB,capsB,kindsB,blz]
 refine ⟨⟨?_,?_,?_,?_,?_,?_,by decide⟩,⟨by simp,by simp,by simp,by simp,by simp,by simp,by simp,by simp,by simp,by simp⟩⟩
 ·
  unfold noX;rw[e,es];simp [joinZ,blz]
 ·
  rw[e];intro x hx;simp only[List.mem_cons,List.not_mem_nil,or_false,List.cons_append,List.nil_append] at hx;rcases hx with rfl|rfl|rfl
  ·
   rfl
  ·
   exact gk _ (by simp)
  ·
   exact gk _ (by simp)
 ·
  rw[e];simp
 ·
  rw[es];exact gapB_one (by decide) (by decide) _
 ·
  rw[es];simp only[lA,lB,lC,blz];omega
 ·
  have hk9:∀ j,j < 2→([107,107]:List Int).getD j 0=107→(([107,107]:List Int).take j).count 107 < 2:=by decide
  exact hk9
theorem sy22 (p:PE) (kids alts:GE) (ks rs:List (List Int)) (hk:p.k=19) (hn:p.n=3) (hf:fitV ⟨#[107,107]⟩ p kids alts=true) (h1:ks.length=kids.len) (h2:rs.length=alts.len) (gk:∀ x ∈ ks,gapB x=true) (ga:∀ x ∈ rs,gapB x=true):TxF [108,101,115,115] [107,107] p ks rs∧NdF p kids.len alts.len:=by
 rw[fit4] at hf;simp only[Bool.and_eq_true,decide_eq_true_eq,Bool.true_and,Bool.not_eq_true',decide_eq_false_iff_not] at hf;obtain ⟨⟨⟨⟨f1,f2⟩,f3⟩,f4⟩,f5⟩:=hf;obtain ⟨k,n,name,arg,lit⟩:=p;simp only at *;subst hk;subst hn;obtain rfl:=nil_of0 f1;obtain rfl:=nil_of0 f2;obtain rfl:=nil_of0 f3;obtain rfl:=nil_of0 (show rs.length=0 by omega);obtain ⟨a,b,rfl⟩:=two_of (show ks.length=2 by omega)
 have e:inB2 [108,101,115,115] [107,107] ⟨19,3,[],[],[]⟩ [a,b] []=[[108,101,115,115],a,b]:=by simp [inB2,wdB,itsB,itB,nxB]
 have es:saY ⟨19,3,[],[],[]⟩ [a,b] []=[40]++[108,101,115,115]++(32::a)++(32::b)++[41]:=by simp [saY,headB,nmB,opsB,capsB,kindsB,blz]
 refine ⟨⟨?_,?_,?_,?_,?_,?_,by decide⟩,⟨by simp,by simp,by simp,by simp,by simp,by simp,by simp,by simp,by simp,by simp⟩⟩
 ·
  unfold noX;rw[e,es];simp [joinZ,blz]
 ·
  rw[e];intro x hx;simp only[List.mem_cons,List.not_mem_nil,or_false,List.cons_append,List.nil_append] at hx;rcases hx with rfl|rfl|rfl
  ·
   rfl
  ·
   exact gk _ (by simp)
  ·
   exact gk _ (by simp)
 ·
  rw[e];simp
 ·
  rw[es];exact gapB_one (by decide) (by decide) _
 ·
  rw[es];simp only[lA,lB,lC,blz];omega
 ·
  have hk9:∀ j,j < 2→([107,107]:List Int).getD j 0=107→(([107,107]:List Int).take j).count 107 < 2:=by decide
  exact hk9
theorem sy23 (p:PE) (kids alts:GE) (ks rs:List (List Int)) (hk:p.k=19) (hn:p.n=4) (hf:fitV ⟨#[107,107]⟩ p kids alts=true) (h1:ks.length=kids.len) (h2:rs.length=alts.len) (gk:∀ x ∈ ks,gapB x=true) (ga:∀ x ∈ rs,gapB x=true):TxF [115,97,109,101] [107,107] p ks rs∧NdF p kids.len alts.len:=by
 rw[fit4] at hf;simp only[Bool.and_eq_true,decide_eq_true_eq,Bool.true_and,Bool.not_eq_true',decide_eq_false_iff_not] at hf;obtain ⟨⟨⟨⟨f1,f2⟩,f3⟩,f4⟩,f5⟩:=hf;obtain ⟨k,n,name,arg,lit⟩:=p;simp only at *;subst hk;subst hn;obtain rfl:=nil_of0 f1;obtain rfl:=nil_of0 f2;obtain rfl:=nil_of0 f3;obtain rfl:=nil_of0 (show rs.length=0 by omega);obtain ⟨a,b,rfl⟩:=two_of (show ks.length=2 by omega)
 have e:inB2 [115,97,109,101] [107,107] ⟨19,4,[],[],[]⟩ [a,b] []=[[115,97,109,101],a,b]:=by simp [inB2,wdB,itsB,itB,nxB]
 have es:saY ⟨19,4,[],[],[]⟩ [a,b] []=[40]++[115,97,109,101]++(32::a)++(32::b)++[41]:=by simp [saY,headB,nmB,opsB,capsB,kindsB,blz]
 refine ⟨⟨?_,?_,?_,?_,?_,?_,by decide⟩,⟨by simp,by simp,by simp,by simp,by simp,by simp,by simp,by simp,by simp,by simp⟩⟩
 ·
  unfold noX;rw[e,es];simp [joinZ,blz]
 ·
  rw[e];intro x hx;simp only[List.mem_cons,List.not_mem_nil,or_false,List.cons_append,List.nil_append] at hx;rcases hx with rfl|rfl|rfl
  ·
   rfl
  ·
   exact gk _ (by simp)
  ·
   exact gk _ (by simp)
 ·
  rw[e];simp
 ·
  rw[es];exact gapB_one (by decide) (by decide) _
 ·
  rw[es];simp only[lA,lB,lC,blz];omega
 ·
  have hk9:∀ j,j < 2→([107,107]:List Int).getD j 0=107→(([107,107]:List Int).take j).count 107 < 2:=by decide
  exact hk9
theorem sy24 (p:PE) (kids alts:GE) (ks rs:List (List Int)) (hk:p.k=19) (hn:p.n=5) (hf:fitV ⟨#[107,107]⟩ p kids alts=true) (h1:ks.length=kids.len) (h2:rs.length=alts.len) (gk:∀ x ∈ ks,gapB x=true) (ga:∀ x ∈ rs,gapB x=true):TxF [99,97,116] [107,107] p ks rs∧NdF p kids.len alts.len:=by
 rw[fit4] at hf;simp only[Bool.and_eq_true,decide_eq_true_eq,Bool.true_and,Bool.not_eq_true',decide_eq_false_iff_not] at hf;obtain ⟨⟨⟨⟨f1,f2⟩,f3⟩,f4⟩,f5⟩:=hf;obtain ⟨k,n,name,arg,lit⟩:=p;simp only at *;subst hk;subst hn;obtain rfl:=nil_of0 f1;obtain rfl:=nil_of0 f2;obtain rfl:=nil_of0 f3;obtain rfl:=nil_of0 (show rs.length=0 by omega);obtain ⟨a,b,rfl⟩:=two_of (show ks.length=2 by omega)
 have e:inB2 [99,97,116] [107,107] ⟨19,5,[],[],[]⟩ [a,b] []=[[99,97,116],a,b]:=by simp [inB2,wdB,itsB,itB,nxB]
 have es:saY ⟨19,5,[],[],[]⟩ [a,b] []=[40]++[99,97,116]++(32::a)++(32::b)++[41]:=by simp [saY,headB,nmB,opsB,capsB,kindsB,blz]
 refine ⟨⟨?_,?_,?_,?_,?_,?_,by decide⟩,⟨by simp,by simp,by simp,by simp,by simp,by simp,by simp,by simp,by simp,by simp⟩⟩
 ·
  unfold noX;rw[e,es];simp [joinZ,blz]
 ·
  rw[e];intro x hx;simp only[List.mem_cons,List.not_mem_nil,or_false,List.cons_append,List.nil_append] at hx;rcases hx with rfl|rfl|rfl
  ·
   rfl
  ·
   exact gk _ (by simp)
  ·
   exact gk _ (by simp)
 ·
  rw[e];simp
 ·
  rw[es];exact gapB_one (by decide) (by decide) _
 ·
  rw[es];simp only[lA,lB,lC,blz];omega
 ·
  have hk9:∀ j,j < 2→([107,107]:List Int).getD j 0=107→(([107,107]:List Int).take j).count 107 < 2:=by decide
  exact hk9
theorem sy25 (p:PE) (kids alts:GE) (ks rs:List (List Int)) (hk:p.k=19) (hn:p.n=6) (hf:fitV ⟨#[107]⟩ p kids alts=true) (h1:ks.length=kids.len) (h2:rs.length=alts.len) (gk:∀ x ∈ ks,gapB x=true) (ga:∀ x ∈ rs,gapB x=true):TxF [108,101,110] [107] p ks rs∧NdF p kids.len alts.len:=by
 rw[fit3] at hf;simp only[Bool.and_eq_true,decide_eq_true_eq,Bool.true_and,Bool.not_eq_true',decide_eq_false_iff_not] at hf;obtain ⟨⟨⟨⟨f1,f2⟩,f3⟩,f4⟩,f5⟩:=hf;obtain ⟨k,n,name,arg,lit⟩:=p;simp only at *;subst hk;subst hn;obtain rfl:=nil_of0 f1;obtain rfl:=nil_of0 f2;obtain rfl:=nil_of0 f3;obtain rfl:=nil_of0 (show rs.length=0 by omega);obtain ⟨a,rfl⟩:=one_of (show ks.length=1 by omega)
 have e:inB2 [108,101,110] [107] ⟨19,6,[],[],[]⟩ [a] []=[[108,101,110],a]:=by simp [inB2,wdB,itsB,itB,nxB]
 have es:saY ⟨19,6,[],[],[]⟩ [a] []=[40]++[108,101,110]++(32::a)++[41]:=by simp [saY,headB,nmB,opsB,capsB,kindsB,blz]
 refine ⟨⟨?_,?_,?_,?_,?_,?_,by decide⟩,⟨by simp,by simp,by simp,by simp,by simp,by simp,by simp,by simp,by simp,by simp⟩⟩
 ·
  unfold noX;rw[e,es];simp [joinZ,blz]
 ·
  rw[e];intro x hx;simp only[List.mem_cons,List.not_mem_nil,or_false,List.cons_append,List.nil_append] at hx;rcases hx with rfl|rfl
  ·
   rfl
  ·
   exact gk _ (by simp)
 ·
  rw[e];simp
 ·
  rw[es];exact gapB_one (by decide) (by decide) _
 ·
  rw[es];simp only[lA,lB,lC,blz];omega
 ·
  have hk9:∀ j,j < 1→([107]:List Int).getD j 0=107→(([107]:List Int).take j).count 107 < 1:=by decide
  exact hk9
theorem sy26 (p:PE) (kids alts:GE) (ks rs:List (List Int)) (hk:p.k=20) (hn:p.n=0) (hf:fitV ⟨#[107]⟩ p kids alts=true) (h1:ks.length=kids.len) (h2:rs.length=alts.len) (gk:∀ x ∈ ks,gapB x=true) (ga:∀ x ∈ rs,gapB x=true):TxF [112,114,105,110,116] [107] p ks rs∧NdF p kids.len alts.len:=by
 rw[fit3] at hf;simp only[Bool.and_eq_true,decide_eq_true_eq,Bool.true_and,Bool.not_eq_true',decide_eq_false_iff_not] at hf;obtain ⟨⟨⟨⟨f1,f2⟩,f3⟩,f4⟩,f5⟩:=hf;obtain ⟨k,n,name,arg,lit⟩:=p;simp only at *;subst hk;subst hn;obtain rfl:=nil_of0 f1;obtain rfl:=nil_of0 f2;obtain rfl:=nil_of0 f3;obtain rfl:=nil_of0 (show rs.length=0 by omega);obtain ⟨a,rfl⟩:=one_of (show ks.length=1 by omega)
 have e:inB2 [112,114,105,110,116] [107] ⟨20,0,[],[],[]⟩ [a] []=[[112,114,105,110,116],a]:=by simp [inB2,wdB,itsB,itB,nxB]
 have es:saY ⟨20,0,[],[],[]⟩ [a] []=[40]++[112,114,105,110,116]++(32::a)++[41]:=by simp [saY,headB,nmB,opsB,capsB,kindsB,blz]
 refine ⟨⟨?_,?_,?_,?_,?_,?_,by decide⟩,⟨by simp,by simp,by simp,by simp,by simp,by simp,by simp,by simp,by simp,by simp⟩⟩
 ·
  unfold noX;rw[e,es];simp [joinZ,blz]
 ·
  rw[e];intro x hx;simp only[List.mem_cons,List.not_mem_nil,or_false,List.cons_append,List.nil_append] at hx;rcases hx with rfl|rfl
  ·
   rfl
  ·
   exact gk _ (by simp)
 ·
  rw[e];simp
 ·
  rw[es];exact gapB_one (by decide) (by decide) _
 ·
  rw[es];simp only[lA,lB,lC,blz];omega
 ·
  have hk9:∀ j,j < 1→([107]:List Int).getD j 0=107→(([107]:List Int).take j).count 107 < 1:=by decide
  exact hk9
theorem sy27 (p:PE) (kids alts:GE) (ks rs:List (List Int)) (hk:p.k=20) (hn:p.n=1) (hf:fitV ⟨#[]⟩ p kids alts=true) (h1:ks.length=kids.len) (h2:rs.length=alts.len) (gk:∀ x ∈ ks,gapB x=true) (ga:∀ x ∈ rs,gapB x=true):TxF [116,105,99,107] [] p ks rs∧NdF p kids.len alts.len:=by
 rw[fit0] at hf;simp only[Bool.and_eq_true,decide_eq_true_eq,Bool.true_and,Bool.not_eq_true',decide_eq_false_iff_not] at hf;obtain ⟨⟨⟨⟨f1,f2⟩,f3⟩,f4⟩,f5⟩:=hf;obtain ⟨k,n,name,arg,lit⟩:=p;simp only at *;subst hk;subst hn;obtain rfl:=nil_of0 f1;obtain rfl:=nil_of0 f2;obtain rfl:=nil_of0 f3;obtain rfl:=nil_of0 (show rs.length=0 by omega);obtain rfl:=nil_of0 (show ks.length=0 by omega)
 have e:inB2 [116,105,99,107] [] ⟨20,1,[],[],[]⟩ [] []=[[116,105,99,107]]:=by simp [inB2,wdB,itsB,itB,nxB]
 have es:saY ⟨20,1,[],[],[]⟩ [] []=[116,105,99,107]:=by simp [saY,headB,nmB,opsB,capsB,kindsB,blz]
 refine ⟨⟨?_,?_,?_,?_,?_,?_,by decide⟩,⟨by simp,by simp,by simp,by simp,by simp,by simp,by simp,by simp,by simp,by simp⟩⟩
 ·
  unfold noX;rw[e,es];simp [joinZ,blz]
 ·
  rw[e];intro x hx;simp only[List.mem_cons,List.not_mem_nil,or_false,List.cons_append,List.nil_append] at hx;subst hx
  ·
   rfl
 ·
  rw[e];simp
 ·
  rw[es];rfl
 ·
  rw[es];simp only[lA,lB,lC,blz];omega
 ·
  have hk9:∀ j,j < 0→([]:List Int).getD j 0=107→(([]:List Int).take j).count 107 < 0:=by decide
  exact hk9
theorem sy28 (p:PE) (kids alts:GE) (ks rs:List (List Int)) (hk:p.k=20) (hn:p.n=2) (hf:fitV ⟨#[107]⟩ p kids alts=true) (h1:ks.length=kids.len) (h2:rs.length=alts.len) (gk:∀ x ∈ ks,gapB x=true) (ga:∀ x ∈ rs,gapB x=true):TxF [100,114,97,119] [107] p ks rs∧NdF p kids.len alts.len:=by
 rw[fit3] at hf;simp only[Bool.and_eq_true,decide_eq_true_eq,Bool.true_and,Bool.not_eq_true',decide_eq_false_iff_not] at hf;obtain ⟨⟨⟨⟨f1,f2⟩,f3⟩,f4⟩,f5⟩:=hf;obtain ⟨k,n,name,arg,lit⟩:=p;simp only at *;subst hk;subst hn;obtain rfl:=nil_of0 f1;obtain rfl:=nil_of0 f2;obtain rfl:=nil_of0 f3;obtain rfl:=nil_of0 (show rs.length=0 by omega);obtain ⟨a,rfl⟩:=one_of (show ks.length=1 by omega)
 have e:inB2 [100,114,97,119] [107] ⟨20,2,[],[],[]⟩ [a] []=[[100,114,97,119],a]:=by simp [inB2,wdB,itsB,itB,nxB]
 have es:saY ⟨20,2,[],[],[]⟩ [a] []=[40]++[100,114,97,119]++(32::a)++[41]:=by simp [saY,headB,nmB,opsB,capsB,kindsB,blz]
 refine ⟨⟨?_,?_,?_,?_,?_,?_,by decide⟩,⟨by simp,by simp,by simp,by simp,by simp,by simp,by simp,by simp,by simp,by simp⟩⟩
 ·
  unfold noX;rw[e,es];simp [joinZ,blz]
 ·
  rw[e];intro x hx;simp only[List.mem_cons,List.not_mem_nil,or_false,List.cons_append,List.nil_append] at hx;rcases hx with rfl|rfl
  ·
   rfl
  ·
   exact gk _ (by simp)
 ·
  rw[e];simp
 ·
  rw[es];exact gapB_one (by decide) (by decide) _
 ·
  rw[es];simp only[lA,lB,lC,blz];omega
 ·
  have hk9:∀ j,j < 1→([107]:List Int).getD j 0=107→(([107]:List Int).take j).count 107 < 1:=by decide
  exact hk9
theorem sy29 (p:PE) (kids alts:GE) (ks rs:List (List Int)) (hk:p.k=20) (hn:p.n=3) (hf:fitV ⟨#[107]⟩ p kids alts=true) (h1:ks.length=kids.len) (h2:rs.length=alts.len) (gk:∀ x ∈ ks,gapB x=true) (ga:∀ x ∈ rs,gapB x=true):TxF [103,101,116] [107] p ks rs∧NdF p kids.len alts.len:=by
 rw[fit3] at hf;simp only[Bool.and_eq_true,decide_eq_true_eq,Bool.true_and,Bool.not_eq_true',decide_eq_false_iff_not] at hf;obtain ⟨⟨⟨⟨f1,f2⟩,f3⟩,f4⟩,f5⟩:=hf;obtain ⟨k,n,name,arg,lit⟩:=p;simp only at *;subst hk;subst hn;obtain rfl:=nil_of0 f1;obtain rfl:=nil_of0 f2;obtain rfl:=nil_of0 f3;obtain rfl:=nil_of0 (show rs.length=0 by omega);obtain ⟨a,rfl⟩:=one_of (show ks.length=1 by omega)
 have e:inB2 [103,101,116] [107] ⟨20,3,[],[],[]⟩ [a] []=[[103,101,116],a]:=by simp [inB2,wdB,itsB,itB,nxB]
 have es:saY ⟨20,3,[],[],[]⟩ [a] []=[40]++[103,101,116]++(32::a)++[41]:=by simp [saY,headB,nmB,opsB,capsB,kindsB,blz]
 refine ⟨⟨?_,?_,?_,?_,?_,?_,by decide⟩,⟨by simp,by simp,by simp,by simp,by simp,by simp,by simp,by simp,by simp,by simp⟩⟩
 ·
  unfold noX;rw[e,es];simp [joinZ,blz]
 ·
  rw[e];intro x hx;simp only[List.mem_cons,List.not_mem_nil,or_false,List.cons_append,List.nil_append] at hx;rcases hx with rfl|rfl
  ·
   rfl
  ·
   exact gk _ (by simp)
 ·
  rw[e];simp
 ·
  rw[es];exact gapB_one (by decide) (by decide) _
 ·
  rw[es];simp only[lA,lB,lC,blz];omega
 ·
  have hk9:∀ j,j < 1→([107]:List Int).getD j 0=107→(([107]:List Int).take j).count 107 < 1:=by decide
  exact hk9
theorem sy30 (p:PE) (kids alts:GE) (ks rs:List (List Int)) (hk:p.k=20) (hn:p.n=4) (hf:fitV ⟨#[107,107]⟩ p kids alts=true) (h1:ks.length=kids.len) (h2:rs.length=alts.len) (gk:∀ x ∈ ks,gapB x=true) (ga:∀ x ∈ rs,gapB x=true):TxF [112,117,116] [107,107] p ks rs∧NdF p kids.len alts.len:=by
 rw[fit4] at hf;simp only[Bool.and_eq_true,decide_eq_true_eq,Bool.true_and,Bool.not_eq_true',decide_eq_false_iff_not] at hf;obtain ⟨⟨⟨⟨f1,f2⟩,f3⟩,f4⟩,f5⟩:=hf;obtain ⟨k,n,name,arg,lit⟩:=p;simp only at *;subst hk;subst hn;obtain rfl:=nil_of0 f1;obtain rfl:=nil_of0 f2;obtain rfl:=nil_of0 f3;obtain rfl:=nil_of0 (show rs.length=0 by omega);obtain ⟨a,b,rfl⟩:=two_of (show ks.length=2 by omega)
 have e:inB2 [112,117,116] [107,107] ⟨20,4,[],[],[]⟩ [a,b] []=[[112,117,116],a,b]:=by simp [inB2,wdB,itsB,itB,nxB]
 have es:saY ⟨20,4,[],[],[]⟩ [a,b] []=[40]++[112,117,116]++(32::a)++(32::b)++[41]:=by simp [saY,headB,nmB,opsB,capsB,kindsB,blz]
 refine ⟨⟨?_,?_,?_,?_,?_,?_,by decide⟩,⟨by simp,by simp,by simp,by simp,by simp,by simp,by simp,by simp,by simp,by simp⟩⟩
 ·
  unfold noX;rw[e,es];simp [joinZ,blz]
 ·
  rw[e];intro x hx;simp only[List.mem_cons,List.not_mem_nil,or_false,List.cons_append,List.nil_append] at hx;rcases hx with rfl|rfl|rfl
  ·
   rfl
  ·
   exact gk _ (by simp)
  ·
   exact gk _ (by simp)
 ·
  rw[e];simp
 ·
  rw[es];exact gapB_one (by decide) (by decide) _
 ·
  rw[es];simp only[lA,lB,lC,blz];omega
 ·
  have hk9:∀ j,j < 2→([107,107]:List Int).getD j 0=107→(([107,107]:List Int).take j).count 107 < 2:=by decide
  exact hk9
theorem okN_text {p:PE} {kids alts:GE} {ks rs:List (List Int)} (h:okN p kids alts=true) (h1:ks.length=kids.len) (h2:rs.length=alts.len) (gk:∀ x ∈ ks,gapB x=true) (ga:∀ x ∈ rs,gapB x=true):TxF (frmW p.k p.n) (frmS p.k p.n) p ks rs∧NdF p kids.len alts.len:=by
 obtain ⟨f,hf,hfit,hR⟩:=okN_form h;obtain ⟨hm,hk,hn⟩:=form_mem hf;unfold frmW frmS;rw[hR];clear hf hR h;simp only[formsL,List.mem_cons,List.not_mem_nil,or_false] at hm;rcases hm with rfl|rfl|rfl|rfl|rfl|rfl|rfl|rfl|rfl|rfl|rfl|rfl|rfl|rfl|rfl|rfl|rfl|rfl|rfl|rfl|rfl|rfl|rfl|rfl|rfl|rfl|rfl|rfl|rfl|rfl|rfl
 ·
  exact sy0 p kids alts ks rs hk.symm (hn.resolve_right (by rw[show hasB ⟨#[]⟩ 105=false by kernel_rfl];simp)).symm hfit h1 h2 gk ga
 ·
  exact sy1 p kids alts ks rs hk.symm hfit h1 h2 gk ga
 ·
  exact sy2 p kids alts ks rs hk.symm (hn.resolve_right (by rw[show hasB ⟨#[116]⟩ 105=false by kernel_rfl];simp)).symm hfit h1 h2 gk ga
 ·
  exact sy3 p kids alts ks rs hk.symm (hn.resolve_right (by rw[show hasB ⟨#[110]⟩ 105=false by kernel_rfl];simp)).symm hfit h1 h2 gk ga
 ·
  exact sy4 p kids alts ks rs hk.symm (hn.resolve_right (by rw[show hasB ⟨#[110,107]⟩ 105=false by kernel_rfl];simp)).symm hfit h1 h2 gk ga
 ·
  exact sy5 p kids alts ks rs hk.symm (hn.resolve_right (by rw[show hasB ⟨#[107,107]⟩ 105=false by kernel_rfl];simp)).symm hfit h1 h2 gk ga
 ·
  exact sy6 p kids alts ks rs hk.symm (hn.resolve_right (by rw[show hasB ⟨#[110,107,107]⟩ 105=false by kernel_rfl];simp)).symm hfit h1 h2 gk ga
 ·
  exact sy7 p kids alts ks rs hk.symm (hn.resolve_right (by rw[show hasB ⟨#[110,97,107,107]⟩ 105=false by kernel_rfl];simp)).symm hfit h1 h2 gk ga
 ·
  exact sy8 p kids alts ks rs hk.symm (hn.resolve_right (by rw[show hasB ⟨#[107,107,107]⟩ 105=false by kernel_rfl];simp)).symm hfit h1 h2 gk ga
 ·
  exact sy9 p kids alts ks rs hk.symm (hn.resolve_right (by rw[show hasB ⟨#[107,107]⟩ 105=false by kernel_rfl];simp)).symm hfit h1 h2 gk ga
 ·
  exact sy10 p kids alts ks rs hk.symm (hn.resolve_right (by rw[show hasB ⟨#[107]⟩ 105=false by kernel_rfl];simp)).symm hfit h1 h2 gk ga
 ·
  exact sy11 p kids alts ks rs hk.symm (hn.resolve_right (by rw[show hasB ⟨#[107]⟩ 105=false by kernel_rfl];simp)).symm hfit h1 h2 gk ga
 ·
  exact sy12 p kids alts ks rs hk.symm (hn.resolve_right (by rw[show hasB ⟨#[107]⟩ 105=false by kernel_rfl];simp)).symm hfit h1 h2 gk ga
 ·
  exact sy13 p kids alts ks rs hk.symm (hn.resolve_right (by rw[show hasB ⟨#[107]⟩ 105=false by kernel_rfl];simp)).symm hfit h1 h2 gk ga
 ·
  exact sy14 p kids alts ks rs hk.symm (hn.resolve_right (by rw[show hasB ⟨#[107,107]⟩ 105=false by kernel_rfl];simp)).symm hfit h1 h2 gk ga
 ·
  exact sy15 p kids alts ks rs hk.symm (hn.resolve_right (by rw[show hasB ⟨#[103,102]⟩ 105=false by kernel_rfl];simp)).symm hfit h1 h2 gk ga
 ·
  exact sy16 p kids alts ks rs hk.symm (hn.resolve_right (by rw[show hasB ⟨#[107,109]⟩ 105=false by kernel_rfl];simp)).symm hfit h1 h2 gk ga
 ·
  exact sy17 p kids alts ks rs hk.symm (hn.resolve_right (by rw[show hasB ⟨#[107]⟩ 105=false by kernel_rfl];simp)).symm hfit h1 h2 gk ga
 ·
  exact sy18 p kids alts ks rs hk.symm (hn.resolve_right (by rw[show hasB ⟨#[107,110,107]⟩ 105=false by kernel_rfl];simp)).symm hfit h1 h2 gk ga
 ·
  exact sy19 p kids alts ks rs hk.symm (hn.resolve_right (by rw[show hasB ⟨#[107,107]⟩ 105=false by kernel_rfl];simp)).symm hfit h1 h2 gk ga
 ·
  exact sy20 p kids alts ks rs hk.symm (hn.resolve_right (by rw[show hasB ⟨#[107,107]⟩ 105=false by kernel_rfl];simp)).symm hfit h1 h2 gk ga
 ·
  exact sy21 p kids alts ks rs hk.symm (hn.resolve_right (by rw[show hasB ⟨#[107,107]⟩ 105=false by kernel_rfl];simp)).symm hfit h1 h2 gk ga
 ·
  exact sy22 p kids alts ks rs hk.symm (hn.resolve_right (by rw[show hasB ⟨#[107,107]⟩ 105=false by kernel_rfl];simp)).symm hfit h1 h2 gk ga
 ·
  exact sy23 p kids alts ks rs hk.symm (hn.resolve_right (by rw[show hasB ⟨#[107,107]⟩ 105=false by kernel_rfl];simp)).symm hfit h1 h2 gk ga
 ·
  exact sy24 p kids alts ks rs hk.symm (hn.resolve_right (by rw[show hasB ⟨#[107,107]⟩ 105=false by kernel_rfl];simp)).symm hfit h1 h2 gk ga
 ·
  exact sy25 p kids alts ks rs hk.symm (hn.resolve_right (by rw[show hasB ⟨#[107]⟩ 105=false by kernel_rfl];simp)).symm hfit h1 h2 gk ga
 ·
  exact sy26 p kids alts ks rs hk.symm (hn.resolve_right (by rw[show hasB ⟨#[107]⟩ 105=false by kernel_rfl];simp)).symm hfit h1 h2 gk ga
 ·
  exact sy27 p kids alts ks rs hk.symm (hn.resolve_right (by rw[show hasB ⟨#[]⟩ 105=false by kernel_rfl];simp)).symm hfit h1 h2 gk ga
 ·
  exact sy28 p kids alts ks rs hk.symm (hn.resolve_right (by rw[show hasB ⟨#[107]⟩ 105=false by kernel_rfl];simp)).symm hfit h1 h2 gk ga
 ·
  exact sy29 p kids alts ks rs hk.symm (hn.resolve_right (by rw[show hasB ⟨#[107]⟩ 105=false by kernel_rfl];simp)).symm hfit h1 h2 gk ga
 ·
  exact sy30 p kids alts ks rs hk.symm (hn.resolve_right (by rw[show hasB ⟨#[107,107]⟩ 105=false by kernel_rfl];simp)).symm hfit h1 h2 gk ga
theorem armX_good (hc:List Int) (hv:List (List Int)) (b:List Int):gapB (armX hc hv b)=true:=gapB_one (by decide) (by decide) _
theorem hv_len:∀ (hv:List (List Int)),(∀ x ∈ hv,nameV x=true)→(blz hv).length≤9 * hv.length
 | [],_=>by simp [blz]
 | x::r,h=>by
  have h1:=(nameV_good (h x (List.mem_cons_self ..))).2.1;have h2:=hv_len r (fun y hy=>h y (List.mem_cons_of_mem _ hy));simp only[blz,lA,lB];omega
structure ArF (hc:List Int) (hv:List (List Int)):Prop where
 word:hc.length≠0→gapB hc=true
 short:hc.length≤8
 names:∀ x ∈ hv,gapB x=true
 nlen:∀ x ∈ hv,x.length≤8
 len:(blz hv).length≤27
 few:hv.length≤3
theorem armV_facts {hc:List Int} {hv:List (List Int)} (h:armV hc hv=true):ArF hc hv:=by
 unfold armV at h
 split at h
 ·
  rename_i h0
  have e:hv=[]:=nil_of0 (by simpa using h);subst e;exact ⟨fun h1=>absurd h0 h1,by omega,by simp,by simp,by simp [blz],by simp⟩
 ·
  simp only[Bool.and_eq_true,decide_eq_true_eq,Bool.not_eq_true'] at h;obtain ⟨⟨⟨h1,h2⟩,h3⟩,-⟩:=h;have hw:=wordV_good (by omega) h1
  have hn:∀ x ∈ hv,nameV x=true:=fun x hx=>by
   have:=List.any_eq_false.1 h3 x hx;simpa using this
  exact ⟨fun _=>hw.1,hw.2.1,fun x hx=>(nameV_good (hn x hx)).1,fun x hx=>(nameV_good (hn x hx)).2.1,by have:=hv_len hv hn;omega,h2⟩
theorem armX_len {hc:List Int} {hv:List (List Int)} (h:ArF hc hv) (b:List Int):(armX hc hv b).length≤b.length+39:=by
 have:=h.short;have:=h.len;unfold armX
 split <;> (simp only[lA,lB,lC];omega)
theorem okN_arms {p:PE} {kids alts:GE} (h:okN p kids alts=true):badA alts=false:=by
 obtain ⟨f,hf,hfit,hR⟩:=okN_form h;unfold fitV at hfit;simp only[Bool.and_eq_true] at hfit;have hm:=hfit.2;unfold mfV at hm
 split at hm
 ·
  simp only[Bool.and_eq_true,Bool.not_eq_true'] at hm;exact hm.2
 ·
  exact badA_len (by simpa using hm)
theorem exL_all:∀ (g:GE) (al:Bool) (d:Nat),okG g d=true→(al=true→badA g=false)→(∀ x ∈ exL al g,gapB x=true)∧(blz (exL al g)).length≤100 * g.cnt
 | .nil,al,d,_,_=>⟨by simp [exL],by simp [exL,blz]⟩
 | .cons hc hv p k a r,al,d,h,hb=>by
  simp only[okG,Bool.and_eq_true,decide_eq_true_eq] at h;obtain ⟨⟨⟨⟨h0,h1⟩,h2⟩,h3⟩,h4⟩:=h;have hk:=exL_all k false (d - 1) h2 (by simp);have ha:=exL_all a true (d - 1) h3 (fun _=>okN_arms h1);have hr:=exL_all r al d h4 (fun e=>by have:=hb e;simp only[badA,Bool.or_eq_false_iff] at this;exact this.2);have ht:=(okN_text h1 (exL_len false k) (exL_len true a) hk.1 ha.1).1;have hl:=ht.len;have hg:=ht.gap
  cases al with
  | false =>
   refine ⟨fun x hx=>?_,?_⟩
   ·
    rcases List.mem_cons.1 hx with rfl|hx
    ·
     exact hg
    ·
     exact hr.1 x hx
   ·
    have e:exL false (GE.cons hc hv p k a r)=saY p (exL false k) (exL true a)::exL false r:=rfl;rw[e];simp only[blz,lA,lB,GE.cnt];omega
  | true =>
   have hA:=hb rfl;simp only[badA,Bool.or_eq_false_iff,Bool.not_eq_false'] at hA;have hF:=armV_facts hA.1;refine ⟨fun x hx=>?_,?_⟩
   ·
    rcases List.mem_cons.1 hx with rfl|hx
    ·
     exact armX_good _ _ _
    ·
     exact hr.1 x hx
   ·
    have e:exL true (GE.cons hc hv p k a r)=armX hc hv (saY p (exL false k) (exL true a))::exL true r:=rfl;have:=armX_len hF (saY p (exL false k) (exL true a));rw[e];simp only[blz,lA,lB,GE.cnt];omega
def exX (p:PE) (kids alts:GE):List Int:=saY p (exL false kids) (exL true alts)
theorem exX_all {p:PE} {kids alts:GE} {d:Nat} (h:okE p kids alts d=true):TxF (frmW p.k p.n) (frmS p.k p.n) p (exL false kids) (exL true alts)∧NdF p kids.len alts.len∧(exX p kids alts).length≤60+100 * (kids.cnt+alts.cnt)∧(∀ x ∈ exL false kids,gapB x=true)∧(∀ x ∈ exL true alts,gapB x=true):=by
 simp only[okE,Bool.and_eq_true,decide_eq_true_eq] at h;obtain ⟨⟨⟨h0,h1⟩,h2⟩,h3⟩:=h;have hk:=exL_all kids false (d - 1) h2 (by simp);have ha:=exL_all alts true (d - 1) h3 (fun _=>okN_arms h1);obtain ⟨ht,hn⟩:=okN_text h1 (exL_len false kids) (exL_len true alts) hk.1 ha.1;exact ⟨ht,hn,by unfold exX;have:=ht.len;omega,hk.1,ha.1⟩
end Go.Proofs.YtblbnillilbacaaGreatDoor.By
