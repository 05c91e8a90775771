/-
  No statement is proved here.
-/
import Derived.Test.YtblbnillilbacaaGreatDoorTSba
import Derived.Lib.ItoaLen
import Derived.Laws.AppendOwnNone
namespace Go.Proofs.YtblbnillilbacaaGreatDoor.By
set_option maxRecDepth 100000
set_option maxHeartbeats 16000000
open Go.RowKit
set_option linter.unusedVariables false
set_option linter.unusedSimpArgs false
def decB (n:Nat):List Int:=ofB (Lib.decDigits n)
theorem decB_small {n:Nat} (h:n < 10):decB n=[48+(n:Int)]:=by
 unfold decB;rw[Lib.decDigits,dif_pos h];simp [ofB,UInt8.toNat_ofNat];omega
theorem decB_great {n:Nat} (h:¬ n < 10):decB n=decB (n / 10)++[48+((n % 10:Nat):Int)]:=by
 unfold decB;rw[Lib.decDigits,dif_neg h,ofB_app]
 congr 1
 simp [ofB,UInt8.toNat_ofNat];omega
theorem decB_len:∀ (m n:Nat),n < 10 ^ (m+1)→(decB n).length≤m+1:=by
 intro m
 induction m with
 | zero=>intro n h;rw[decB_small (by omega)];simp
 | succ m ih =>
  intro n h;by_cases h10:n < 10
  ·
   rw[decB_small h10];simp
  ·
   rw[decB_great h10,lA,List.length_singleton];have:=ih (n / 10) (by rw[Nat.div_lt_iff_lt_mul (by decide)];rw[Nat.pow_succ] at h;omega);omega
theorem fits_rangeS {k n:Int} {l:Nat} (h:fitsB k n l=true):0≤k∧k≤7:=by
 by_cases h0:0≤k∧k≤7
 ·
  exact h0
 ·
  rw[fitsx (by omega) (by omega) (by omega) (by omega) (by omega) (by omega) (by omega) (by omega)] at h;cases h
def wordB (k:Int):List Int :=
 if k=0 then [117,110,105,116] else if k=1 then [105,110,116] else if k=2 then [116,101,120,116] else if k=3 then [112,97,105,114] else if k=4 then [102,117,110] else [114,101,102]
theorem fits_num {k n:Int} {l:Nat} (h:fitsB k n l=true):0≤n∧n≤99999∧(k=6→n≤19):=by
 unfold fitsB at h
 split at h
 ·
  simp only[Bool.and_eq_true,decide_eq_true_eq] at h;omega
 ·
  split at h
  ·
   simp only[Bool.and_eq_true,decide_eq_true_eq] at h;omega
  ·
   split at h
   ·
    simp only[Bool.and_eq_true,decide_eq_true_eq] at h;omega
   ·
    split at h
    ·
     simp only[Bool.and_eq_true,decide_eq_true_eq] at h;omega
    ·
     split at h
     ·
      simp only[Bool.and_eq_true,decide_eq_true_eq] at h;omega
     ·
      cases h
theorem wordB_len (k:Int):(wordB k).length≤4:=by unfold wordB;(repeat' split) <;> simp
def VsE (wp:World):List Value→GE→Prop
 | vs,.nil=>vs=[]
 | vs,.cons hc hv p kids alts rest=>(hc=[]∧hv=[])∧∃ (a1:Option Addr) (l1 c1:Nat) (a2:Option Addr) (l2 c2:Nat) (a3:Option Addr) (l3 c3:Nat) (a4:Option Addr) (l4 c4:Nat) (a5:Option Addr) (l5 c5:Nat) (vs':List Value),vs=[.int .i64 p.k,.int .i64 p.n,.slice a1 l1 c1,.slice a2 l2 c2,.slice a3 l3 c3,.slice a4 l4 c4,.slice a5 l5 c5]++vs'∧NdE wp p kids alts a1 l1 c1 a2 l2 c2 a3 l3 c3 a4 l4 c4 a5 l5 c5∧VsE wp vs' rest
theorem VsE.le {w u:World} (k:CLe w u):∀ {g:GE} {vs:List Value},VsE w vs g→VsE u vs g
 | .nil,_,h=>h
 | .cons hc hv p kids alts rest,_,h=>by
  obtain ⟨he,a1,l1,c1,a2,l2,c2,a3,l3,c3,a4,l4,c4,a5,l5,c5,vs',e,hn,hr⟩:=h;exact ⟨he,a1,l1,c1,a2,l2,c2,a3,l3,c3,a4,l4,c4,a5,l5,c5,vs',e,hn.le k,hr.le k⟩
theorem VsE.app {w:World}:∀ {P Q:GE} {vs us:List Value},VsE w vs P→VsE w us Q→VsE w (vs++us) (P.app Q)
 | .nil,Q,vs,us,h,k=>by rw[show vs=[] from h];exact k
 | .cons hc hv p kids alts rest,Q,vs,us,h,k=>by
  obtain ⟨he,a1,l1,c1,a2,l2,c2,a3,l3,c3,a4,l4,c4,a5,l5,c5,vs',e,hn,hr⟩:=h;exact ⟨he,a1,l1,c1,a2,l2,c2,a3,l3,c3,a4,l4,c4,a5,l5,c5,vs'++us,by rw[e,List.append_assoc],hn,hr.app k⟩
theorem VsE.len {w:World}:∀ {g:GE} {vs:List Value},VsE w vs g→vs.length=g.len * 7
 | .nil,vs,h=>by rw[show vs=[] from h];simp [GE.len]
 | .cons hc hv p kids alts rest,vs,h=>by
  obtain ⟨he,a1,l1,c1,a2,l2,c2,a3,l3,c3,a4,l4,c4,a5,l5,c5,vs',e,hn,hr⟩:=h;have:=hr.len;rw[e];simp only[lA,lB,lC,GE.len];omega
theorem VsE.one {w:World}:∀ {g:GE} {vs:List Value},VsE w vs g→∀ u ∈ vs,u.oneCell' = true
 | .nil,vs,h=>by rw[show vs=[] from h];intro u hu;simp at hu
 | .cons hc hv p kids alts rest,vs,h=>by
  obtain ⟨he,a1,l1,c1,a2,l2,c2,a3,l3,c3,a4,l4,c4,a5,l5,c5,vs',e,hn,hr⟩:=h;intro u hu;rw[e] at hu;rcases List.mem_append.1 hu with hu|hu
  ·
   simp only[List.mem_cons,List.not_mem_nil,or_false] at hu;rcases hu with rfl|rfl|rfl|rfl|rfl|rfl|rfl <;> rfl
  ·
   exact hr.one u hu
theorem InGE.vs {w wp:World}:∀ {g:GE} {b o:Nat},InGE w wp false g b o→∃ vs,VsE wp vs g∧∀ j u,vs[j]? = some u→w.cell? ⟨b,o+j,none⟩=some u
 | .nil,b,o,_=>⟨[],rfl,fun j u hu=>by simp at hu⟩
 | .cons hc hv p kids alts rest,b,o,h=>by
  obtain ⟨he,a1,l1,c1,a2,l2,c2,a3,l3,c3,a4,l4,c4,a5,l5,c5,⟨k0,k1,k2,k3,k4,k5,k6⟩,hn,hr⟩:=h.kid;obtain ⟨vs',h1,h2⟩:=hr.vs;refine ⟨[.int .i64 p.k,.int .i64 p.n,.slice a1 l1 c1,.slice a2 l2 c2,.slice a3 l3 c3,.slice a4 l4 c4,.slice a5 l5 c5]++vs',⟨he,a1,l1,c1,a2,l2,c2,a3,l3,c3,a4,l4,c4,a5,l5,c5,vs',rfl,hn,h1⟩,fun j u hu=>?_⟩
  match j,hu with
  | 0,hu=>obtain rfl:=Option.some.inj hu;exact k0
  | 1,hu=>obtain rfl:=Option.some.inj hu;exact k1
  | 2,hu=>obtain rfl:=Option.some.inj hu;exact k2
  | 3,hu=>obtain rfl:=Option.some.inj hu;exact k3
  | 4,hu=>obtain rfl:=Option.some.inj hu;exact k4
  | 5,hu=>obtain rfl:=Option.some.inj hu;exact k5
  | 6,hu=>obtain rfl:=Option.some.inj hu;exact k6
  | j+7,hu =>
   have:=h2 j u (by simpa using hu);rw[show o+(j+7)=o+7+j by omega];exact this
theorem VsE.into {w wp:World}:∀ {g:GE} {vs:List Value} {b o:Nat},VsE wp vs g→(∀ j u,vs[j]? = some u→w.cell? ⟨b,o+j,none⟩=some u)→InGE w wp false g b o
 | .nil,_,_,_,_,_=>trivial
 | .cons hc hv p kids alts rest,vs,b,o,h,hc'=>by
  obtain ⟨he,a1,l1,c1,a2,l2,c2,a3,l3,c3,a4,l4,c4,a5,l5,c5,vs',e,hn,hr⟩:=h;subst e;refine ⟨.inl ⟨rfl,he⟩,⟨a1,l1,c1,a2,l2,c2,a3,l3,c3,a4,l4,c4,a5,l5,c5,⟨hc' 0 _ rfl,hc' 1 _ rfl,hc' 2 _ rfl,hc' 3 _ rfl,hc' 4 _ rfl,hc' 5 _ rfl,hc' 6 _ rfl⟩,hn⟩,hr.into (fun j u hu=>?_)⟩;have:=hc' (j+7) u (by simpa using hu);rw[show o+(j+7)=o+7+j by omega] at this;exact this
theorem owns_none {w u:World} {B:Nat} {t:TypeId} {s:Nat} {v:Value} {n:Nat} {xs:List Value} (h:w.ownsRow B t s v n xs) (k:w.grownBy u none):u.ownsRow B t s v n xs:=by
 obtain ⟨h1,h2⟩:=h;refine ⟨h1,?_⟩;rcases h2 with h2|⟨g,cap,cur,hv,hb,hg,hr⟩
 ·
  exact .inl h2
 ·
  exact .inr ⟨g,cap,cur,hv,hb,(k.block g (lt_of_block hg) (by simp)).trans hg,hr⟩
theorem owns_form {w:World} {B:Nat} {t:TypeId} {s:Nat} {v:Value} {n:Nat} {xs:List Value} (h:w.ownsRow B t s v n xs):∃ a c,v = .slice a n c:=by
 rcases h.2 with ⟨rfl,rfl⟩|⟨g,cap,cur,rfl,_⟩
 ·
  exact ⟨_,_,rfl⟩
 ·
  exact ⟨_,_,rfl⟩
theorem owns_into {w u u':World} {t:TypeId} {s:Nat} {v:Value} {n:Nat} {xs:List Value} (h:u.ownsRow w.heap.size t s v n xs) (g:w.grownBy u none) (k:u.grownBy u' v.ownBlock):w.grownBy u' none:=by
 rcases h.2 with ⟨rfl,rfl⟩|⟨b,cap,cur,rfl,hb,_⟩
 ·
  exact gtr g k
 ·
  exact grown_into g k hb
theorem owns_list {w u:World} {B:Nat} {v:Value} {n:Nat} {xs:List Value} {g:GE} (h:u.ownsRow B 36 7 v n xs) (hv:VsE w xs g) (k:w.grownBy u none) (hn:n≤1048576):∃ a c,v = .slice a n c∧SlGE u false a n c g:=by
 have hl:=hv.len;obtain ⟨h1,h2⟩:=h
 have hg:g.len=n:=by omega
 rcases h2 with ⟨rfl,rfl⟩|⟨b,cap,cur,rfl,hb,hh,hnc,hcm,hsz,ht⟩
 ·
  exact ⟨none,0,rfl,hg,by omega,⟨Nat.le_refl _,fun _=>rfl⟩,.inl rfl⟩
 ·
  refine ⟨_,cap,rfl,hg,by omega,⟨hnc,fun e=>by cases e⟩,.inr ⟨b,0,rfl,(hv.le (CLe.grown k)).into (fun j x hx=>?_)⟩⟩
  have hj:j < n * 7:=by have:=(List.getElem?_eq_some_iff.1 hx).1;omega
  rw[Nat.zero_add,cell_of_row _ _ _ _ _ _ hh,← Array.getElem?_toList];rw[← ht,List.getElem?_take_of_lt hj] at hx;exact hx
theorem noneE (w:World):w.ownsRow w.heap.size 36 7 (.slice none 0 0) 0 []:=⟨rfl,.inl ⟨rfl,rfl⟩⟩
theorem freshE (g:GE) (a:Option Addr) (l c:Nat) (w:World) (h:SlGE w false a l c g) (hl:l≤1048576) :
  Calls Tryz.prog 139 #[.slice a l c] w fun e u=>∃ v vs,e = .returned v∧w.grownBy u none∧u.ownsRow w.heap.size 36 7 v l vs∧VsE w vs g:=by
 obtain ⟨i0,hi,hz0,hz1,hz2⟩:=info_parts infoGE;have HO:Hid _:=noneE w;obtain ⟨hgl,-,⟨hlc,hnil⟩,h3⟩:=h;by_cases h0:l=0
 ·
  subst h0;obtain rfl:=GE.nil_of_len hgl
  cases a with
  | none =>
   obtain rfl:=hnil rfl;clear h3
   have q:Calls Tryz.prog 139 #[.slice none 0 0] w fun e w'=>e = .returned (.slice none 0 0)∧w' = w:=by
    go_enter Tryz.func139,Tryz.ntmps139;go_wp2_with (at_builtin;go_must (refine wpList_append_own_none rfl (.const (.slice none 0 0)) (.tmp 3) 33 rfl w.heap.size 36 i0 7 Tryz.underlying33 hi (.slice none 0 0) 0 [] rfl HO.out rfl ?_));go_wp2;go_ret;exact ⟨rfl,rfl⟩
   refine q.mono ?_;rintro e w' ⟨rfl,rfl⟩;exact ⟨_,[],rfl,grf _ _,HO.out,rfl⟩
  | some ad =>
   clear h3;go_enter Tryz.func139,Tryz.ntmps139;go_wp2_with (at_builtin;go_must (refine wpList_append_own _ rfl (.const (.slice none 0 0)) (.tmp 3) 33 rfl w.heap.size 36 i0 (.agg #[.int .i64 0,.int .i64 0,.slice none 0 0,.slice none 0 0,.slice none 0 0,.slice none 0 0,.slice none 0 0]) 7 136 Tryz.underlying33 hi hz0 hz1 hz2 rfl (by decide) (.slice none 0 0) 0 [] rfl HO.out ad 0 c [] rfl rfl (fun j u hu=>by simp at hu) (fun u hu=>by simp at hu) (by simp [maxLen]) (by omega) (Nat.le_refl _) ?_));intro v w' ho hg _;have FO:Hid (w.grownBy w' none∧w'.ownsRow w.heap.size 36 7 v 0 []):=⟨by simpa [Value.ownBlock] using hg,by simpa using ho⟩;clear ho hg HO;go_wp2;go_ret;exact ⟨_,[],rfl,FO.out.1,FO.out.2,rfl⟩
 rcases h3 with h3|⟨b,o,rfl,hin⟩
 ·
  exact absurd h3 h0
 obtain ⟨vs,hv,hcs⟩:=hin.vs
 have HN:Hid (∀ j u,vs[j]? = some u→w.cell? ((⟨b,o,none⟩:Addr).add j)=some u):=fun j u hu=>by rw[Go.WideShapes.add_plain];exact hcs j u hu
 have HL:Hid (vs.length=l * 7):=by show _=_;rw[hv.len,hgl]
 have H1:Hid _:=hv.one;have HV:Hid (VsE w vs g):=hv;clear hcs hv hin;go_enter Tryz.func139,Tryz.ntmps139;go_wp2_with (at_builtin;go_must (refine wpList_append_own _ rfl (.const (.slice none 0 0)) (.tmp 3) 33 rfl w.heap.size 36 i0 (.agg #[.int .i64 0,.int .i64 0,.slice none 0 0,.slice none 0 0,.slice none 0 0,.slice none 0 0,.slice none 0 0]) 7 136 Tryz.underlying33 hi hz0 hz1 hz2 rfl (by decide) (.slice none 0 0) 0 [] rfl HO.out ⟨b,o,none⟩ l c vs rfl HL.out HN.out H1.out (by simp [maxLen];omega) (by omega) (Nat.le_refl _) ?_));intro v w' ho hg _;have FO:Hid (w.grownBy w' none∧w'.ownsRow w.heap.size 36 7 v l vs):=⟨by simpa [Value.ownBlock] using hg,by simpa using ho⟩;clear ho hg HO HN HL H1;go_wp2;go_ret;exact ⟨_,vs,rfl,FO.out.1,FO.out.2,HV.out⟩
def TlA (w:World) (a:Option Addr) (j l:Nat) (g:GE):Prop:=g.len+j=l∧(g = .nil∨∃ b o,a=some ⟨b,o,none⟩∧InGE w w true g b (o+j * 9))
theorem SlGE.tlA {w:World} {a:Option Addr} {l c:Nat} {g:GE} (h:SlGE w true a l c g):TlA w a 0 l g:=by
 refine ⟨h.1,?_⟩;rcases h.cases with ⟨-,e⟩|⟨b,o,e,hin,-⟩
 ·
  exact .inl e
 ·
  exact .inr ⟨b,o,e,by simpa using hin⟩
def bod:GE→GE
 | .nil=>.nil
 | .cons _ _ p k a r=>.cons [] [] p k a (bod r)
theorem bod_len:∀ g:GE,(bod g).len=g.len
 | .nil=>rfl
 | .cons _ _ p k a r=>by simp [bod,GE.len,bod_len r]
theorem bod_app:∀ f g:GE,bod (f.app g)=(bod f).app (bod g)
 | .nil,g=>rfl
 | .cons _ _ p k a r,g=>by simp [bod,GE.app,bod_app r g]
theorem partsOfT (p:PE) (kids alts:GE) (a1:Option Addr) (l1 c1:Nat) (a2:Option Addr) (l2 c2:Nat) (a3:Option Addr) (l3 c3:Nat) (a4:Option Addr) (l4 c4:Nat) (a5:Option Addr) (l5 c5:Nat) (w:World) (h:NdE w p kids alts a1 l1 c1 a2 l2 c2 a3 l3 c3 a4 l4 c4 a5 l5 c5) (hl:l4+l5≤1048576) :
  Calls Tryz.prog 103 #[.agg #[.int .i64 p.k,.int .i64 p.n,.slice a1 l1 c1,.slice a2 l2 c2,.slice a3 l3 c3,.slice a4 l4 c4,.slice a5 l5 c5]] w fun e u=>∃ a c,e = .returned (.slice a (l4+l5) c)∧w.grownBy u none∧SlGE u false a (l4+l5) c (kids.app (bod alts)):=by
 obtain ⟨i0,hi,hz0,hz1,hz2⟩:=info_parts infoGE;have g0:=gal w (.cells #[.int .i64 p.k,.int .i64 p.n,.slice a1 l1 c1,.slice a2 l2 c2,.slice a3 l3 c3,.slice a4 l4 c4,.slice a5 l5 c5] 36) none;have b0:=heap_alloc_new w (.cells #[.int .i64 p.k,.int .i64 p.n,.slice a1 l1 c1,.slice a2 l2 c2,.slice a3 l3 c3,.slice a4 l4 c4,.slice a5 l5 c5] 36);have L0:Hid (w.grownBy _ none∧_=some (Obj.cells #[.int .i64 p.k,.int .i64 p.n,.slice a1 l1 c1,.slice a2 l2 c2,.slice a3 l3 c3,.slice a4 l4 c4,.slice a5 l5 c5] 36)):=⟨g0,b0⟩;have C0:Hid _:=freshE kids a4 l4 c4 _ (h.2.2.2.1.none g0) (by omega);have HA:Hid (SlGE w true a5 l5 c5 alts):=h.2.2.2.2;obtain ⟨⟨y0,y1,y2,y3,y4,y5,y6⟩,-⟩:=blkE b0;clear g0 b0 h;go_enter Tryz.func103,Tryz.ntmps103;go_wp2_with fail;refine Calls.mono C0.out ?_;rintro e u0 ⟨v,vs,rfl,hg,ho,hv⟩;obtain ⟨av,cv,rfl⟩:=owns_form ho
 have es:(w.alloc (.cells #[.int .i64 p.k,.int .i64 p.n,.slice a1 l1 c1,.slice a2 l2 c2,.slice a3 l3 c3,.slice a4 l4 c4,.slice a5 l5 c5] 36)).heap.size=w.heap.size+1:=by simp
 have L1:Hid (w.grownBy (w.alloc (.cells #[.int .i64 p.k,.int .i64 p.n,.slice a1 l1 c1,.slice a2 l2 c2,.slice a3 l3 c3,.slice a4 l4 c4,.slice a5 l5 c5] 36)) none∧(w.alloc (.cells #[.int .i64 p.k,.int .i64 p.n,.slice a1 l1 c1,.slice a2 l2 c2,.slice a3 l3 c3,.slice a4 l4 c4,.slice a5 l5 c5] 36)).grownBy u0 none∧u0.heap[w.heap.size]? = some (Obj.cells #[.int .i64 p.k,.int .i64 p.n,.slice a1 l1 c1,.slice a2 l2 c2,.slice a3 l3 c3,.slice a4 l4 c4,.slice a5 l5 c5] 36)):=⟨L0.out.1,hg,(hg.block _ (lt_of_block L0.out.2) (by simp)).trans L0.out.2⟩;have HV:Hid (VsE (w.alloc (.cells #[.int .i64 p.k,.int .i64 p.n,.slice a1 l1 c1,.slice a2 l2 c2,.slice a3 l3 c3,.slice a4 l4 c4,.slice a5 l5 c5] 36)) vs kids∧u0.ownsRow (w.alloc (.cells #[.int .i64 p.k,.int .i64 p.n,.slice a1 l1 c1,.slice a2 l2 c2,.slice a3 l3 c3,.slice a4 l4 c4,.slice a5 l5 c5] 36)).heap.size 36 7 (.slice av l4 cv) l4 vs):=⟨hv,ho⟩;clear C0 L0 hg ho hv es y0 y1 y2 y3 y4 y5 y6
 generalize w.alloc (.cells #[.int .i64 p.k,.int .i64 p.n,.slice a1 l1 c1,.slice a2 l2 c2,.slice a3 l3 c3,.slice a4 l4 c4,.slice a5 l5 c5] 36)=W0 at *;have HT:Hid (TlA W0 a5 0 l5 alts):=(HA.out.none L1.out.1).tlA;clear HA;obtain ⟨⟨y0,y1,y2,y3,y4,y5,y6⟩,-⟩:=blkE L1.out.2.2;simp only[];go_wp2;clear y0 y1 y2 y3 y4 y5 y6
 go_loopw [3,12] (fun v i wr=>∃ (j:Nat) (P R:GE) (av:Option Addr) (cv:Nat) (vs:List Value),j≤l5∧i = .int .i64 j∧v = .slice av (l4+j) cv∧Hid (P.len=j∧W0.grownBy wr none∧wr.ownsRow W0.heap.size 36 7 (.slice av (l4+j) cv) (l4+j) vs∧VsE W0 vs (kids.app (bod P))∧P.app R=alts∧TlA W0 a5 j l5 R)) (fun _ i _=>l5 - (intOf i).toNat)
 case atStart=>exact ⟨0,.nil,alts,av,cv,vs,Nat.zero_le _,rfl,rfl,rfl,L1.out.2.1,HV.out.2,by simpa [bod,GE.app_nil] using HV.out.1,rfl,HT.out⟩
 case round =>
  clear HV HT;obtain ⟨j,P,R,av,cv,vs,hj,rfl,rfl,HR⟩:=hrel;by_cases hlt:j < l5
  ·
   obtain ⟨hPl,hg,ho,hv,hPR,hRl,hR⟩:=HR.out;obtain ⟨q',hq'⟩:∃ q',R.len=q' + 1:=⟨R.len - 1,by omega⟩;rcases hR with rfl|⟨b,o,ea,hin⟩
   ·
    simp [GE.len] at hq'
   obtain ⟨hc,hv2,pp,kk,aa,R',rfl,hR'⟩:=GE.cons_of_len hq';obtain ⟨e0,q0,d0,e1,q1,d1,b1,m1,n1,b2,m2,n2,b3,m3,n3,b4,m4,n4,b5,m5,n5,hh,hgd,hcel,hnd,hR2⟩:=hin.alt;rw[show o+j * 9+9=o+(j+1) * 9 by omega] at hR2;obtain ⟨x0,x1⟩:=hh.le (CLe.grown hg);obtain ⟨k0,k1,k2,k3,k4,k5,k6⟩:=hcel.le (CLe.grown hg);have ga:=gal wr (.cells #[.slice e0 q0 d0,.slice e1 q1 d1,.int .i64 pp.k,.int .i64 pp.n,.slice b1 m1 n1,.slice b2 m2 n2,.slice b3 m3 n3,.slice b4 m4 n4,.slice b5 m5 n5] 87) none;have gb:=gal (wr.alloc (.cells #[.slice e0 q0 d0,.slice e1 q1 d1,.int .i64 pp.k,.int .i64 pp.n,.slice b1 m1 n1,.slice b2 m2 n2,.slice b3 m3 n3,.slice b4 m4 n4,.slice b5 m5 n5] 87)) (.cells #[.int .i64 pp.k,.int .i64 pp.n,.slice b1 m1 n1,.slice b2 m2 n2,.slice b3 m3 n3,.slice b4 m4 n4,.slice b5 m5 n5] 36) none;have bb:=heap_alloc_new (wr.alloc (.cells #[.slice e0 q0 d0,.slice e1 q1 d1,.int .i64 pp.k,.int .i64 pp.n,.slice b1 m1 n1,.slice b2 m2 n2,.slice b3 m3 n3,.slice b4 m4 n4,.slice b5 m5 n5] 87)) (.cells #[.int .i64 pp.k,.int .i64 pp.n,.slice b1 m1 n1,.slice b2 m2 n2,.slice b3 m3 n3,.slice b4 m4 n4,.slice b5 m5 n5] 36)
   have s1:(wr.alloc (.cells #[.slice e0 q0 d0,.slice e1 q1 d1,.int .i64 pp.k,.int .i64 pp.n,.slice b1 m1 n1,.slice b2 m2 n2,.slice b3 m3 n3,.slice b4 m4 n4,.slice b5 m5 n5] 87)).heap.size=wr.heap.size+1:=by simp
   rw[s1] at bb;have HO:Hid (((wr.alloc (.cells #[.slice e0 q0 d0,.slice e1 q1 d1,.int .i64 pp.k,.int .i64 pp.n,.slice b1 m1 n1,.slice b2 m2 n2,.slice b3 m3 n3,.slice b4 m4 n4,.slice b5 m5 n5] 87)).alloc (.cells #[.int .i64 pp.k,.int .i64 pp.n,.slice b1 m1 n1,.slice b2 m2 n2,.slice b3 m3 n3,.slice b4 m4 n4,.slice b5 m5 n5] 36)).ownsRow W0.heap.size 36 7 (.slice av (l4+j) cv) (l4+j) vs):=owns_none (owns_none ho ga) gb
   have NW:Hid (∀ i u,[.int .i64 pp.k,.int .i64 pp.n,.slice b1 m1 n1,.slice b2 m2 n2,.slice b3 m3 n3,.slice b4 m4 n4,.slice b5 m5 n5][i]? = some u→((wr.alloc (.cells #[.slice e0 q0 d0,.slice e1 q1 d1,.int .i64 pp.k,.int .i64 pp.n,.slice b1 m1 n1,.slice b2 m2 n2,.slice b3 m3 n3,.slice b4 m4 n4,.slice b5 m5 n5] 87)).alloc (.cells #[.int .i64 pp.k,.int .i64 pp.n,.slice b1 m1 n1,.slice b2 m2 n2,.slice b3 m3 n3,.slice b4 m4 n4,.slice b5 m5 n5] 36)).cell? ((⟨wr.heap.size+1,0,none⟩:Addr).add i)=some u):=fun i u hu=>by
    rw[Go.WideShapes.add_plain,Nat.zero_add,cell_of_row _ _ _ _ _ _ bb,← Array.getElem?_toList];exact hu
   have N1:Hid (∀ u ∈ [.int .i64 pp.k,.int .i64 pp.n,.slice b1 m1 n1,.slice b2 m2 n2,.slice b3 m3 n3,.slice b4 m4 n4,.slice b5 m5 n5],Value.oneCell' u=true):=fun u hu=>by
    simp only[List.mem_cons,List.not_mem_nil,or_false] at hu;rcases hu with rfl|rfl|rfl|rfl|rfl|rfl|rfl <;> rfl
   have VN:Hid (VsE W0 (vs++[.int .i64 pp.k,.int .i64 pp.n,.slice b1 m1 n1,.slice b2 m2 n2,.slice b3 m3 n3,.slice b4 m4 n4,.slice b5 m5 n5]) (kids.app (bod (P.app (.cons hc hv2 pp kk aa .nil))))):=by
    show VsE _ _ _
    rw[bod_app,← GE.app_assoc];exact hv.app ⟨⟨rfl,rfl⟩,b1,m1,n1,b2,m2,n2,b3,m3,n3,b4,m4,n4,b5,m5,n5,[],rfl,hnd,rfl⟩
   have FX:Hid ((P.app (.cons hc hv2 pp kk aa .nil)).len=j+1∧W0.grownBy ((wr.alloc (.cells #[.slice e0 q0 d0,.slice e1 q1 d1,.int .i64 pp.k,.int .i64 pp.n,.slice b1 m1 n1,.slice b2 m2 n2,.slice b3 m3 n3,.slice b4 m4 n4,.slice b5 m5 n5] 87)).alloc (.cells #[.int .i64 pp.k,.int .i64 pp.n,.slice b1 m1 n1,.slice b2 m2 n2,.slice b3 m3 n3,.slice b4 m4 n4,.slice b5 m5 n5] 36)) none∧(P.app (.cons hc hv2 pp kk aa .nil)).app R' = alts∧TlA W0 a5 (j+1) l5 R'∧W0.heap.size≤((wr.alloc (.cells #[.slice e0 q0 d0,.slice e1 q1 d1,.int .i64 pp.k,.int .i64 pp.n,.slice b1 m1 n1,.slice b2 m2 n2,.slice b3 m3 n3,.slice b4 m4 n4,.slice b5 m5 n5] 87)).alloc (.cells #[.int .i64 pp.k,.int .i64 pp.n,.slice b1 m1 n1,.slice b2 m2 n2,.slice b3 m3 n3,.slice b4 m4 n4,.slice b5 m5 n5] 36)).heap.size):=⟨by rw[GE.app_len,hPl];rfl,gtr (gtr hg ga) gb,by rw[GE.app_assoc];exact hPR,⟨by simp only[GE.len] at hRl;omega,.inr ⟨b,o,ea,hR2⟩⟩,(gtr (gtr hg ga) gb).size⟩
   have EA:Hid _:=ea;clear hPl hg ho hv hPR hRl hin hh hgd hcel hnd hR2 ga gb bb s1 HR;subst ea;go_wp2_with (at_builtin;go_must (refine wpList_append_own _ rfl (.tmp 16) (.tmp 19) 33 rfl W0.heap.size 36 i0 (.agg #[.int .i64 0,.int .i64 0,.slice none 0 0,.slice none 0 0,.slice none 0 0,.slice none 0 0,.slice none 0 0]) 7 136 Tryz.underlying33 hi hz0 hz1 hz2 rfl (by decide) (.slice av (l4+j) cv) (l4+j) vs rfl HO.out ⟨wr.heap.size+1,0,none⟩ 1 1 [.int .i64 pp.k,.int .i64 pp.n,.slice b1 m1 n1,.slice b2 m2 n2,.slice b3 m3 n3,.slice b4 m4 n4,.slice b5 m5 n5] rfl rfl NW.out N1.out (by simp [maxLen];omega) (by omega) FX.out.2.2.2.2 ?_);intro v3 u3 ho3 hg3 hh3);obtain ⟨a3',c3',rfl⟩:=owns_form ho3;have FY:Hid (W0.grownBy u3 none∧u3.ownsRow W0.heap.size 36 7 (.slice a3' (l4+(j+1)) c3') (l4+(j+1)) (vs++[.int .i64 pp.k,.int .i64 pp.n,.slice b1 m1 n1,.slice b2 m2 n2,.slice b3 m3 n3,.slice b4 m4 n4,.slice b5 m5 n5])):=⟨owns_into HO.out FX.out.2.1 hg3,ho3⟩
   clear ho3 hg3 hh3 HO NW N1 x0 x1 k0 k1 k2 k3 k4 k5 k6;go_wp2;go_roundw
   case rel=>exact ⟨j+1,P.app (.cons hc hv2 pp kk aa .nil),R',a3',c3',_,by omega,by go_num,rfl,FX.out.1,FY.out.1,FY.out.2,VN.out,FX.out.2.2.1,FX.out.2.2.2.1⟩
   case measure=>simp [intOf];omega
  ·
   obtain rfl:j=l5:=by omega
   obtain ⟨hPl,hg,ho,hv,hPR,hRl,-⟩:=HR.out;obtain rfl:R = .nil:=GE.nil_of_len (by omega);rw[GE.app_nil] at hPR;subst hPR;obtain ⟨a6,c6,e6,hS⟩:=owns_list ho hv hg (by omega);injection e6 with e7 e8 e9;subst e7 e9;have FQ:Hid (w.grownBy wr none∧SlGE wr false av (l4+j) cv (kids.app (bod P))):=⟨gtr L1.out.1 hg,hS⟩;clear HR hPl hg ho hv hRl hS L1;go_wp2;go_ret;exact ⟨av,cv,rfl,FQ.out.1,FQ.out.2⟩
end Go.Proofs.YtblbnillilbacaaGreatDoor.By
