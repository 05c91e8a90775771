/-
  No statement is proved here.
-/
import Derived.Test.YtblbnillilbacaaGreatDoorNJa
import Derived.Test.YtblbnillilbacaaGreatDoorNHa
namespace Go.Proofs.YtblbnillilbacaaGreatDoor.By
set_option maxRecDepth 100000
set_option maxHeartbeats 16000000
open Go.RowKit
set_option linter.unusedVariables false
set_option linter.unusedSimpArgs false
def c2B (nb:Bool) (k:Int) (name:List Int):Bool:=nb && !decide (k=15) && !nameV name
def c3B (k:Int) (name:List Int) (nk:Nat):Bool:=decide (k=15) && (!wordV 65 90 name || decide (3 < nk))
def c4B (nb ab:Bool) (name arg:List Int):Bool:=(!nb && decide (0 < name.length)) || (ab && (!nameV arg || decide (arg=name))) || (!ab && decide (0 < arg.length))
def c5B (k n:Int):Bool:=(decide (k=1) && !wholeV n) || (!decide (k=1) && !decide (k=19) && !decide (k=20) && !decide (n=0))
def c6B (k:Int) (lit:List Int):Bool:=(decide (k=2) && !litV lit) || (!decide (k=2) && decide (0 < lit.length))
def armsB (k:Int) (na:Nat):Bool:=if k=16 then decide (1≤na) && decide (na≤6) else decide (na=0)
def spN (p:PE) (nk na:Nat):Bool :=
 decide ((shapeV p.k p.n nk).1=(nk:Int)) && !c2B (shapeV p.k p.n nk).2.1 p.k p.name && !c3B p.k p.name nk && !c4B (shapeV p.k p.n nk).2.1 (shapeV p.k p.n nk).2.2 p.name p.arg && !c5B p.k p.n && !c6B p.k p.lit && armsB p.k na
def spG:Bool→GE→Nat→Bool
 | _,.nil,_=>true
 | al,.cons hc hv p kids alts rest,d=>(!al || armV hc hv) && decide (0 < d) && spN p kids.len alts.len && spG false kids (d - 1) && spG true alts (d - 1) && spG al rest d
def spE (p:PE) (kids alts:GE) (d:Nat):Bool:=decide (0 < d) && spN p kids.len alts.len && spG false kids (d - 1) && spG true alts (d - 1)
def spR (p:PE) (kids alts:GE) (d:Nat):Int:=if spE p kids alts d && decide (1+kids.cnt+alts.cnt≤300) then ((1+kids.cnt+alts.cnt:Nat):Int) else -1
theorem spG_app (al:Bool):∀ (f g:GE) (d:Nat),spG al (f.app g) d=(spG al f d && spG al g d)
 | .nil,g,d=>by simp [GE.app,spG]
 | .cons _ _ p k a r,g,d=>by simp only[GE.app,spG,spG_app al r g d,Bool.and_assoc]
theorem spR_cases (p:PE) (kids alts:GE) (d:Nat):(spR p kids alts d = -1∧(spE p kids alts d=false∨300 < 1+kids.cnt+alts.cnt))∨(spR p kids alts d=((1+kids.cnt+alts.cnt:Nat):Int)∧spE p kids alts d=true∧1+kids.cnt+alts.cnt≤300):=by
 unfold spR;by_cases h:(spE p kids alts d && decide (1+kids.cnt+alts.cnt≤300))=true
 ·
  rw[if_pos h];simp only[Bool.and_eq_true,decide_eq_true_eq] at h;exact .inr ⟨rfl,h⟩
 ·
  rw[if_neg h];refine .inl ⟨rfl,?_⟩
  cases he:spE p kids alts d with
  | false=>exact .inl rfl
  | true=>rw[he] at h;simp at h;exact .inr (by omega)
theorem spR_no {p:PE} {kids alts:GE} {d:Nat} (h:spE p kids alts d=true→1+kids.cnt+alts.cnt≤300→False):spR p kids alts d = -1:=by
 rcases spR_cases p kids alts d with h1|h1
 ·
  exact h1.1
 ·
  exact (h h1.2.1 h1.2.2).elim
theorem spE_N {p:PE} {kids alts:GE} {d:Nat} (h:spE p kids alts d=true):(0 < d∧spN p kids.len alts.len=true)∧spG false kids (d - 1)=true∧spG true alts (d - 1)=true:=by
 unfold spE at h;simp only[Bool.and_eq_true,decide_eq_true_eq] at h;exact ⟨⟨h.1.1.1,h.1.1.2⟩,h.1.2,h.2⟩
theorem sp_badK {p pp:PE} {kids alts Pf kk aa R:GE} {hc:List Int} {hv:List (List Int)} {d:Nat} (hPR:Pf.app (.cons hc hv pp kk aa R)=kids) (h:spR pp kk aa (d - 1) = -1∨300 < 1+Pf.cnt+(1+kk.cnt+aa.cnt)):spR p kids alts d = -1:=by
 refine spR_no (fun h1 h2=>?_);obtain ⟨-,h3,-⟩:=spE_N h1;rw[← hPR,spG_app] at h3;simp only[spG,Bool.and_eq_true,decide_eq_true_eq] at h3
 have hc':kids.cnt=Pf.cnt+(1+kk.cnt+aa.cnt+R.cnt):=by rw[← hPR,cnt_app];rfl
 rcases h with h|h
 ·
  rcases spR_cases pp kk aa (d - 1) with h5|h5
  ·
   rcases h5.2 with h6|h6
   ·
    have:spE pp kk aa (d - 1)=true:=by
     unfold spE;simp only[Bool.and_eq_true,decide_eq_true_eq];exact ⟨⟨⟨h3.2.1.1.1.1.2,h3.2.1.1.1.2⟩,h3.2.1.1.2⟩,h3.2.1.2⟩
    rw[this] at h6;cases h6
   ·
    omega
  ·
   rw[h5.1] at h;omega
 ·
  omega
theorem sp_badA {p pp:PE} {kids alts Pf kk aa R:GE} {hc:List Int} {hv:List (List Int)} {d:Nat} (hPR:Pf.app (.cons hc hv pp kk aa R)=alts) (h:armR (armV hc hv) (spR pp kk aa (d - 1)) = -1∨300 < 1+kids.cnt+Pf.cnt+(1+kk.cnt+aa.cnt)):spR p kids alts d = -1:=by
 refine spR_no (fun h1 h2=>?_);obtain ⟨-,-,h3⟩:=spE_N h1;rw[← hPR,spG_app] at h3;simp only[spG,Bool.and_eq_true,decide_eq_true_eq,Bool.not_true,Bool.false_or] at h3
 have hc':alts.cnt=Pf.cnt+(1+kk.cnt+aa.cnt+R.cnt):=by rw[← hPR,cnt_app];rfl
 rcases h with h|h
 ·
  rw[h3.2.1.1.1.1.1] at h;have h:spR pp kk aa (d - 1) = -1:=h;rcases spR_cases pp kk aa (d - 1) with h5|h5
  ·
   rcases h5.2 with h6|h6
   ·
    have:spE pp kk aa (d - 1)=true:=by
     unfold spE;simp only[Bool.and_eq_true,decide_eq_true_eq];exact ⟨⟨⟨h3.2.1.1.1.1.2,h3.2.1.1.1.2⟩,h3.2.1.1.2⟩,h3.2.1.2⟩
    rw[this] at h6;cases h6
   ·
    omega
  ·
   rw[h5.1] at h;omega
 ·
  omega
theorem sp_okK (al:Bool) {pp:PE} {Pf kk aa:GE} {hc:List Int} {hv:List (List Int)} {d:Nat} (hP:spG al Pf d=true) (ha:al=true→armV hc hv=true) (h:spE pp kk aa d=true):spG al (Pf.app (.cons hc hv pp kk aa .nil)) d=true:=by
 rw[spG_app,hP];unfold spE at h;simp only[Bool.and_eq_true,decide_eq_true_eq] at h;simp only[spG,Bool.and_eq_true,decide_eq_true_eq,Bool.true_and,Bool.and_true];refine ⟨⟨⟨⟨?_,h.1.1.1⟩,h.1.1.2⟩,h.1.2⟩,h.2⟩
 cases al with
 | false=>rfl
 | true=>rw[ha rfl];rfl
theorem l5eT_of (d dp:Nat) (hdp:dp+d=41) (ih:∀ d' dp',d=d' + 1→dp' = dp+1→∀ (p:PE) (kids alts:GE) (a1:Option Addr) (l1 c1:Nat) (a2:Option Addr) (l2 c2:Nat) (a3:Option Addr) (l3 c3:Nat) (a4:Option Addr) (l4 c4:Nat) (a5:Option Addr) (l5 c5:Nat) (w:World),NdE w p kids alts a1 l1 c1 a2 l2 c2 a3 l3 c3 a4 l4 c4 a5 l5 c5 →
  Calls Tryz.prog 25 #[.agg #[.int .i64 p.k,.int .i64 p.n,.slice a1 l1 c1,.slice a2 l2 c2,.slice a3 l3 c3,.slice a4 l4 c4,.slice a5 l5 c5],.int .i64 (dp':Nat)] w fun e u=>e = .returned (.int .i64 (spR p kids alts d'))∧w.grownBy u none):∀ (p:PE) (kids alts:GE) (a1:Option Addr) (l1 c1:Nat) (a2:Option Addr) (l2 c2:Nat) (a3:Option Addr) (l3 c3:Nat) (a4:Option Addr) (l4 c4:Nat) (a5:Option Addr) (l5 c5:Nat) (w:World),NdE w p kids alts a1 l1 c1 a2 l2 c2 a3 l3 c3 a4 l4 c4 a5 l5 c5 →
  Calls Tryz.prog 25 #[.agg #[.int .i64 p.k,.int .i64 p.n,.slice a1 l1 c1,.slice a2 l2 c2,.slice a3 l3 c3,.slice a4 l4 c4,.slice a5 l5 c5],.int .i64 (dp:Nat)] w fun e u=>e = .returned (.int .i64 (spR p kids alts d))∧w.grownBy u none:=by
 intro p kids alts a1 l1 c1 a2 l2 c2 a3 l3 c3 a4 l4 c4 a5 l5 c5 w h;obtain ⟨pk,pn,pname,parg,plit⟩:=p;simp only at h ⊢;have g0:=gal w (.cells #[.int .i64 pk,.int .i64 pn,.slice a1 l1 c1,.slice a2 l2 c2,.slice a3 l3 c3,.slice a4 l4 c4,.slice a5 l5 c5] 36) none;have b0:=heap_alloc_new w (.cells #[.int .i64 pk,.int .i64 pn,.slice a1 l1 c1,.slice a2 l2 c2,.slice a3 l3 c3,.slice a4 l4 c4,.slice a5 l5 c5] 36);have IH:Hid _:=ih
 have HS:Hid (∀ u,w.grownBy u none→NdE u ⟨pk,pn,pname,parg,plit⟩ kids alts a1 l1 c1 a2 l2 c2 a3 l3 c3 a4 l4 c4 a5 l5 c5):=fun u hu=>h.none hu
 have hl1:=h.1.1.1;have hl2:=h.2.1.1.1;have hl3:=h.2.2.1.1.1;have hl4:=h.2.2.2.1.1;have hl5:=h.2.2.2.2.1;have hm4:=h.2.2.2.1.2.1;have hm5:=h.2.2.2.2.2.1;have hm1:=h.1.2.2;have hm2:=h.2.1.2.2;have hm3:=h.2.2.1.2.2;simp only at hl1 hl2 hl3;have L0:Hid (w.grownBy _ none∧_=some (Obj.cells #[.int .i64 pk,.int .i64 pn,.slice a1 l1 c1,.slice a2 l2 c2,.slice a3 l3 c3,.slice a4 l4 c4,.slice a5 l5 c5] 36)):=⟨g0,b0⟩;have C0:Hid _:=l5shapeT pk pn (.slice a1 l1 c1) (.slice a2 l2 c2) (.slice a3 l3 c3) (.slice a5 l5 c5) a4 l4 c4 (w.alloc (.cells #[.int .i64 pk,.int .i64 pn,.slice a1 l1 c1,.slice a2 l2 c2,.slice a3 l3 c3,.slice a4 l4 c4,.slice a5 l5 c5] 36));obtain ⟨⟨y0,y1,y2,y3,y4,y5,y6⟩,-⟩:=blkE b0;clear g0 b0 ih h;go_enter Tryz.func25,Tryz.ntmps25;go_wp2_with fail;refine Calls.mono C0.out ?_;rintro e X0 ⟨he,hg⟩
 have HN:Hid (spN ⟨pk,pn,pname,parg,plit⟩ kids.len alts.len=(decide ((shapeV pk pn l4).1=(l4:Int)) && !c2B (shapeV pk pn l4).2.1 pk pname && !c3B pk pname l4 && !c4B (shapeV pk pn l4).2.1 (shapeV pk pn l4).2.2 pname parg && !c5B pk pn && !c6B pk plit && armsB pk l5)):=by show _=_;rw[hl4,hl5];rfl
 generalize shapeV pk pn l4=sh at *;obtain ⟨ks,nb,ab⟩:=sh;simp only at he HN;subst he;have L1:Hid (w.grownBy X0 none∧X0.heap[w.heap.size]? = some (Obj.cells #[.int .i64 pk,.int .i64 pn,.slice a1 l1 c1,.slice a2 l2 c2,.slice a3 l3 c3,.slice a4 l4 c4,.slice a5 l5 c5] 36)):=⟨gtr L0.out.1 hg,(hg.block _ (lt_of_block L0.out.2) (by simp)).trans L0.out.2⟩;clear C0 hg L0 y0 y1 y2 y3 y4 y5 y6;obtain ⟨⟨y0,y1,y2,y3,y4,y5,y6⟩,-⟩:=blkE L1.out.2;simp only[];by_cases hks:ks=(l4:Int)
 rotate_left
 ·
  have E:Hid (spR ⟨pk,pn,pname,parg,plit⟩ kids alts d = -1):=spR_no (fun h1 _=>by have:=(spE_N h1).1.2;rw[HN.out] at this;simp [hks] at this);go_wp2;go_ret;exact ⟨by rw[E.out];rfl,L1.out.1⟩
 subst hks;by_cases hd0:d=0
 ·
  have E:Hid (spR ⟨pk,pn,pname,parg,plit⟩ kids alts d = -1):=spR_no (fun h1 _=>by have:=(spE_N h1).1.1;omega)
  have hdp':(dp:Int) > 40:=by omega
  clear hd0;go_wp2;go_ret;exact ⟨by rw[E.out];rfl,L1.out.1⟩
 have hdp':¬ (dp:Int) > 40:=by omega
 go_upto_region 4 with fail
 go_cut [39] (fun s wx=>s = .bool (c2B nb pk pname)∧Hid (w.grownBy wx none∧wx.heap[w.heap.size]? = some (Obj.cells #[.int .i64 pk,.int .i64 pn,.slice a1 l1 c1,.slice a2 l2 c2,.slice a3 l3 c3,.slice a4 l4 c4,.slice a5 l5 c5] 36)))
 case first=>as_aux_lemma =>
  cases nb with
  | false =>
   go_wp2;go_meet
   case rel=>exact ⟨rfl,L1⟩
  | true =>
   by_cases hk:pk=15
   ·
    subst hk;go_wp2;go_meet
    case rel=>exact ⟨rfl,L1⟩
   ·
    have hkn:(pk != 15)=true:=by simpa using hk
    have hkd:decide (pk=15)=false:=by simpa using hk
    have CC:Hid _:=l5nameT a1 l1 c1 pname X0 (HS.out _ L1.out.1).1;go_wp2_with fail;refine Calls.mono CC.out ?_;rintro e XA ⟨rfl,hg⟩;have LA:Hid (w.grownBy XA none∧XA.heap[w.heap.size]? = some (Obj.cells #[.int .i64 pk,.int .i64 pn,.slice a1 l1 c1,.slice a2 l2 c2,.slice a3 l3 c3,.slice a4 l4 c4,.slice a5 l5 c5] 36)):=⟨gtr L1.out.1 hg,(hg.block _ (lt_of_block L1.out.2) (by simp)).trans L1.out.2⟩;clear CC hg y0 y1 y2 y3 y4 y5 y6;obtain ⟨⟨y0,y1,y2,y3,y4,y5,y6⟩,-⟩:=blkE LA.out.2;simp only[];go_wp2;go_meet
    case rel=>exact ⟨by simp [c2B,hkd],LA⟩
 case rest =>
 obtain ⟨rfl,HC0⟩:=hcut;have L2:Hid (w.grownBy wc none∧wc.heap[w.heap.size]? = some (Obj.cells #[.int .i64 pk,.int .i64 pn,.slice a1 l1 c1,.slice a2 l2 c2,.slice a3 l3 c3,.slice a4 l4 c4,.slice a5 l5 c5] 36)):=HC0.out;clear HC0 L1 y0 y1 y2 y3 y4 y5 y6;generalize wc=X1 at *;obtain ⟨⟨y0,y1,y2,y3,y4,y5,y6⟩,-⟩:=blkE L2.out.2
 cases hc0:c2B nb pk pname with
 | true =>
  have E:Hid (spR ⟨pk,pn,pname,parg,plit⟩ kids alts d = -1):=spR_no (fun h1 _=>by have:=(spE_N h1).1.2;rw[HN.out] at this;simp [hc0] at this);go_wp2;go_ret;exact ⟨by rw[E.out];rfl,L2.out.1⟩
 | false =>
 go_upto_region 6 with fail
 go_cut [54] (fun s wx=>s = .bool (c3B pk pname l4)∧Hid (w.grownBy wx none∧wx.heap[w.heap.size]? = some (Obj.cells #[.int .i64 pk,.int .i64 pn,.slice a1 l1 c1,.slice a2 l2 c2,.slice a3 l3 c3,.slice a4 l4 c4,.slice a5 l5 c5] 36)))
 case first=>as_aux_lemma =>
  by_cases hk:pk=15
  ·
   subst hk;have CC:Hid _:=l5wordT a1 l1 c1 pname true X1 (HS.out _ L2.out.1).1;go_wp2_with fail;refine Calls.mono CC.out ?_;rintro e XA ⟨rfl,hg⟩;have LA:Hid (w.grownBy XA none∧XA.heap[w.heap.size]? = some (Obj.cells #[.int .i64 15,.int .i64 pn,.slice a1 l1 c1,.slice a2 l2 c2,.slice a3 l3 c3,.slice a4 l4 c4,.slice a5 l5 c5] 36)):=⟨gtr L2.out.1 hg,(hg.block _ (lt_of_block L2.out.2) (by simp)).trans L2.out.2⟩;clear CC hg y0 y1 y2 y3 y4 y5 y6;obtain ⟨⟨y0,y1,y2,y3,y4,y5,y6⟩,-⟩:=blkE LA.out.2;simp only[];have eG:wordV (loG true) (hiG true) pname=wordV 65 90 pname:=rfl;rw[eG]
   cases hw:wordV 65 90 pname with
   | false =>
    go_wp2;go_meet
    case rel=>exact ⟨by simp [c3B,hw],LA⟩
   | true =>
    by_cases hq:3 < l4
    ·
     have hq':(l4:Int) > 3:=by omega
     go_wp2;go_meet
     case rel=>exact ⟨by simp [c3B,hw,hq],LA⟩
    ·
     have hq':¬ (l4:Int) > 3:=by omega
     go_wp2;go_meet
     case rel=>exact ⟨by simp [c3B,hw,hq],LA⟩
  ·
   have hkn:(pk == 15)=false:=by simpa using hk
   have hkd:decide (pk=15)=false:=by simpa using hk
   go_wp2;go_meet
   case rel=>exact ⟨by simp [c3B,hkd],L2⟩
 case rest =>
 obtain ⟨rfl,HC1⟩:=hcut;have L3:Hid (w.grownBy wc none∧wc.heap[w.heap.size]? = some (Obj.cells #[.int .i64 pk,.int .i64 pn,.slice a1 l1 c1,.slice a2 l2 c2,.slice a3 l3 c3,.slice a4 l4 c4,.slice a5 l5 c5] 36)):=HC1.out;clear HC1 L2 y0 y1 y2 y3 y4 y5 y6;generalize wc=X2 at *;obtain ⟨⟨y0,y1,y2,y3,y4,y5,y6⟩,-⟩:=blkE L3.out.2
 cases hc1:c3B pk pname l4 with
 | true =>
  have E:Hid (spR ⟨pk,pn,pname,parg,plit⟩ kids alts d = -1):=spR_no (fun h1 _=>by have:=(spE_N h1).1.2;rw[HN.out] at this;simp [hc1] at this);go_wp2;go_ret;exact ⟨by rw[E.out];rfl,L3.out.1⟩
 | false =>
 go_upto_region 8 with fail
 go_cut [90] (fun s wx=>s = .bool (c4B nb ab pname parg)∧Hid (w.grownBy wx none∧wx.heap[w.heap.size]? = some (Obj.cells #[.int .i64 pk,.int .i64 pn,.slice a1 l1 c1,.slice a2 l2 c2,.slice a3 l3 c3,.slice a4 l4 c4,.slice a5 l5 c5] 36)))
 case first=>as_aux_lemma =>
  cases nb with
  | true =>
   cases ab with
   | true =>
    have CC:Hid _:=l5nameT a2 l2 c2 parg X2 (HS.out _ L3.out.1).2.1;go_wp2_with fail;refine Calls.mono CC.out ?_;rintro e XA ⟨rfl,hg⟩;have LA:Hid (w.grownBy XA none∧XA.heap[w.heap.size]? = some (Obj.cells #[.int .i64 pk,.int .i64 pn,.slice a1 l1 c1,.slice a2 l2 c2,.slice a3 l3 c3,.slice a4 l4 c4,.slice a5 l5 c5] 36)):=⟨gtr L3.out.1 hg,(hg.block _ (lt_of_block L3.out.2) (by simp)).trans L3.out.2⟩;clear CC hg y0 y1 y2 y3 y4 y5 y6;obtain ⟨⟨y0,y1,y2,y3,y4,y5,y6⟩,-⟩:=blkE LA.out.2;simp only[]
    cases hn:nameV parg with
    | false =>
     go_wp2;go_meet
     case rel=>exact ⟨by simp [c4B,hn],LA⟩
    | true =>
     have hc1:(convert 23 9 (.slice a2 l2 c2)).run Tryz.prog XA = .ok (.string (strOfNums parg)) XA:=conv_run (HS.out _ LA.out.1).2.1.1;have hc2:(convert 23 9 (.slice a1 l1 c1)).run Tryz.prog XA = .ok (.string (strOfNums pname)) XA:=conv_run (HS.out _ LA.out.1).1.1
     have hcmp:((strOfNums parg).toList == (strOfNums pname).toList)=decide (parg=pname):=by rw[toL_beq,str_eq (HS.out _ LA.out.1).2.1.2.1 (HS.out _ LA.out.1).1.2.1]
     cases he:decide (parg=pname) with
     | true =>
      rw[he] at hcmp;go_wp2;go_meet
      case rel=>exact ⟨by simp [c4B,hn,he],LA⟩
     | false =>
      rw[he] at hcmp;go_wp2;go_meet
      case rel=>exact ⟨by simp [c4B,hn,he,Bool.not_true],LA⟩
   | false =>
    by_cases hz2:0 < l2
    ·
     have hz2':(l2:Int) > 0:=by omega
     go_wp2;go_meet
     case rel=>exact ⟨by simp [c4B,hl2,hz2],L3⟩
    ·
     have hz2':¬ (l2:Int) > 0:=by omega
     go_wp2;go_meet
     case rel=>exact ⟨by simp [c4B,hl2,hz2,Bool.not_true],L3⟩
  | false =>
   by_cases hz1:0 < l1
   ·
    have hz1':(l1:Int) > 0:=by omega
    go_wp2;go_meet
    case rel=>exact ⟨by simp [c4B,hl1,hz1],L3⟩
   ·
    have hz1':¬ (l1:Int) > 0:=by omega
    cases ab with
    | true =>
     have CC:Hid _:=l5nameT a2 l2 c2 parg X2 (HS.out _ L3.out.1).2.1;go_wp2_with fail;refine Calls.mono CC.out ?_;rintro e XA ⟨rfl,hg⟩;have LA:Hid (w.grownBy XA none∧XA.heap[w.heap.size]? = some (Obj.cells #[.int .i64 pk,.int .i64 pn,.slice a1 l1 c1,.slice a2 l2 c2,.slice a3 l3 c3,.slice a4 l4 c4,.slice a5 l5 c5] 36)):=⟨gtr L3.out.1 hg,(hg.block _ (lt_of_block L3.out.2) (by simp)).trans L3.out.2⟩;clear CC hg y0 y1 y2 y3 y4 y5 y6;obtain ⟨⟨y0,y1,y2,y3,y4,y5,y6⟩,-⟩:=blkE LA.out.2;simp only[]
     cases hn:nameV parg with
     | false =>
      go_wp2;go_meet
      case rel=>exact ⟨by simp [c4B,hn],LA⟩
     | true =>
      have hc1:(convert 23 9 (.slice a2 l2 c2)).run Tryz.prog XA = .ok (.string (strOfNums parg)) XA:=conv_run (HS.out _ LA.out.1).2.1.1;have hc2:(convert 23 9 (.slice a1 l1 c1)).run Tryz.prog XA = .ok (.string (strOfNums pname)) XA:=conv_run (HS.out _ LA.out.1).1.1
      have hcmp:((strOfNums parg).toList == (strOfNums pname).toList)=decide (parg=pname):=by rw[toL_beq,str_eq (HS.out _ LA.out.1).2.1.2.1 (HS.out _ LA.out.1).1.2.1]
      cases he:decide (parg=pname) with
      | true =>
       rw[he] at hcmp;go_wp2;go_meet
       case rel=>exact ⟨by simp [c4B,hn,he],LA⟩
      | false =>
       rw[he] at hcmp;go_wp2;go_meet
       case rel=>exact ⟨by simp [c4B,hn,he,hl1,hz1],LA⟩
    | false =>
     by_cases hz2:0 < l2
     ·
      have hz2':(l2:Int) > 0:=by omega
      go_wp2;go_meet
      case rel=>exact ⟨by simp [c4B,hl2,hz2],L3⟩
     ·
      have hz2':¬ (l2:Int) > 0:=by omega
      go_wp2;go_meet
      case rel=>exact ⟨by simp [c4B,hl2,hz2,hl1,hz1],L3⟩
 case rest =>
 obtain ⟨rfl,HC2⟩:=hcut;have L4:Hid (w.grownBy wc none∧wc.heap[w.heap.size]? = some (Obj.cells #[.int .i64 pk,.int .i64 pn,.slice a1 l1 c1,.slice a2 l2 c2,.slice a3 l3 c3,.slice a4 l4 c4,.slice a5 l5 c5] 36)):=HC2.out;clear HC2 L3 y0 y1 y2 y3 y4 y5 y6;generalize wc=X3 at *;obtain ⟨⟨y0,y1,y2,y3,y4,y5,y6⟩,-⟩:=blkE L4.out.2
 cases hc2:c4B nb ab pname parg with
 | true =>
  have E:Hid (spR ⟨pk,pn,pname,parg,plit⟩ kids alts d = -1):=spR_no (fun h1 _=>by have:=(spE_N h1).1.2;rw[HN.out] at this;simp [hc2] at this);go_wp2;go_ret;exact ⟨by rw[E.out];rfl,L4.out.1⟩
 | false =>
 go_upto_region 10 with fail
 go_cut [119] (fun s wx=>s = .bool (c5B pk pn)∧Hid (w.grownBy wx none∧wx.heap[w.heap.size]? = some (Obj.cells #[.int .i64 pk,.int .i64 pn,.slice a1 l1 c1,.slice a2 l2 c2,.slice a3 l3 c3,.slice a4 l4 c4,.slice a5 l5 c5] 36)))
 case first=>as_aux_lemma =>
  by_cases hk:pk=1
  ·
   subst hk
   have CC:Hid (Calls Tryz.prog 51 #[.int .i64 pn] X3 fun e u=>e = .returned (.bool (wholeV pn))∧X3.grownBy u none):=(l5intOkT pn X3).mono fun e u hh=>⟨hh.1,by rw[hh.2];exact grf _ _⟩
   go_wp2_with fail;refine Calls.mono CC.out ?_;rintro e XA ⟨rfl,hg⟩;have LA:Hid (w.grownBy XA none∧XA.heap[w.heap.size]? = some (Obj.cells #[.int .i64 1,.int .i64 pn,.slice a1 l1 c1,.slice a2 l2 c2,.slice a3 l3 c3,.slice a4 l4 c4,.slice a5 l5 c5] 36)):=⟨gtr L4.out.1 hg,(hg.block _ (lt_of_block L4.out.2) (by simp)).trans L4.out.2⟩;clear CC hg y0 y1 y2 y3 y4 y5 y6;obtain ⟨⟨y0,y1,y2,y3,y4,y5,y6⟩,-⟩:=blkE LA.out.2;simp only[]
   cases hw:wholeV pn with
   | false =>
    go_wp2;go_meet
    case rel=>exact ⟨by simp [c5B,hw],LA⟩
   | true =>
    go_wp2;go_meet
    case rel=>exact ⟨by simp [c5B,hw],LA⟩
  ·
   have hk1:(pk == 1)=false:=by simpa using hk
   have hk2:(pk != 1)=true:=by simpa using hk
   have hkd:decide (pk=1)=false:=by simpa using hk
   by_cases hk9:pk=19
   ·
    subst hk9;go_wp2;go_meet
    case rel=>exact ⟨by simp [c5B],L4⟩
   ·
    have hk92:(pk != 19)=true:=by simpa using hk9
    have hk9d:decide (pk=19)=false:=by simpa using hk9
    by_cases hk0:pk=20
    ·
     subst hk0;go_wp2;go_meet
     case rel=>exact ⟨by simp [c5B],L4⟩
    ·
     have hk02:(pk != 20)=true:=by simpa using hk0
     have hk0d:decide (pk=20)=false:=by simpa using hk0
     by_cases hn0:pn=0
     ·
      subst hn0;go_wp2;go_meet
      case rel=>exact ⟨by simp [c5B,hkd],L4⟩
     ·
      have hn2:(pn != 0)=true:=by simpa using hn0
      go_wp2;go_meet
      case rel=>exact ⟨by simp [c5B,hkd,hk9d,hk0d,hn0],L4⟩
 case rest =>
 obtain ⟨rfl,HC3⟩:=hcut;have L5:Hid (w.grownBy wc none∧wc.heap[w.heap.size]? = some (Obj.cells #[.int .i64 pk,.int .i64 pn,.slice a1 l1 c1,.slice a2 l2 c2,.slice a3 l3 c3,.slice a4 l4 c4,.slice a5 l5 c5] 36)):=HC3.out;clear HC3 L4 y0 y1 y2 y3 y4 y5 y6;generalize wc=X4 at *;obtain ⟨⟨y0,y1,y2,y3,y4,y5,y6⟩,-⟩:=blkE L5.out.2
 cases hc3:c5B pk pn with
 | true =>
  have E:Hid (spR ⟨pk,pn,pname,parg,plit⟩ kids alts d = -1):=spR_no (fun h1 _=>by have:=(spE_N h1).1.2;rw[HN.out] at this;simp [hc3] at this);go_wp2;go_ret;exact ⟨by rw[E.out];rfl,L5.out.1⟩
 | false =>
 go_upto_region 12 with fail
 go_cut [139] (fun s wx=>s = .bool (c6B pk plit)∧Hid (w.grownBy wx none∧wx.heap[w.heap.size]? = some (Obj.cells #[.int .i64 pk,.int .i64 pn,.slice a1 l1 c1,.slice a2 l2 c2,.slice a3 l3 c3,.slice a4 l4 c4,.slice a5 l5 c5] 36)))
 case first=>as_aux_lemma =>
  by_cases hk:pk=2
  ·
   subst hk;have CC:Hid _:=l5litT a3 l3 c3 plit X4 (HS.out _ L5.out.1).2.2.1;go_wp2_with fail;refine Calls.mono CC.out ?_;rintro e XA ⟨rfl,hg⟩;have LA:Hid (w.grownBy XA none∧XA.heap[w.heap.size]? = some (Obj.cells #[.int .i64 2,.int .i64 pn,.slice a1 l1 c1,.slice a2 l2 c2,.slice a3 l3 c3,.slice a4 l4 c4,.slice a5 l5 c5] 36)):=⟨gtr L5.out.1 hg,(hg.block _ (lt_of_block L5.out.2) (by simp)).trans L5.out.2⟩;clear CC hg y0 y1 y2 y3 y4 y5 y6;obtain ⟨⟨y0,y1,y2,y3,y4,y5,y6⟩,-⟩:=blkE LA.out.2;simp only[]
   cases hw:litV plit with
   | false =>
    go_wp2;go_meet
    case rel=>exact ⟨by simp [c6B,hw],LA⟩
   | true =>
    go_wp2;go_meet
    case rel=>exact ⟨by simp [c6B,hw],LA⟩
  ·
   have hk1:(pk == 2)=false:=by simpa using hk
   have hk2:(pk != 2)=true:=by simpa using hk
   have hkd:decide (pk=2)=false:=by simpa using hk
   by_cases hz:0 < l3
   ·
    have hz':(l3:Int) > 0:=by omega
    go_wp2;go_meet
    case rel=>exact ⟨by simp [c6B,hkd,hl3,hz],L5⟩
   ·
    have hz':¬ (l3:Int) > 0:=by omega
    go_wp2;go_meet
    case rel=>exact ⟨by simp [c6B,hkd,hl3,hz],L5⟩
 case rest =>
 obtain ⟨rfl,HC4⟩:=hcut;have L6:Hid (w.grownBy wc none∧wc.heap[w.heap.size]? = some (Obj.cells #[.int .i64 pk,.int .i64 pn,.slice a1 l1 c1,.slice a2 l2 c2,.slice a3 l3 c3,.slice a4 l4 c4,.slice a5 l5 c5] 36)):=HC4.out;clear HC4 L5 y0 y1 y2 y3 y4 y5 y6;generalize wc=X5 at *;obtain ⟨⟨y0,y1,y2,y3,y4,y5,y6⟩,-⟩:=blkE L6.out.2
 cases hc4:c6B pk plit with
 | true =>
  have E:Hid (spR ⟨pk,pn,pname,parg,plit⟩ kids alts d = -1):=spR_no (fun h1 _=>by have:=(spE_N h1).1.2;rw[HN.out] at this;simp [hc4] at this);go_wp2;go_ret;exact ⟨by rw[E.out];rfl,L6.out.1⟩
 | false =>
 have HN2:Hid (spN ⟨pk,pn,pname,parg,plit⟩ kids.len alts.len=armsB pk l5):=by show _=_;rw[HN.out];simp [hc0,hc1,hc2,hc3,hc4]
 have L7:Hid (w.grownBy X5 none∧X5.heap[w.heap.size]? = some (Obj.cells #[.int .i64 pk,.int .i64 pn,.slice a1 l1 c1,.slice a2 l2 c2,.slice a3 l3 c3,.slice a4 l4 c4,.slice a5 l5 c5] 36)):=L6.out;clear L6 HN;go_wp2
 go_loopw [8,9] (fun v i wr=>∃ (j N:Nat) (Pf R:GE),j≤l4∧i = .int .i64 j∧v = .int .i64 N∧N≤300∧Hid (w.grownBy wr none∧wr.heap[w.heap.size]? = some (Obj.cells #[.int .i64 pk,.int .i64 pn,.slice a1 l1 c1,.slice a2 l2 c2,.slice a3 l3 c3,.slice a4 l4 c4,.slice a5 l5 c5] 36)∧TlK wr a4 j l4 R∧Pf.app R=kids∧spG false Pf (d - 1)=true∧N=1+Pf.cnt)) (fun _ i _=>l4 - (intOf i).toNat)
 case atStart=>exact ⟨0,1,.nil,kids,Nat.zero_le _,rfl,rfl,by omega,L7.out.1,L7.out.2,(HS.out _ L7.out.1).2.2.2.1.tlK,rfl,rfl,rfl⟩
 case round =>
  clear L7 y0 y1 y2 y3 y4 y5 y6;obtain ⟨j,N,Pf,R,hj,rfl,rfl,hN3,HR⟩:=hrel;obtain ⟨⟨y0,y1,y2,y3,y4,y5,y6⟩,-⟩:=blkE HR.out.2.1;by_cases hlt:j < l4
  ·
   obtain ⟨hg,hbk,⟨hRl,hR⟩,hPR,hP,hN⟩:=HR.out;obtain ⟨q',hq'⟩:∃ q',R.len=q' + 1:=⟨R.len - 1,by omega⟩;rcases hR with rfl|⟨b,o,ea,hin⟩
   ·
    simp [GE.len] at hq'
   obtain ⟨hc,hv,pp,kk,aa,R',rfl,hR'⟩:=GE.cons_of_len hq';obtain ⟨-,b1,m1,n1,b2,m2,n2,b3,m3,n3,b4,m4,n4,b5,m5,n5,⟨k0,k1,k2,k3,k4,k5,k6⟩,hnd,hR2⟩:=hin.kid;rw[show o+j * 7+7=o+(j+1) * 7 by omega] at hR2;have CC:Hid _:=IH.out (d - 1) (dp+1) (by omega) rfl pp kk aa b1 m1 n1 b2 m2 n2 b3 m3 n3 b4 m4 n4 b5 m5 n5 wr hnd;have FX:Hid (w.grownBy wr none∧wr.heap[w.heap.size]? = some (Obj.cells #[.int .i64 pk,.int .i64 pn,.slice a1 l1 c1,.slice a2 l2 c2,.slice a3 l3 c3,.slice a4 l4 c4,.slice a5 l5 c5] 36)∧InGE wr wr false R' b (o+(j+1) * 7)∧Pf.app (.cons hc hv pp kk aa R')=kids∧spG false Pf (d - 1)=true∧N=1+Pf.cnt∧a4=some ⟨b,o,none⟩):=⟨hg,hbk,hR2,hPR,hP,hN,ea⟩;rw[ea] at y5;clear hg hbk hPR hP hN hin hnd hR2 HR ea;simp only[GE.len] at hRl;go_wp2_with fail
   (try rw[show (dp:Int)+1=((dp+1:Nat):Int) by omega])
   refine Calls.mono CC.out ?_;rintro e XK ⟨he,hgu⟩;subst he;have FY:Hid (w.grownBy XK none∧XK.heap[w.heap.size]? = some (Obj.cells #[.int .i64 pk,.int .i64 pn,.slice a1 l1 c1,.slice a2 l2 c2,.slice a3 l3 c3,.slice a4 l4 c4,.slice a5 l5 c5] 36)∧TlK XK a4 (j+1) l4 R'∧Pf.app (.cons hc hv pp kk aa R')=kids∧spG false Pf (d - 1)=true∧N=1+Pf.cnt):=⟨gtr FX.out.1 hgu,(hgu.block _ (lt_of_block FX.out.2.1) (by simp)).trans FX.out.2.1,⟨by omega,.inr ⟨b,o,FX.out.2.2.2.2.2.2,FX.out.2.2.1.le (CLe.grown hgu) (CLe.grown hgu)⟩⟩,FX.out.2.2.2.1,FX.out.2.2.2.2.1,FX.out.2.2.2.2.2.1⟩;clear FX CC hgu k0 k1 k2 k3 k4 k5 k6 y0 y1 y2 y3 y4 y5 y6;have hcs:=spR_cases pp kk aa (d - 1);rcases hcs with ⟨e1,-⟩|⟨e1,e2,e3⟩
   ·
    have E:Hid (spR ⟨pk,pn,pname,parg,plit⟩ kids alts d = -1):=sp_badK FY.out.2.2.2.1 (.inl e1);rw[e1];simp only[];go_wp2;go_ret;exact ⟨by rw[E.out];rfl,FY.out.1⟩
   ·
    rw[e1];have E2:Hid (spE pp kk aa (d - 1)=true):=e2
    have HCN:Hid ((Pf.app (.cons hc hv pp kk aa .nil)).cnt=Pf.cnt+(1+kk.cnt+aa.cnt)):=by show _=_;rw[cnt_app];rfl
    have HBD:Hid (300 < N+(1+kk.cnt+aa.cnt)→spR ⟨pk,pn,pname,parg,plit⟩ kids alts d = -1):=fun hh=>sp_badK FY.out.2.2.2.1 (.inr (by have:=FY.out.2.2.2.2.2;omega))
    clear e1 e2;generalize 1+kk.cnt+aa.cnt=M at *
    have hM0:¬ (M:Int) < 0:=by omega
    by_cases hbig:300 < N+M
    ·
     have E:Hid _:=HBD.out hbig
     have hbig':(N:Int)+(M:Int) > 300:=by omega
     simp only[];go_wp2;go_ret;exact ⟨by rw[E.out];rfl,FY.out.1⟩
    ·
     have hbig':¬ (N:Int)+(M:Int) > 300:=by omega
     simp only[];go_wp2;go_roundw
     case rel=>exact ⟨j+1,N+M,Pf.app (.cons hc hv pp kk aa .nil),R',by omega,by go_num,by go_num,by omega,FY.out.1,FY.out.2.1,FY.out.2.2.1,by rw[GE.app_assoc];exact FY.out.2.2.2.1,sp_okK false FY.out.2.2.2.2.1 (fun h=>by cases h) E2.out,by have:=FY.out.2.2.2.2.2;have:=HCN.out;omega⟩
     case measure=>simp [intOf];omega
  ·
   obtain rfl:l4=j:=by omega
   obtain ⟨hg,hbk,⟨hRl,-⟩,hPR,hP,hN⟩:=HR.out;obtain rfl:R = .nil:=GE.nil_of_len (by omega);rw[GE.app_nil] at hPR;subst hPR;have L8:Hid (w.grownBy wr none∧wr.heap[w.heap.size]? = some (Obj.cells #[.int .i64 pk,.int .i64 pn,.slice a1 l1 c1,.slice a2 l2 c2,.slice a3 l3 c3,.slice a4 l4 c4,.slice a5 l5 c5] 36)∧spG false Pf (d - 1)=true∧N=1+Pf.cnt):=⟨hg,hbk,hP,hN⟩;clear HR hg hbk hRl hP hN;by_cases hk:pk=16
   rotate_left
   ·
    have hkn:(pk != 16)=true:=by simpa using hk
    have hA:Hid (armsB pk l5=decide (l5=0)):=by show _=_;unfold armsB;rw[if_neg hk]
    by_cases hz:l5=0
    ·
     have E:Hid (spR ⟨pk,pn,pname,parg,plit⟩ Pf alts d=(N:Int)):=by
      show _=_
      obtain rfl:=GE.nil_of_len (hl5.trans hz)
      have h1:spE ⟨pk,pn,pname,parg,plit⟩ Pf .nil d=true:=by
       unfold spE;simp only[Bool.and_eq_true,decide_eq_true_eq];exact ⟨⟨⟨by omega,by rw[HN2.out,hA.out];simpa using hz⟩,L8.out.2.2.1⟩,rfl⟩
      have h2:=L8.out.2.2.2;have hc0:(GE.nil).cnt=0:=rfl;rcases spR_cases ⟨pk,pn,pname,parg,plit⟩ Pf .nil d with ⟨-,h4|h4⟩|⟨h4,-,-⟩
      ·
       rw[h1] at h4;cases h4
      ·
       rw[hc0] at h4;omega
      ·
       rw[h4,hc0];omega
     clear hA;subst hz;go_wp2;go_ret;exact ⟨by rw[E.out];rfl,L8.out.1⟩
    ·
     have hz':(l5:Int) > 0:=by omega
     have E:Hid (spR ⟨pk,pn,pname,parg,plit⟩ Pf alts d = -1):=spR_no (fun h1 _=>by have:=(spE_N h1).1.2;rw[HN2.out,hA.out] at this;simp at this;omega);go_wp2;go_ret;exact ⟨by rw[E.out];rfl,L8.out.1⟩
   subst hk;have hA:Hid (armsB 16 l5=(decide (1≤l5) && decide (l5≤6))):=rfl;by_cases h51:1≤l5
   rotate_left
   ·
    have h51':(l5:Int) < 1:=by omega
    have E:Hid (spR ⟨16,pn,pname,parg,plit⟩ Pf alts d = -1):=spR_no (fun h1 _=>by have:=(spE_N h1).1.2;rw[HN2.out,hA.out] at this;simp at this;omega);go_wp2;go_ret;exact ⟨by rw[E.out];rfl,L8.out.1⟩
   have h51':¬ (l5:Int) < 1:=by omega
   by_cases h56:l5≤6
   rotate_left
   ·
    have h56':(l5:Int) > 6:=by omega
    have E:Hid (spR ⟨16,pn,pname,parg,plit⟩ Pf alts d = -1):=spR_no (fun h1 _=>by have:=(spE_N h1).1.2;rw[HN2.out,hA.out] at this;simp at this;omega);go_wp2;go_ret;exact ⟨by rw[E.out];rfl,L8.out.1⟩
   have h56':¬ (l5:Int) > 6:=by omega
   go_wp2
   have HN4:Hid (spN ⟨16,pn,pname,parg,plit⟩ Pf.len alts.len=true):=by show _=_;rw[HN2.out,hA.out];simp [h51,h56]
   go_loopw [8,11] (fun v i wr=>∃ (j N:Nat) (Q R:GE),j≤l5∧i = .int .i64 j∧v = .int .i64 N∧N≤300∧Hid (w.grownBy wr none∧wr.heap[w.heap.size]? = some (Obj.cells #[.int .i64 16,.int .i64 pn,.slice a1 l1 c1,.slice a2 l2 c2,.slice a3 l3 c3,.slice a4 l4 c4,.slice a5 l5 c5] 36)∧TlA wr a5 j l5 R∧Q.app R=alts∧spG true Q (d - 1)=true∧N=1+Pf.cnt+Q.cnt)) (fun _ i _=>l5 - (intOf i).toNat)
   case atStart=>exact ⟨0,N,.nil,alts,Nat.zero_le _,rfl,rfl,hN3,L8.out.1,L8.out.2.1,(HS.out _ L8.out.1).2.2.2.2.tlA,rfl,rfl,L8.out.2.2.2⟩
   case round =>
    have HPf:Hid (spG false Pf (d - 1)=true):=L8.out.2.2.1;clear L8 y0 y1 y2 y3 y4 y5 y6 hN3;obtain ⟨j,N,Q,R,hj,rfl,rfl,hN3,HR⟩:=hrel;obtain ⟨⟨y0,y1,y2,y3,y4,y5,y6⟩,-⟩:=blkE HR.out.2.1;by_cases hlt:j < l5
    ·
     obtain ⟨hg,hbk,⟨hRl,hR⟩,hPR,hP,hN⟩:=HR.out;obtain ⟨q',hq'⟩:∃ q',R.len=q' + 1:=⟨R.len - 1,by omega⟩;rcases hR with rfl|⟨b,o,ea,hin⟩
     ·
      simp [GE.len] at hq'
     obtain ⟨hc,hv,pp,kk,aa,R',rfl,hR'⟩:=GE.cons_of_len hq';obtain ⟨e0,q0,d0,e1,q1,d1,b1,m1,n1,b2,m2,n2,b3,m3,n3,b4,m4,n4,b5,m5,n5,⟨x0,x1⟩,hgd,⟨k0,k1,k2,k3,k4,k5,k6⟩,hnd,hR2⟩:=hin.alt;rw[show o+j * 9+9=o+(j+1) * 9 by omega] at hR2;have CC:Hid _:=l5armT hc hv pp (spR pp kk aa (d - 1)) e0 q0 d0 e1 q1 d1 b1 m1 n1 b2 m2 n2 b3 m3 n3 b4 m4 n4 b5 m5 n5 (dp+1) wr hgd.1 hgd.2 (fun u hu=>IH.out (d - 1) (dp+1) (by omega) rfl pp kk aa b1 m1 n1 b2 m2 n2 b3 m3 n3 b4 m4 n4 b5 m5 n5 u (hnd.none hu));have FX:Hid (w.grownBy wr none∧wr.heap[w.heap.size]? = some (Obj.cells #[.int .i64 16,.int .i64 pn,.slice a1 l1 c1,.slice a2 l2 c2,.slice a3 l3 c3,.slice a4 l4 c4,.slice a5 l5 c5] 36)∧InGE wr wr true R' b (o+(j+1) * 9)∧Q.app (.cons hc hv pp kk aa R')=alts∧spG true Q (d - 1)=true∧N=1+Pf.cnt+Q.cnt∧a5=some ⟨b,o,none⟩):=⟨hg,hbk,hR2,hPR,hP,hN,ea⟩;rw[ea] at y6;clear hg hbk hPR hP hN hin hnd hR2 HR ea hgd;simp only[GE.len] at hRl
     go_wp2_with fail
     (try rw[show (dp:Int)+1=((dp+1:Nat):Int) by omega])
     refine Calls.mono CC.out ?_;rintro e XK ⟨he,hgu⟩;subst he;have FY:Hid (w.grownBy XK none∧XK.heap[w.heap.size]? = some (Obj.cells #[.int .i64 16,.int .i64 pn,.slice a1 l1 c1,.slice a2 l2 c2,.slice a3 l3 c3,.slice a4 l4 c4,.slice a5 l5 c5] 36)∧TlA XK a5 (j+1) l5 R'∧Q.app (.cons hc hv pp kk aa R')=alts∧spG true Q (d - 1)=true∧N=1+Pf.cnt+Q.cnt):=⟨gtr FX.out.1 hgu,(hgu.block _ (lt_of_block FX.out.2.1) (by simp)).trans FX.out.2.1,⟨by omega,.inr ⟨b,o,FX.out.2.2.2.2.2.2,FX.out.2.2.1.le (CLe.grown hgu) (CLe.grown hgu)⟩⟩,FX.out.2.2.2.1,FX.out.2.2.2.2.1,FX.out.2.2.2.2.2.1⟩;clear FX CC hgu k0 k1 k2 k3 k4 k5 k6 x0 x1 y0 y1 y2 y3 y4 y5 y6
     have hcs:armR (armV hc hv) (spR pp kk aa (d - 1)) = -1∨(armV hc hv=true∧spR pp kk aa (d - 1)=((1+kk.cnt+aa.cnt:Nat):Int)∧spE pp kk aa (d - 1)=true∧1+kk.cnt+aa.cnt≤300):=by
      cases hav:armV hc hv with
      | false=>exact .inl rfl
      | true =>
       rcases spR_cases pp kk aa (d - 1) with ⟨e1,-⟩|⟨e1,e2,e3⟩
       ·
        exact .inl e1
       ·
        exact .inr ⟨rfl,e1,e2,e3⟩
     rcases hcs with e1|⟨hav,e1,e2,e3⟩
     ·
      have E:Hid (spR ⟨16,pn,pname,parg,plit⟩ Pf alts d = -1):=sp_badA FY.out.2.2.2.1 (.inl e1);rw[e1];simp only[];go_wp2;go_ret;exact ⟨by rw[E.out];rfl,FY.out.1⟩
     ·
      have e4:armR (armV hc hv) (spR pp kk aa (d - 1))=((1+kk.cnt+aa.cnt:Nat):Int):=by rw[hav];exact e1
      rw[e4];have E2:Hid (spE pp kk aa (d - 1)=true∧armV hc hv=true):=⟨e2,hav⟩
      have HCN:Hid ((Q.app (.cons hc hv pp kk aa .nil)).cnt=Q.cnt+(1+kk.cnt+aa.cnt)):=by show _=_;rw[cnt_app];rfl
      have HBD:Hid (300 < N+(1+kk.cnt+aa.cnt)→spR ⟨16,pn,pname,parg,plit⟩ Pf alts d = -1):=fun hh=>sp_badA FY.out.2.2.2.1 (.inr (by have:=FY.out.2.2.2.2.2;omega))
      clear e1 e2 e4 hav;generalize 1+kk.cnt+aa.cnt=M at *
      have hM0:¬ (M:Int) < 0:=by omega
      by_cases hbig:300 < N+M
      ·
       have E:Hid _:=HBD.out hbig
       have hbig':(N:Int)+(M:Int) > 300:=by omega
       simp only[];go_wp2;go_ret;exact ⟨by rw[E.out];rfl,FY.out.1⟩
      ·
       have hbig':¬ (N:Int)+(M:Int) > 300:=by omega
       simp only[];go_wp2;go_roundw
       case rel=>exact ⟨j+1,N+M,Q.app (.cons hc hv pp kk aa .nil),R',by omega,by go_num,by go_num,by omega,FY.out.1,FY.out.2.1,FY.out.2.2.1,by rw[GE.app_assoc];exact FY.out.2.2.2.1,sp_okK true FY.out.2.2.2.2.1 (fun _=>E2.out.2) E2.out.1,by have:=FY.out.2.2.2.2.2;have:=HCN.out;omega⟩
       case measure=>simp [intOf];omega
    ·
     obtain rfl:l5=j:=by omega
     obtain ⟨hg,hbk,⟨hRl,-⟩,hPR,hP,hN⟩:=HR.out;obtain rfl:R = .nil:=GE.nil_of_len (by omega);rw[GE.app_nil] at hPR;subst hPR
     have E:Hid (spR ⟨16,pn,pname,parg,plit⟩ Pf Q d=(N:Int)∧w.grownBy wr none):=by
      refine ⟨?_,hg⟩
      have h1:spE ⟨16,pn,pname,parg,plit⟩ Pf Q d=true:=by
       unfold spE;simp only[Bool.and_eq_true,decide_eq_true_eq];exact ⟨⟨⟨by omega,HN4.out⟩,HPf.out⟩,hP⟩
      rcases spR_cases ⟨16,pn,pname,parg,plit⟩ Pf Q d with ⟨-,h4|h4⟩|⟨h4,-,-⟩
      ·
       rw[h1] at h4;cases h4
      ·
       omega
      ·
       rw[h4];omega
     clear HR hg hbk hRl hP hN;go_wp2;go_ret;exact ⟨by rw[E.out.1];rfl,E.out.2⟩
theorem l5eT:∀ (d dp:Nat),dp+d=41→∀ (p:PE) (kids alts:GE) (a1:Option Addr) (l1 c1:Nat) (a2:Option Addr) (l2 c2:Nat) (a3:Option Addr) (l3 c3:Nat) (a4:Option Addr) (l4 c4:Nat) (a5:Option Addr) (l5 c5:Nat) (w:World),NdE w p kids alts a1 l1 c1 a2 l2 c2 a3 l3 c3 a4 l4 c4 a5 l5 c5 →
  Calls Tryz.prog 25 #[.agg #[.int .i64 p.k,.int .i64 p.n,.slice a1 l1 c1,.slice a2 l2 c2,.slice a3 l3 c3,.slice a4 l4 c4,.slice a5 l5 c5],.int .i64 (dp:Nat)] w fun e u=>e = .returned (.int .i64 (spR p kids alts d))∧w.grownBy u none:=by
 intro d
 induction d with
 | zero=>intro dp h;exact l5eT_of 0 dp h (fun d' dp' h=>by omega)
 | succ d ih=>intro dp h;exact l5eT_of (d+1) dp h (fun d' dp' h1 h2=>by cases h1;exact ih dp' (by omega))
end Go.Proofs.YtblbnillilbacaaGreatDoor.By
