/-
 Names that are bound, constructors that are there. No statement is proved here.
-/
import Derived.Test.YtblbnillilbacaaGreatDoorZ0n
import Derived.Test.YtblbnillilbacaaGreatDoorNLn
import Derived.Test.YtblbnillilbacaaGreatDoorNMAn
import Derived.Test.YtblbnillilbacaaGreatDoorNMBn
import Derived.Test.YtblbnillilbacaaGreatDoorNMCn
import Derived.Test.YtblbnillilbacaaGreatDoorLawSourceOkAlson
namespace Go.Proofs.YtblbnillilbacaaGreatDoor.By
open Go.RowKit
set_option linter.unusedVariables false
set_option linter.unusedSimpArgs false
theorem ok3 {p:PE} {kids alts:GE} (h:okN p kids alts=true) (h3:p.k=3):kids = .nil∧alts = .nil:=by
 obtain ⟨k,n,nm,ar,lt⟩:=p;simp only at h3;subst h3;by_cases hn:n=0
 ·
  subst hn;unfold okN formR at h;simp only[form3] at h;rw[Bool.and_eq_true] at h;have h2:=h.2;simp only[Option.getD_some] at h2;rw[fit8] at h2;simp only[Bool.and_eq_true,decide_eq_true_eq] at h2;exact ⟨GE.nil_of_len h2.1.2,GE.nil_of_len h2.2⟩
 ·
  unfold okN at h;rw[form3_no n hn] at h;simp at h
theorem names_eq (ds:List Da):∀ (g:GE) (S:List (List Int)) (al:Bool) (k:Int) (nm ar:List Int) (i d:Nat),okG g d=true→l6G ds S al k nm ar i g=(nmG S al k nm ar i g && epG ds g && !(al && badC ds g))
 | .nil,S,al,k,nm,ar,i,d,_=>by simp [l6G,nmG,epG,badC]
 | .cons hc hv p kids alts rest,S,al,k,nm,ar,i,d,h=>by
  simp only[okG,Bool.and_eq_true] at h;obtain ⟨⟨⟨⟨-,hN⟩,hk⟩,ha⟩,hr⟩:=h;rw[l6G_cons,nmG_cons,epG_cons,names_eq ds rest S al k nm ar (i+1) d hr];unfold l6E nmE epE cnE ownV;generalize hdS al hv k nm ar i++S=T;by_cases h3:p.k=3
  ·
   obtain ⟨rfl,rfl⟩:=ok3 hN h3;simp only[h3,if_true,decide_true,nmG,epG,badC];generalize amV p.name T=b0;generalize nmG S al k nm ar (i+1) rest=b1;generalize epG ds rest=b2;generalize badC ds rest=b3;generalize cnOk ds hc hv.length=b4;generalize decide (0 < hc.length)=b5
   have e15:decide ((3:Int)=15)=false:=by decide
   rw[e15]
   cases al <;> cases b0 <;> cases b1 <;> cases b2 <;> cases b3 <;> cases b4 <;> cases b5 <;> simp
  ·
   rw[if_neg h3,names_eq ds kids T false p.k p.name p.arg 0 _ hk,names_eq ds alts T true p.k p.name p.arg 0 _ ha];simp only[badC,h3,decide_false];generalize nmG T false p.k p.name p.arg 0 kids=b0;generalize nmG T true p.k p.name p.arg 0 alts=b1;generalize nmG S al k nm ar (i+1) rest=b2;generalize epG ds rest=b3;generalize epG ds kids=b4;generalize epG ds alts=b5;generalize badC ds rest=b6;generalize badC ds alts=b7;generalize cnOk ds hc hv.length=b8;generalize cnOk ds p.name kids.len=b9;generalize decide (0 < hc.length)=b10;generalize decide (p.k=15)=b11
   cases al <;> cases b8 <;> cases b9 <;> cases b10 <;> cases b11 <;> cases b0 <;> cases b1 <;> cases b7 <;> simp [Bool.and_comm,Bool.and_assoc,Bool.and_left_comm]
theorem namesE_eq (ds:List Da) (p:PE) (kids alts:GE) (S:List (List Int)) (d:Nat) (h:okE p kids alts d=true):l6E ds S p kids alts=(nmE S p kids alts && epE ds p kids alts):=by
 unfold okE at h;simp only[Bool.and_eq_true] at h;obtain ⟨⟨⟨hd0,hN⟩,hk⟩,ha⟩:=h;have:=names_eq ds (.cons [] [] p kids alts .nil) S false 0 [] [] 0 d (by simp only[okG,Bool.and_eq_true];exact ⟨⟨⟨⟨hd0,hN⟩,hk⟩,ha⟩,trivial⟩);rw[l6G_cons,nmG_cons,epG_cons] at this
 have e0:hdS false [] 0 [] [] 0=[]:=by decide
 rw[e0] at this;simpa [l6G,nmG,epG] using this
/-- Whether a source's names and constructors are as they must be. -/
def namV (x:RSrc):Bool:=srcV x && l6E x.ds [] x.p x.kids x.alts
theorem srcV_ok {x:RSrc} (h:srcV x=true):okE x.p x.kids x.alts 40=true:=by
 unfold srcV srcP at h;simp only[Bool.and_eq_true] at h;exact h.1.2.1
theorem namV_impl {x:RSrc} (h:srcV x=true):namV x=(nmE [] x.p x.kids x.alts && epE x.ds x.p x.kids x.alts):=by
 unfold namV;rw[h,Bool.true_and];exact namesE_eq x.ds x.p x.kids x.alts [] 40 (srcV_ok h)
set_option maxRecDepth 4000 in
set_option maxHeartbeats 4000000 in
theorem implNamesT (x:RSrc) (a0:Option Addr) (l0 c0:Nat) (a1:Option Addr) (l1 c1:Nat) (a2:Option Addr) (l2 c2:Nat) (a3:Option Addr) (l3 c3:Nat) (a4:Option Addr) (l4 c4:Nat) (a5:Option Addr) (l5 c5:Nat) (w:World) (h:RdSrc w x a0 l0 c0 a1 l1 c1 a2 l2 c2 a3 l3 c3 a4 l4 c4 a5 l5 c5) (hbas:Bas w) (hs:szSrc x≤1048576) :
  Calls Tryz.prog 19 #[.agg #[.slice a0 l0 c0,.int .i64 x.p.k,.int .i64 x.p.n,.slice a1 l1 c1,.slice a2 l2 c2,.slice a3 l3 c3,.slice a4 l4 c4,.slice a5 l5 c5]] w fun e u=>e = .returned (.bool (namV x))∧w.grownBy u none:=by
 have gA:=World.grownBy_alloc w (.cells #[.slice a0 l0 c0,.int .i64 x.p.k,.int .i64 x.p.n,.slice a1 l1 c1,.slice a2 l2 c2,.slice a3 l3 c3,.slice a4 l4 c4,.slice a5 l5 c5] 38) none;have bA:=heap_alloc_new w (.cells #[.slice a0 l0 c0,.int .i64 x.p.k,.int .i64 x.p.n,.slice a1 l1 c1,.slice a2 l2 c2,.slice a3 l3 c3,.slice a4 l4 c4,.slice a5 l5 c5] 38)
 have hsz:x.kids.size+x.alts.size≤1048576:=by unfold szSrc at hs;omega
 have C0:Hid _:=implSourceT x a0 l0 c0 a1 l1 c1 a2 l2 c2 a3 l3 c3 a4 l4 c4 a5 l5 c5 _ (h.none gA) (hbas.grown gA) hs;have L0:Hid (w.grownBy _ none∧_=some (Obj.cells #[.slice a0 l0 c0,.int .i64 x.p.k,.int .i64 x.p.n,.slice a1 l1 c1,.slice a2 l2 c2,.slice a3 l3 c3,.slice a4 l4 c4,.slice a5 l5 c5] 38)):=⟨gA,bA⟩;have HN:Hid (RdSrc w x a0 l0 c0 a1 l1 c1 a2 l2 c2 a3 l3 c3 a4 l4 c4 a5 l5 c5):=h;obtain ⟨⟨y0,y1,y2,y3,y4,y5,y6,y7⟩,-⟩:=blkSrc bA;clear h gA bA hs hbas;go_enter Tryz.func19,Tryz.ntmps19;go_wp2_with fail;refine Calls.mono C0.out ?_;rintro e u ⟨rfl,hg⟩;generalize w.alloc (.cells #[.slice a0 l0 c0,.int .i64 x.p.k,.int .i64 x.p.n,.slice a1 l1 c1,.slice a2 l2 c2,.slice a3 l3 c3,.slice a4 l4 c4,.slice a5 l5 c5] 38)=w0 at *;have L1:Hid (w.grownBy u none∧u.heap[w.heap.size]? = some (Obj.cells #[.slice a0 l0 c0,.int .i64 x.p.k,.int .i64 x.p.n,.slice a1 l1 c1,.slice a2 l2 c2,.slice a3 l3 c3,.slice a4 l4 c4,.slice a5 l5 c5] 38)):=⟨grown_trans L0.out.1 hg,(hg.block _ (lt_of_block L0.out.2) (by simp)).trans L0.out.2⟩
 clear C0 L0 hg y0 y1 y2 y3 y4 y5 y6 y7;obtain ⟨⟨y0,y1,y2,y3,y4,y5,y6,y7⟩,-⟩:=blkSrc L1.out.2;simp only[]
 cases hv:srcV x with
 | false =>
  have EV:Hid (namV x=false):=by show _=_;unfold namV;rw[hv];rfl
  clear hv;go_wp2;go_ret;exact ⟨by rw[EV.out];rfl,L1.out.1⟩
 | true =>
  have EV:Hid (namV x=(nmE [] x.p x.kids x.alts && epE x.ds x.p x.kids x.alts)):=by show _=_;exact namV_impl hv
  have C1:Hid _:=namesStandT x.ds a0 l0 c0 x.p x.kids x.alts a1 l1 c1 a2 l2 c2 a3 l3 c3 a4 l4 c4 a5 l5 c5 u (HN.out.none L1.out.1).1.1 (HN.out.none L1.out.1).2 hsz;clear hv;go_wp2_with fail;refine Calls.mono C1.out ?_;rintro e u2 ⟨he,hg⟩;subst he;have G:Hid (w.grownBy u2 none):=grown_trans L1.out.1 hg;clear C1 hg L1 y0 y1 y2 y3 y4 y5 y6 y7;generalize (nmE [] x.p x.kids x.alts && epE x.ds x.p x.kids x.alts)=bb at *;simp only[];go_wp2;go_ret;exact ⟨by rw[EV.out];rfl,G.out⟩
set_option maxRecDepth 4000 in
set_option maxHeartbeats 4000000 in
theorem specNamesT (x:RSrc) (a0:Option Addr) (l0 c0:Nat) (a1:Option Addr) (l1 c1:Nat) (a2:Option Addr) (l2 c2:Nat) (a3:Option Addr) (l3 c3:Nat) (a4:Option Addr) (l4 c4:Nat) (a5:Option Addr) (l5 c5:Nat) (w:World) (h:RdSrc w x a0 l0 c0 a1 l1 c1 a2 l2 c2 a3 l3 c3 a4 l4 c4 a5 l5 c5) (hs:szSrc x≤1048576) :
  Calls Tryz.prog 18 #[.agg #[.slice a0 l0 c0,.int .i64 x.p.k,.int .i64 x.p.n,.slice a1 l1 c1,.slice a2 l2 c2,.slice a3 l3 c3,.slice a4 l4 c4,.slice a5 l5 c5]] w fun e u=>e = .returned (.bool (namV x))∧w.grownBy u none:=by
 have gA:=World.grownBy_alloc w (.cells #[.slice a0 l0 c0,.int .i64 x.p.k,.int .i64 x.p.n,.slice a1 l1 c1,.slice a2 l2 c2,.slice a3 l3 c3,.slice a4 l4 c4,.slice a5 l5 c5] 38) none;have bA:=heap_alloc_new w (.cells #[.slice a0 l0 c0,.int .i64 x.p.k,.int .i64 x.p.n,.slice a1 l1 c1,.slice a2 l2 c2,.slice a3 l3 c3,.slice a4 l4 c4,.slice a5 l5 c5] 38)
 have hsz:x.kids.size+x.alts.size≤1048576:=by unfold szSrc at hs;omega
 have C0:Hid _:=specSourceT x a0 l0 c0 a1 l1 c1 a2 l2 c2 a3 l3 c3 a4 l4 c4 a5 l5 c5 _ (h.none gA);have L0:Hid (w.grownBy _ none∧_=some (Obj.cells #[.slice a0 l0 c0,.int .i64 x.p.k,.int .i64 x.p.n,.slice a1 l1 c1,.slice a2 l2 c2,.slice a3 l3 c3,.slice a4 l4 c4,.slice a5 l5 c5] 38)):=⟨gA,bA⟩;have HN:Hid (RdSrc w x a0 l0 c0 a1 l1 c1 a2 l2 c2 a3 l3 c3 a4 l4 c4 a5 l5 c5):=h;obtain ⟨⟨y0,y1,y2,y3,y4,y5,y6,y7⟩,-⟩:=blkSrc bA;clear h gA bA hs;go_enter Tryz.func18,Tryz.ntmps18;go_wp2_with fail;refine Calls.mono C0.out ?_;rintro e u ⟨rfl,hg⟩;generalize w.alloc (.cells #[.slice a0 l0 c0,.int .i64 x.p.k,.int .i64 x.p.n,.slice a1 l1 c1,.slice a2 l2 c2,.slice a3 l3 c3,.slice a4 l4 c4,.slice a5 l5 c5] 38)=w0 at *;have L1:Hid (w.grownBy u none∧u.heap[w.heap.size]? = some (Obj.cells #[.slice a0 l0 c0,.int .i64 x.p.k,.int .i64 x.p.n,.slice a1 l1 c1,.slice a2 l2 c2,.slice a3 l3 c3,.slice a4 l4 c4,.slice a5 l5 c5] 38)):=⟨grown_trans L0.out.1 hg,(hg.block _ (lt_of_block L0.out.2) (by simp)).trans L0.out.2⟩
 clear C0 L0 hg y0 y1 y2 y3 y4 y5 y6 y7;obtain ⟨⟨y0,y1,y2,y3,y4,y5,y6,y7⟩,-⟩:=blkSrc L1.out.2;simp only[]
 cases hv:srcV x with
 | false =>
  have EV:Hid (namV x=false):=by show _=_;unfold namV;rw[hv];rfl
  clear hv;go_wp2;go_ret;exact ⟨by rw[EV.out];rfl,L1.out.1⟩
 | true =>
  have EV:Hid (namV x=(l6E x.ds [] x.p x.kids x.alts)):=by show _=_;unfold namV;rw[hv,Bool.true_and]
  have C1:Hid _:=l6T x.ds a0 l0 c0 (x.kids.size+x.alts.size+1) x.p x.kids x.alts a1 l1 c1 a2 l2 c2 a3 l3 c3 a4 l4 c4 a5 l5 c5 [] none 0 0 u (by omega) (by simp only[List.length_nil];omega) (HN.out.none L1.out.1).2 ⟨rfl,by omega,.inl rfl⟩ (HN.out.none L1.out.1).1.1;clear hv;go_wp2_with fail;refine Calls.mono C1.out ?_;rintro e u2 ⟨he,hg⟩;subst he;have G:Hid (w.grownBy u2 none):=grown_trans L1.out.1 hg;clear C1 hg L1 y0 y1 y2 y3 y4 y5 y6 y7;generalize (l6E x.ds [] x.p x.kids x.alts)=bb at *;simp only[];go_wp2;go_ret;exact ⟨by rw[EV.out];rfl,G.out⟩
set_option maxRecDepth 8000 in
set_option maxHeartbeats 8000000 in
theorem lawNamesOk (x:RSrc) (a0:Option Addr) (l0 c0:Nat) (a1:Option Addr) (l1 c1:Nat) (a2:Option Addr) (l2 c2:Nat) (a3:Option Addr) (l3 c3:Nat) (a4:Option Addr) (l4 c4:Nat) (a5:Option Addr) (l5 c5:Nat) (w:World) (h:RdSrc w x a0 l0 c0 a1 l1 c1 a2 l2 c2 a3 l3 c3 a4 l4 c4 a5 l5 c5) (hF:Bas w) :
  Calls Tryz.prog 5 #[.agg #[.slice a0 l0 c0,.int .i64 x.p.k,.int .i64 x.p.n,.slice a1 l1 c1,.slice a2 l2 c2,.slice a3 l3 c3,.slice a4 l4 c4,.slice a5 l5 c5]] w fun e u=>e = .returned (.bool true)∧w.grownBy u none:=by
 have g0:=World.grownBy_alloc w (.cells #[.slice a0 l0 c0,.int .i64 x.p.k,.int .i64 x.p.n,.slice a1 l1 c1,.slice a2 l2 c2,.slice a3 l3 c3,.slice a4 l4 c4,.slice a5 l5 c5] 29) none;have b0:=heap_alloc_new w (.cells #[.slice a0 l0 c0,.int .i64 x.p.k,.int .i64 x.p.n,.slice a1 l1 c1,.slice a2 l2 c2,.slice a3 l3 c3,.slice a4 l4 c4,.slice a5 l5 c5] 29)
 have HF:Hid (∀ u,w.grownBy u none→Bas u):=fun u hu=>hF.grown hu
 clear hF
 have HS:Hid (∀ u,w.grownBy u none→RdSrc u x a0 l0 c0 a1 l1 c1 a2 l2 c2 a3 l3 c3 a4 l4 c4 a5 l5 c5):=fun u hu=>h.none hu
 have C0:Hid _:=szSrcT x a0 l0 c0 a1 l1 c1 a2 l2 c2 a3 l3 c3 a4 l4 c4 a5 l5 c5 1048576 _ (h.none g0) (by omega) (by omega);have L0:Hid (w.grownBy _ none∧_=some (Obj.cells #[.slice a0 l0 c0,.int .i64 x.p.k,.int .i64 x.p.n,.slice a1 l1 c1,.slice a2 l2 c2,.slice a3 l3 c3,.slice a4 l4 c4,.slice a5 l5 c5] 29)):=⟨g0,b0⟩;obtain ⟨⟨y0,y1,y2,y3,y4,y5,y6,y7⟩,-⟩:=blkSrc b0;clear h g0 b0;go_enter Tryz.func5,Tryz.ntmps5;go_wp2_with fail;refine Calls.mono C0.out ?_;rintro e w1 ⟨⟨r,he,hr⟩,hg⟩;subst he;have L1:Hid (w.grownBy w1 none∧w1.heap[w.heap.size]? = some (Obj.cells #[.slice a0 l0 c0,.int .i64 x.p.k,.int .i64 x.p.n,.slice a1 l1 c1,.slice a2 l2 c2,.slice a3 l3 c3,.slice a4 l4 c4,.slice a5 l5 c5] 29)):=⟨grown_trans L0.out.1 hg,(hg.block _ (lt_of_block L0.out.2) (by simp)).trans L0.out.2⟩;clear C0 L0 hg y0 y1 y2 y3 y4 y5 y6 y7;simp only[];rcases hr with rfl|⟨hr0,hr1⟩
 ·
  go_wp2;go_ret;exact ⟨rfl,L1.out.1⟩
 have hs':szSrc x≤1048576:=by omega
 have hneg:¬ r < 0:=by omega
 have C1:Hid _:=toSrcT x a0 l0 c0 a1 l1 c1 a2 l2 c2 a3 l3 c3 a4 l4 c4 a5 l5 c5 w1 (HS.out _ L1.out.1) hs';obtain ⟨⟨y0,y1,y2,y3,y4,y5,y6,y7⟩,-⟩:=blkSrc L1.out.2;go_wp2_with fail;refine Calls.mono C1.out ?_;rintro e w2 ⟨t0,v0,t1,v1,t2,v2,t3,v3,t4,v4,t5,v5,he,hg,hn⟩;subst he;have L2:Hid (w.grownBy w2 none∧w2.heap[w.heap.size]? = some (Obj.cells #[.slice a0 l0 c0,.int .i64 x.p.k,.int .i64 x.p.n,.slice a1 l1 c1,.slice a2 l2 c2,.slice a3 l3 c3,.slice a4 l4 c4,.slice a5 l5 c5] 29)):=⟨grown_trans L1.out.1 hg,(hg.block _ (lt_of_block L1.out.2) (by simp)).trans L1.out.2⟩;have C2:Hid _:=specNamesT x t0 l0 v0 t1 l1 v1 t2 l2 v2 t3 l3 v3 t4 l4 v4 t5 l5 v5 w2 (hn.le CLe.unhidz) hs';clear C1 L1 hg hn y0 y1 y2 y3 y4 y5 y6 y7;simp only[];go_wp2_with fail;refine Calls.mono C2.out ?_;rintro e w3 ⟨he,hg⟩;subst he;have L3:Hid (w.grownBy w3 none∧w3.heap[w.heap.size]? = some (Obj.cells #[.slice a0 l0 c0,.int .i64 x.p.k,.int .i64 x.p.n,.slice a1 l1 c1,.slice a2 l2 c2,.slice a3 l3 c3,.slice a4 l4 c4,.slice a5 l5 c5] 29)):=⟨grown_trans L2.out.1 hg,(hg.block _ (lt_of_block L2.out.2) (by simp)).trans L2.out.2⟩
 clear C2 L2 hg;have C3:Hid _:=toSrcT x a0 l0 c0 a1 l1 c1 a2 l2 c2 a3 l3 c3 a4 l4 c4 a5 l5 c5 w3 (HS.out _ L3.out.1) hs';obtain ⟨⟨y0,y1,y2,y3,y4,y5,y6,y7⟩,-⟩:=blkSrc L3.out.2;simp only[];go_wp2_with fail;refine Calls.mono C3.out ?_;rintro e w4 ⟨s0,z0,s1,z1,s2,z2,s3,z3,s4,z4,s5,z5,he,hg,hn⟩;subst he;have L4:Hid (w.grownBy w4 none∧w4.heap[w.heap.size]? = some (Obj.cells #[.slice a0 l0 c0,.int .i64 x.p.k,.int .i64 x.p.n,.slice a1 l1 c1,.slice a2 l2 c2,.slice a3 l3 c3,.slice a4 l4 c4,.slice a5 l5 c5] 29)∧RdSrc w4 x s0 l0 z0 s1 l1 z1 s2 l2 z2 s3 l3 z3 s4 l4 z4 s5 l5 z5):=⟨grown_trans L3.out.1 hg,(hg.block _ (lt_of_block L3.out.2) (by simp)).trans L3.out.2,hn.le CLe.unhidz⟩;clear C3 L3 hg hn y0 y1 y2 y3 y4 y5 y6 y7;have ga:=World.grownBy_alloc w4 (.cells #[.slice s0 l0 z0,.int .i64 x.p.k,.int .i64 x.p.n,.slice s1 l1 z1,.slice s2 l2 z2,.slice s3 l3 z3,.slice s4 l4 z4,.slice s5 l5 z5] 38) none;have ba:=heap_alloc_new w4 (.cells #[.slice s0 l0 z0,.int .i64 x.p.k,.int .i64 x.p.n,.slice s1 l1 z1,.slice s2 l2 z2,.slice s3 l3 z3,.slice s4 l4 z4,.slice s5 l5 z5] 38)
 have C4:Hid _:=implNamesT x s0 l0 z0 s1 l1 z1 s2 l2 z2 s3 l3 z3 s4 l4 z4 s5 l5 z5 _ (L4.out.2.2.none ga) (HF.out _ (grown_trans L4.out.1 ga)) hs';have L5:Hid (w.grownBy _ none∧_=some (Obj.cells #[.slice a0 l0 c0,.int .i64 x.p.k,.int .i64 x.p.n,.slice a1 l1 c1,.slice a2 l2 c2,.slice a3 l3 c3,.slice a4 l4 c4,.slice a5 l5 c5] 29)∧RdSrc _ x s0 l0 z0 s1 l1 z1 s2 l2 z2 s3 l3 z3 s4 l4 z4 s5 l5 z5∧_=some (Obj.cells #[.slice s0 l0 z0,.int .i64 x.p.k,.int .i64 x.p.n,.slice s1 l1 z1,.slice s2 l2 z2,.slice s3 l3 z3,.slice s4 l4 z4,.slice s5 l5 z5] 38)):=⟨grown_trans L4.out.1 ga,(ga.block _ (lt_of_block L4.out.2.1) (by simp)).trans L4.out.2.1,L4.out.2.2.none ga,ba⟩;clear L4 ga ba;simp only[];go_wp2_with fail;refine Calls.mono C4.out ?_;rintro e w5 ⟨he,hg⟩;subst he;generalize w4.heap.size=p4 at *;have L6:Hid (w.grownBy w5 none∧w5.heap[w.heap.size]? = some (Obj.cells #[.slice a0 l0 c0,.int .i64 x.p.k,.int .i64 x.p.n,.slice a1 l1 c1,.slice a2 l2 c2,.slice a3 l3 c3,.slice a4 l4 c4,.slice a5 l5 c5] 29)∧RdSrc w5 x s0 l0 z0 s1 l1 z1 s2 l2 z2 s3 l3 z3 s4 l4 z4 s5 l5 z5∧w5.heap[p4]? = some (Obj.cells #[.slice s0 l0 z0,.int .i64 x.p.k,.int .i64 x.p.n,.slice s1 l1 z1,.slice s2 l2 z2,.slice s3 l3 z3,.slice s4 l4 z4,.slice s5 l5 z5] 38)):=⟨grown_trans L5.out.1 hg,(hg.block _ (lt_of_block L5.out.2.1) (by simp)).trans L5.out.2.1,L5.out.2.2.1.none hg,(hg.block _ (lt_of_block L5.out.2.2.2) (by simp)).trans L5.out.2.2.2⟩
 clear L5 C4 hg;generalize w.heap.size=p0 at *;have gd:=grown_drew (World.grownBy.refl w5 none);have C6:Hid _:=toSrcT x a0 l0 c0 a1 l1 c1 a2 l2 c2 a3 l3 c3 a4 l4 c4 a5 l5 c5 w5.drew (HS.out _ (grown_trans L6.out.1 gd)) hs'
 have TT:Hid (∀ u,w5.drew.grownBy u none→((u.cell? ⟨p4,0,none⟩=some (.slice s0 l0 z0)∧u.cell? ⟨p4,1,none⟩=some (.int .i64 x.p.k)∧u.cell? ⟨p4,2,none⟩=some (.int .i64 x.p.n)∧u.cell? ⟨p4,3,none⟩=some (.slice s1 l1 z1)∧u.cell? ⟨p4,4,none⟩=some (.slice s2 l2 z2)∧u.cell? ⟨p4,5,none⟩=some (.slice s3 l3 z3)∧u.cell? ⟨p4,6,none⟩=some (.slice s4 l4 z4)∧u.cell? ⟨p4,7,none⟩=some (.slice s5 l5 z5))∧(u.cell? ⟨p0,0,none⟩=some (.slice a0 l0 c0)∧u.cell? ⟨p0,1,none⟩=some (.int .i64 x.p.k)∧u.cell? ⟨p0,2,none⟩=some (.int .i64 x.p.n)∧u.cell? ⟨p0,3,none⟩=some (.slice a1 l1 c1)∧u.cell? ⟨p0,4,none⟩=some (.slice a2 l2 c2)∧u.cell? ⟨p0,5,none⟩=some (.slice a3 l3 c3)∧u.cell? ⟨p0,6,none⟩=some (.slice a4 l4 c4)∧u.cell? ⟨p0,7,none⟩=some (.slice a5 l5 c5)))):=fun u hu=>by
  have hgu:=grown_trans gd hu;exact ⟨(blkSrc ((hgu.block _ (lt_of_block L6.out.2.2.2) (by simp)).trans L6.out.2.2.2)).1,(blkSrc ((hgu.block _ (lt_of_block L6.out.2.1) (by simp)).trans L6.out.2.1)).1⟩
 have L7:Hid (w.grownBy w5.drew none∧RdSrc w5.drew x s0 l0 z0 s1 l1 z1 s2 l2 z2 s3 l3 z3 s4 l4 z4 s5 l5 z5):=⟨grown_trans L6.out.1 gd,L6.out.2.2.1.none gd⟩;clear gd L6;generalize namV x=bb at *;simp only[];go_wp2_with fail;refine wp_region_held_drew (S:=(fun u=>((u.cell? ⟨p4,0,none⟩=some (.slice s0 l0 z0)∧u.cell? ⟨p4,1,none⟩=some (.int .i64 x.p.k)∧u.cell? ⟨p4,2,none⟩=some (.int .i64 x.p.n)∧u.cell? ⟨p4,3,none⟩=some (.slice s1 l1 z1)∧u.cell? ⟨p4,4,none⟩=some (.slice s2 l2 z2)∧u.cell? ⟨p4,5,none⟩=some (.slice s3 l3 z3)∧u.cell? ⟨p4,6,none⟩=some (.slice s4 l4 z4)∧u.cell? ⟨p4,7,none⟩=some (.slice s5 l5 z5))∧(u.cell? ⟨p0,0,none⟩=some (.slice a0 l0 c0)∧u.cell? ⟨p0,1,none⟩=some (.int .i64 x.p.k)∧u.cell? ⟨p0,2,none⟩=some (.int .i64 x.p.n)∧u.cell? ⟨p0,3,none⟩=some (.slice a1 l1 c1)∧u.cell? ⟨p0,4,none⟩=some (.slice a2 l2 c2)∧u.cell? ⟨p0,5,none⟩=some (.slice a3 l3 c3)∧u.cell? ⟨p0,6,none⟩=some (.slice a4 l4 c4)∧u.cell? ⟨p0,7,none⟩=some (.slice a5 l5 c5))))) (by kernel_rfl) (TT.out _ (World.grownBy.refl _ _)) (fun hH=>?_)
 generalize w5.drew=u at *;simp only[List.size_toArray,List.length_cons,List.length_nil,Nat.reduceAdd,Array.replicate,List.replicate];refine tk 0 rfl hH ?_;refine tk 1 rfl hH ?_;refine rd 2 rfl (fun K hK=>?_);go_simp;refine Calls.mono C6.out ?_;rintro e w6 ⟨q0,r0,q1,r1,q2,r2,q3,r3,q4,r4,q5,r5,he,hg,hn⟩;subst he;refine hK.out _ _ (TT.out _ hg) ?_;clear hK K hH;intro hH;have C7:Hid _:=eqSrcT x s0 q0 l0 z0 r0 s1 q1 l1 z1 r1 s2 q2 l2 z2 r2 s3 q3 l3 z3 r3 s4 q4 l4 z4 r4 s5 q5 l5 z5 r5 w6 (L7.out.2.none hg) (hn.le CLe.unhidz) hs';have L8:Hid (w.grownBy w6 none∧u.grownBy w6 none):=⟨grown_trans L7.out.1 hg,hg⟩;clear L7 C6 hn hg;simp only[Act.put,nA,nB,nC,nD,nE,nF];refine rd 3 rfl (fun K hK=>?_);go_simp;refine Calls.mono C7.out ?_;rintro e w7 ⟨he,hg⟩;subst he;refine hK.out _ _ (TT.out _ (grown_trans L8.out.2 hg)) ?_;clear hK K hH;intro hH;have L9:Hid (w.grownBy w7 none):=grown_trans L8.out.1 hg;clear L8 C7 hg TT
 simp only[Act.put,nA,nB,nC,nD,nE,nF];refine tk 4 rfl hH ?_;refine wpAnyH_done (by kernel_rfl) ?_ _;go_wp2;go_ret;exact ⟨rfl,L9.out⟩
end Go.Proofs.YtblbnillilbacaaGreatDoor.By
