/-
  No statement is proved here.
-/
import Derived.Test.YtblbnillilbacaaGreatDoorARAa
import Derived.Test.YtblbnillilbacaaGreatDoorLawSourceOkAlsoa
namespace Go.Proofs.YtblbnillilbacaaGreatDoor.By
set_option maxRecDepth 100000
set_option maxHeartbeats 16000000
open Go.RowKit
set_option linter.unusedVariables false
set_option linter.unusedSimpArgs false
def namV (x:RSrc):Bool:=srcV x && l6E x.ds [] x.p x.kids x.alts
theorem srcV_ok {x:RSrc} (h:srcV x=true):okE x.p x.kids x.alts 40=true:=by
 unfold srcV srcP at h;simp only[Bool.and_eq_true] at h;exact h.1.2.1
theorem namV_impl {x:RSrc} (h:srcV x=true):namV x=(nmE [] x.p x.kids x.alts && epE x.ds x.p x.kids x.alts):=by
 unfold namV;rw[h,Bool.true_and];exact namesE_eq x.ds x.p x.kids x.alts [] 40 (srcV_ok h)
theorem implNamesT (x:RSrc) (a0:Option Addr) (l0 c0:Nat) (a1:Option Addr) (l1 c1:Nat) (a2:Option Addr) (l2 c2:Nat) (a3:Option Addr) (l3 c3:Nat) (a4:Option Addr) (l4 c4:Nat) (a5:Option Addr) (l5 c5:Nat) (w:World) (h:RdSrc w x a0 l0 c0 a1 l1 c1 a2 l2 c2 a3 l3 c3 a4 l4 c4 a5 l5 c5) (hbas:Bas w) (hs:szSrc x≤1048576) :
  Calls Tryz.prog 19 #[.agg #[.slice a0 l0 c0,.int .i64 x.p.k,.int .i64 x.p.n,.slice a1 l1 c1,.slice a2 l2 c2,.slice a3 l3 c3,.slice a4 l4 c4,.slice a5 l5 c5]] w fun e u=>e = .returned (.bool (namV x))∧w.grownBy u none:=by
 have gA:=gal w (.cells #[.slice a0 l0 c0,.int .i64 x.p.k,.int .i64 x.p.n,.slice a1 l1 c1,.slice a2 l2 c2,.slice a3 l3 c3,.slice a4 l4 c4,.slice a5 l5 c5] 38) none;have bA:=heap_alloc_new w (.cells #[.slice a0 l0 c0,.int .i64 x.p.k,.int .i64 x.p.n,.slice a1 l1 c1,.slice a2 l2 c2,.slice a3 l3 c3,.slice a4 l4 c4,.slice a5 l5 c5] 38)
 have hsz:x.kids.size+x.alts.size≤1048576:=by unfold szSrc at hs;omega
 have C0:Hid _:=implSourceT x a0 l0 c0 a1 l1 c1 a2 l2 c2 a3 l3 c3 a4 l4 c4 a5 l5 c5 _ (h.none gA) (hbas.grown gA) hs;have L0:Hid (w.grownBy _ none∧_=some (Obj.cells #[.slice a0 l0 c0,.int .i64 x.p.k,.int .i64 x.p.n,.slice a1 l1 c1,.slice a2 l2 c2,.slice a3 l3 c3,.slice a4 l4 c4,.slice a5 l5 c5] 38)):=⟨gA,bA⟩;have HN:Hid (RdSrc w x a0 l0 c0 a1 l1 c1 a2 l2 c2 a3 l3 c3 a4 l4 c4 a5 l5 c5):=h;obtain ⟨⟨y0,y1,y2,y3,y4,y5,y6,y7⟩,-⟩:=blkSrc bA;clear h gA bA hs hbas;go_enter Tryz.func19,Tryz.ntmps19;go_wp2_with fail;refine Calls.mono C0.out ?_;rintro e u ⟨rfl,hg⟩;generalize w.alloc (.cells #[.slice a0 l0 c0,.int .i64 x.p.k,.int .i64 x.p.n,.slice a1 l1 c1,.slice a2 l2 c2,.slice a3 l3 c3,.slice a4 l4 c4,.slice a5 l5 c5] 38)=w0 at *;have L1:Hid (w.grownBy u none∧u.heap[w.heap.size]? = some (Obj.cells #[.slice a0 l0 c0,.int .i64 x.p.k,.int .i64 x.p.n,.slice a1 l1 c1,.slice a2 l2 c2,.slice a3 l3 c3,.slice a4 l4 c4,.slice a5 l5 c5] 38)):=⟨gtr L0.out.1 hg,(hg.block _ (lt_of_block L0.out.2) (by simp)).trans L0.out.2⟩
 clear C0 L0 hg y0 y1 y2 y3 y4 y5 y6 y7;obtain ⟨⟨y0,y1,y2,y3,y4,y5,y6,y7⟩,-⟩:=blkSrc L1.out.2;simp only[]
 cases hv:srcV x with
 | false =>
  have EV:Hid (namV x=false):=by show _=_;unfold namV;rw[hv];rfl
  clear hv;go_wp2;go_ret;exact ⟨by rw[EV.out];rfl,L1.out.1⟩
 | true =>
  have EV:Hid (namV x=(nmE [] x.p x.kids x.alts && epE x.ds x.p x.kids x.alts)):=by show _=_;exact namV_impl hv
  have C1:Hid _:=namesStandT x.ds a0 l0 c0 x.p x.kids x.alts a1 l1 c1 a2 l2 c2 a3 l3 c3 a4 l4 c4 a5 l5 c5 u (HN.out.none L1.out.1).1.1 (HN.out.none L1.out.1).2 hsz;clear hv;go_wp2_with fail;refine Calls.mono C1.out ?_;rintro e u2 ⟨he,hg⟩;subst he;have G:Hid (w.grownBy u2 none):=gtr L1.out.1 hg;clear C1 hg L1 y0 y1 y2 y3 y4 y5 y6 y7;generalize (nmE [] x.p x.kids x.alts && epE x.ds x.p x.kids x.alts)=bb at *;simp only[];go_wp2;go_ret;exact ⟨by rw[EV.out];rfl,G.out⟩
theorem specNamesT (x:RSrc) (a0:Option Addr) (l0 c0:Nat) (a1:Option Addr) (l1 c1:Nat) (a2:Option Addr) (l2 c2:Nat) (a3:Option Addr) (l3 c3:Nat) (a4:Option Addr) (l4 c4:Nat) (a5:Option Addr) (l5 c5:Nat) (w:World) (h:RdSrc w x a0 l0 c0 a1 l1 c1 a2 l2 c2 a3 l3 c3 a4 l4 c4 a5 l5 c5) (hs:szSrc x≤1048576) :
  Calls Tryz.prog 18 #[.agg #[.slice a0 l0 c0,.int .i64 x.p.k,.int .i64 x.p.n,.slice a1 l1 c1,.slice a2 l2 c2,.slice a3 l3 c3,.slice a4 l4 c4,.slice a5 l5 c5]] w fun e u=>e = .returned (.bool (namV x))∧w.grownBy u none:=by
 have gA:=gal w (.cells #[.slice a0 l0 c0,.int .i64 x.p.k,.int .i64 x.p.n,.slice a1 l1 c1,.slice a2 l2 c2,.slice a3 l3 c3,.slice a4 l4 c4,.slice a5 l5 c5] 38) none;have bA:=heap_alloc_new w (.cells #[.slice a0 l0 c0,.int .i64 x.p.k,.int .i64 x.p.n,.slice a1 l1 c1,.slice a2 l2 c2,.slice a3 l3 c3,.slice a4 l4 c4,.slice a5 l5 c5] 38)
 have hsz:x.kids.size+x.alts.size≤1048576:=by unfold szSrc at hs;omega
 have C0:Hid _:=specSourceT x a0 l0 c0 a1 l1 c1 a2 l2 c2 a3 l3 c3 a4 l4 c4 a5 l5 c5 _ (h.none gA);have L0:Hid (w.grownBy _ none∧_=some (Obj.cells #[.slice a0 l0 c0,.int .i64 x.p.k,.int .i64 x.p.n,.slice a1 l1 c1,.slice a2 l2 c2,.slice a3 l3 c3,.slice a4 l4 c4,.slice a5 l5 c5] 38)):=⟨gA,bA⟩;have HN:Hid (RdSrc w x a0 l0 c0 a1 l1 c1 a2 l2 c2 a3 l3 c3 a4 l4 c4 a5 l5 c5):=h;obtain ⟨⟨y0,y1,y2,y3,y4,y5,y6,y7⟩,-⟩:=blkSrc bA;clear h gA bA hs;go_enter Tryz.func18,Tryz.ntmps18;go_wp2_with fail;refine Calls.mono C0.out ?_;rintro e u ⟨rfl,hg⟩;generalize w.alloc (.cells #[.slice a0 l0 c0,.int .i64 x.p.k,.int .i64 x.p.n,.slice a1 l1 c1,.slice a2 l2 c2,.slice a3 l3 c3,.slice a4 l4 c4,.slice a5 l5 c5] 38)=w0 at *;have L1:Hid (w.grownBy u none∧u.heap[w.heap.size]? = some (Obj.cells #[.slice a0 l0 c0,.int .i64 x.p.k,.int .i64 x.p.n,.slice a1 l1 c1,.slice a2 l2 c2,.slice a3 l3 c3,.slice a4 l4 c4,.slice a5 l5 c5] 38)):=⟨gtr L0.out.1 hg,(hg.block _ (lt_of_block L0.out.2) (by simp)).trans L0.out.2⟩
 clear C0 L0 hg y0 y1 y2 y3 y4 y5 y6 y7;obtain ⟨⟨y0,y1,y2,y3,y4,y5,y6,y7⟩,-⟩:=blkSrc L1.out.2;simp only[]
 cases hv:srcV x with
 | false =>
  have EV:Hid (namV x=false):=by show _=_;unfold namV;rw[hv];rfl
  clear hv;go_wp2;go_ret;exact ⟨by rw[EV.out];rfl,L1.out.1⟩
 | true =>
  have EV:Hid (namV x=(l6E x.ds [] x.p x.kids x.alts)):=by show _=_;unfold namV;rw[hv,Bool.true_and]
  have C1:Hid _:=l6T x.ds a0 l0 c0 (x.kids.size+x.alts.size+1) x.p x.kids x.alts a1 l1 c1 a2 l2 c2 a3 l3 c3 a4 l4 c4 a5 l5 c5 [] none 0 0 u (by omega) (by simp only[lC];omega) (HN.out.none L1.out.1).2 ⟨rfl,by omega,.inl rfl⟩ (HN.out.none L1.out.1).1.1;clear hv;go_wp2_with fail;refine Calls.mono C1.out ?_;rintro e u2 ⟨he,hg⟩;subst he;have G:Hid (w.grownBy u2 none):=gtr L1.out.1 hg;clear C1 hg L1 y0 y1 y2 y3 y4 y5 y6 y7;generalize (l6E x.ds [] x.p x.kids x.alts)=bb at *;simp only[];go_wp2;go_ret;exact ⟨by rw[EV.out];rfl,G.out⟩
theorem okA {p:PE} {kids alts:GE} (h:okN p kids alts=true) (h16:¬ p.k=16):alts = .nil:=by
 rw[okN_eq] at h;unfold spN armsB at h;simp only[Bool.and_eq_true] at h;have:=h.1.2;rw[if_neg h16] at this;exact GE.nil_of_len (by simpa using this)
theorem found_of {ds:List Da}:∀ {g:GE},badC ds g=false→∀ x ∈ hds g,x.length≠0→0≤cD ds x
 | .nil,_,x,hx,_=>by cases hx
 | .cons hc hv p k a r,h,x,hx,h0=>by
  simp only[badC,Bool.or_eq_false_iff] at h;simp only[hds] at hx;rcases List.mem_cons.1 hx with rfl|hx
  ·
   have h1:=h.1;rw[decide_eq_true (by omega:0 < x.length),Bool.true_and,Bool.not_eq_false'] at h1;unfold cnOk at h1;rcases cIx_here x ds 0 with ⟨-,h2⟩|⟨j,k',y,z,h2,-,-,-⟩
   ·
    rw[h2] at h1;cases h1
   ·
    unfold cD;rw[h2];simp only[];omega
  ·
   exact found_of h.2 x hx h0
theorem arms_all {ds:List Da} (hN:NoE ds):∀ (g:GE) (d:Nat),okG g d=true→epG ds g=true→evG (awE ds) g=baG ds g
 | .nil,_,_,_=>rfl
 | .cons hc hv p kids alts r,d,h,he=>by
  simp only[okG,Bool.and_eq_true] at h;obtain ⟨⟨⟨⟨-,hO⟩,hk⟩,ha⟩,hr⟩:=h;rw[epG_cons] at he;unfold epE cnE at he;simp only[Bool.and_eq_true,Bool.not_eq_true'] at he;obtain ⟨⟨⟨⟨-,hb⟩,ek⟩,ea⟩,er⟩:=he;rw[evG_cons,baG_cons];unfold evE l6aE;rw[arms_all hN kids _ hk ek,arms_all hN alts _ ha ea,arms_all hN r _ hr er];unfold awE;by_cases h16:p.k=16
  ·
   have hl:=ok16 hO h16
   have hne:hds alts≠[]:=fun e=>by have:=hds_len alts;rw[e] at this;simp at this;omega
   have e1:hds alts=(hds alts).dropLast++[(hds alts).getLast hne]:=(List.dropLast_concat_getLast hne).symm
   have e2:awV ds (hds alts)=amsV ds (hds alts):=by
    rw[e1];exact arms_eq hN _ _ (fun x hx h0=>found_of hb x (by rw[e1];exact hx) h0)
   rw[e2,decide_eq_true h16];generalize baG ds kids=b1;generalize baG ds alts=b2;generalize baG ds r=b3;generalize amsV ds (hds alts)=b4
   cases b1 <;> cases b2 <;> cases b3 <;> cases b4 <;> rfl
  ·
   rw[okA hO h16,decide_eq_false h16];simp [baG]
def armsV (x:RSrc):Bool:=namV x && l6aE x.ds x.p x.kids x.alts
theorem namV_src {x:RSrc} (h:namV x=true):srcV x=true:=by
 unfold namV at h;rw[Bool.and_eq_true] at h;exact h.1
theorem noE_of {x:RSrc} (h:srcV x=true):NoE x.ds:=by
 unfold srcV srcP at h;simp only[Bool.and_eq_true] at h;have hd:=(daG_all h.1.1).1;intro y hy c hc e;have:=((hd y hy).2.2.2 c hc).1.1;rw[e] at this;simp [gapB] at this
theorem armsV_impl {x:RSrc} (h:namV x=true):armsV x=evE (awE x.ds) x.p x.kids x.alts:=by
 have hs:=namV_src h;have hn:=namV_impl hs;rw[h] at hn
 have he:epE x.ds x.p x.kids x.alts=true:=by
  have:=hn.symm;rw[Bool.and_eq_true] at this;exact this.2
 unfold armsV;rw[h,Bool.true_and];have hok:=srcV_ok hs;unfold okE at hok;simp only[Bool.and_eq_true] at hok;have:=arms_all (noE_of hs) (.cons [] [] x.p x.kids x.alts .nil) 40 (by simp only[okG,Bool.and_eq_true];exact ⟨hok,trivial⟩) (by rw[epG_cons,he];rfl);rw[evG_cons,baG_cons] at this;simpa [evG,baG] using this.symm
theorem implArmsT (x:RSrc) (a0:Option Addr) (l0 c0:Nat) (a1:Option Addr) (l1 c1:Nat) (a2:Option Addr) (l2 c2:Nat) (a3:Option Addr) (l3 c3:Nat) (a4:Option Addr) (l4 c4:Nat) (a5:Option Addr) (l5 c5:Nat) (w:World) (h:RdSrc w x a0 l0 c0 a1 l1 c1 a2 l2 c2 a3 l3 c3 a4 l4 c4 a5 l5 c5) (hbas:Bas w) (hs:szSrc x≤1048576) :
  Calls Tryz.prog 21 #[.agg #[.slice a0 l0 c0,.int .i64 x.p.k,.int .i64 x.p.n,.slice a1 l1 c1,.slice a2 l2 c2,.slice a3 l3 c3,.slice a4 l4 c4,.slice a5 l5 c5]] w fun e u=>e = .returned (.bool (armsV x))∧w.grownBy u none:=by
 have gA:=gal w (.cells #[.slice a0 l0 c0,.int .i64 x.p.k,.int .i64 x.p.n,.slice a1 l1 c1,.slice a2 l2 c2,.slice a3 l3 c3,.slice a4 l4 c4,.slice a5 l5 c5] 38) none;have bA:=heap_alloc_new w (.cells #[.slice a0 l0 c0,.int .i64 x.p.k,.int .i64 x.p.n,.slice a1 l1 c1,.slice a2 l2 c2,.slice a3 l3 c3,.slice a4 l4 c4,.slice a5 l5 c5] 38)
 have hsz:x.kids.size+x.alts.size≤1048576:=by unfold szSrc at hs;omega
 have C0:Hid _:=implNamesT x a0 l0 c0 a1 l1 c1 a2 l2 c2 a3 l3 c3 a4 l4 c4 a5 l5 c5 _ (h.none gA) (hbas.grown gA) hs;have L0:Hid (w.grownBy _ none∧_=some (Obj.cells #[.slice a0 l0 c0,.int .i64 x.p.k,.int .i64 x.p.n,.slice a1 l1 c1,.slice a2 l2 c2,.slice a3 l3 c3,.slice a4 l4 c4,.slice a5 l5 c5] 38)):=⟨gA,bA⟩;have HN:Hid (RdSrc w x a0 l0 c0 a1 l1 c1 a2 l2 c2 a3 l3 c3 a4 l4 c4 a5 l5 c5):=h;obtain ⟨⟨y0,y1,y2,y3,y4,y5,y6,y7⟩,-⟩:=blkSrc bA;clear h gA bA hs hbas;go_enter Tryz.func21,Tryz.ntmps21;go_wp2_with fail;refine Calls.mono C0.out ?_;rintro e u ⟨rfl,hg⟩;generalize w.alloc (.cells #[.slice a0 l0 c0,.int .i64 x.p.k,.int .i64 x.p.n,.slice a1 l1 c1,.slice a2 l2 c2,.slice a3 l3 c3,.slice a4 l4 c4,.slice a5 l5 c5] 38)=w0 at *;have L1:Hid (w.grownBy u none∧u.heap[w.heap.size]? = some (Obj.cells #[.slice a0 l0 c0,.int .i64 x.p.k,.int .i64 x.p.n,.slice a1 l1 c1,.slice a2 l2 c2,.slice a3 l3 c3,.slice a4 l4 c4,.slice a5 l5 c5] 38)):=⟨gtr L0.out.1 hg,(hg.block _ (lt_of_block L0.out.2) (by simp)).trans L0.out.2⟩
 clear C0 L0 hg y0 y1 y2 y3 y4 y5 y6 y7;obtain ⟨⟨y0,y1,y2,y3,y4,y5,y6,y7⟩,-⟩:=blkSrc L1.out.2;simp only[]
 cases hv:namV x with
 | false =>
  have EV:Hid (armsV x=false):=by show _=_;unfold armsV;rw[hv];rfl
  clear hv;go_wp2;go_ret;exact ⟨by rw[EV.out];rfl,L1.out.1⟩
 | true =>
  have EV:Hid (armsV x=(evE (awE x.ds) x.p x.kids x.alts)):=by show _=_;exact armsV_impl hv
  have C1:Hid _:=armsStandT x.ds a0 l0 c0 x.p x.kids x.alts a1 l1 c1 a2 l2 c2 a3 l3 c3 a4 l4 c4 a5 l5 c5 u (HN.out.none L1.out.1).1.1 (HN.out.none L1.out.1).2 hsz (srcV_ok (namV_src hv));clear hv;go_wp2_with fail;refine Calls.mono C1.out ?_;rintro e u2 ⟨he,hg⟩;subst he;have G:Hid (w.grownBy u2 none):=gtr L1.out.1 hg;clear C1 hg L1 y0 y1 y2 y3 y4 y5 y6 y7;generalize (evE (awE x.ds) x.p x.kids x.alts)=bb at *;simp only[];go_wp2;go_ret;exact ⟨by rw[EV.out];rfl,G.out⟩
theorem specArmsT (x:RSrc) (a0:Option Addr) (l0 c0:Nat) (a1:Option Addr) (l1 c1:Nat) (a2:Option Addr) (l2 c2:Nat) (a3:Option Addr) (l3 c3:Nat) (a4:Option Addr) (l4 c4:Nat) (a5:Option Addr) (l5 c5:Nat) (w:World) (h:RdSrc w x a0 l0 c0 a1 l1 c1 a2 l2 c2 a3 l3 c3 a4 l4 c4 a5 l5 c5) (hs:szSrc x≤1048576) :
  Calls Tryz.prog 20 #[.agg #[.slice a0 l0 c0,.int .i64 x.p.k,.int .i64 x.p.n,.slice a1 l1 c1,.slice a2 l2 c2,.slice a3 l3 c3,.slice a4 l4 c4,.slice a5 l5 c5]] w fun e u=>e = .returned (.bool (armsV x))∧w.grownBy u none:=by
 have gA:=gal w (.cells #[.slice a0 l0 c0,.int .i64 x.p.k,.int .i64 x.p.n,.slice a1 l1 c1,.slice a2 l2 c2,.slice a3 l3 c3,.slice a4 l4 c4,.slice a5 l5 c5] 38) none;have bA:=heap_alloc_new w (.cells #[.slice a0 l0 c0,.int .i64 x.p.k,.int .i64 x.p.n,.slice a1 l1 c1,.slice a2 l2 c2,.slice a3 l3 c3,.slice a4 l4 c4,.slice a5 l5 c5] 38)
 have hsz:x.kids.size+x.alts.size≤1048576:=by unfold szSrc at hs;omega
 have C0:Hid _:=specNamesT x a0 l0 c0 a1 l1 c1 a2 l2 c2 a3 l3 c3 a4 l4 c4 a5 l5 c5 _ (h.none gA) hs;have L0:Hid (w.grownBy _ none∧_=some (Obj.cells #[.slice a0 l0 c0,.int .i64 x.p.k,.int .i64 x.p.n,.slice a1 l1 c1,.slice a2 l2 c2,.slice a3 l3 c3,.slice a4 l4 c4,.slice a5 l5 c5] 38)):=⟨gA,bA⟩;have HN:Hid (RdSrc w x a0 l0 c0 a1 l1 c1 a2 l2 c2 a3 l3 c3 a4 l4 c4 a5 l5 c5):=h;obtain ⟨⟨y0,y1,y2,y3,y4,y5,y6,y7⟩,-⟩:=blkSrc bA;clear h gA bA hs;go_enter Tryz.func20,Tryz.ntmps20;go_wp2_with fail;refine Calls.mono C0.out ?_;rintro e u ⟨rfl,hg⟩;generalize w.alloc (.cells #[.slice a0 l0 c0,.int .i64 x.p.k,.int .i64 x.p.n,.slice a1 l1 c1,.slice a2 l2 c2,.slice a3 l3 c3,.slice a4 l4 c4,.slice a5 l5 c5] 38)=w0 at *;have L1:Hid (w.grownBy u none∧u.heap[w.heap.size]? = some (Obj.cells #[.slice a0 l0 c0,.int .i64 x.p.k,.int .i64 x.p.n,.slice a1 l1 c1,.slice a2 l2 c2,.slice a3 l3 c3,.slice a4 l4 c4,.slice a5 l5 c5] 38)):=⟨gtr L0.out.1 hg,(hg.block _ (lt_of_block L0.out.2) (by simp)).trans L0.out.2⟩
 clear C0 L0 hg y0 y1 y2 y3 y4 y5 y6 y7;obtain ⟨⟨y0,y1,y2,y3,y4,y5,y6,y7⟩,-⟩:=blkSrc L1.out.2;simp only[]
 cases hv:namV x with
 | false =>
  have EV:Hid (armsV x=false):=by show _=_;unfold armsV;rw[hv];rfl
  clear hv;go_wp2;go_ret;exact ⟨by rw[EV.out];rfl,L1.out.1⟩
 | true =>
  have EV:Hid (armsV x=(l6aE x.ds x.p x.kids x.alts)):=by show _=_;unfold armsV;rw[hv,Bool.true_and]
  have C1:Hid _:=l6bT x.ds a0 l0 c0 (x.kids.size+x.alts.size+1) x.p x.kids x.alts a1 l1 c1 a2 l2 c2 a3 l3 c3 a4 l4 c4 a5 l5 c5 u (by omega) hsz (HN.out.none L1.out.1).2 (HN.out.none L1.out.1).1.1;clear hv;go_wp2_with fail;refine Calls.mono C1.out ?_;rintro e u2 ⟨he,hg⟩;subst he;have G:Hid (w.grownBy u2 none):=gtr L1.out.1 hg;clear C1 hg L1 y0 y1 y2 y3 y4 y5 y6 y7;generalize (l6aE x.ds x.p x.kids x.alts)=bb at *;simp only[];go_wp2;go_ret;exact ⟨by rw[EV.out];rfl,G.out⟩
theorem lawArmsOk (x:RSrc) (a0:Option Addr) (l0 c0:Nat) (a1:Option Addr) (l1 c1:Nat) (a2:Option Addr) (l2 c2:Nat) (a3:Option Addr) (l3 c3:Nat) (a4:Option Addr) (l4 c4:Nat) (a5:Option Addr) (l5 c5:Nat) (w:World) (h:RdSrc w x a0 l0 c0 a1 l1 c1 a2 l2 c2 a3 l3 c3 a4 l4 c4 a5 l5 c5) (hF:Bas w) :
  Calls Tryz.prog 6 #[.agg #[.slice a0 l0 c0,.int .i64 x.p.k,.int .i64 x.p.n,.slice a1 l1 c1,.slice a2 l2 c2,.slice a3 l3 c3,.slice a4 l4 c4,.slice a5 l5 c5]] w fun e u=>e = .returned (.bool true)∧w.grownBy u none:=by
 have g0:=gal w (.cells #[.slice a0 l0 c0,.int .i64 x.p.k,.int .i64 x.p.n,.slice a1 l1 c1,.slice a2 l2 c2,.slice a3 l3 c3,.slice a4 l4 c4,.slice a5 l5 c5] 29) none;have b0:=heap_alloc_new w (.cells #[.slice a0 l0 c0,.int .i64 x.p.k,.int .i64 x.p.n,.slice a1 l1 c1,.slice a2 l2 c2,.slice a3 l3 c3,.slice a4 l4 c4,.slice a5 l5 c5] 29)
 have HF:Hid (∀ u,w.grownBy u none→Bas u):=fun u hu=>hF.grown hu
 clear hF
 have HS:Hid (∀ u,w.grownBy u none→RdSrc u x a0 l0 c0 a1 l1 c1 a2 l2 c2 a3 l3 c3 a4 l4 c4 a5 l5 c5):=fun u hu=>h.none hu
 have C0:Hid _:=szSrcT x a0 l0 c0 a1 l1 c1 a2 l2 c2 a3 l3 c3 a4 l4 c4 a5 l5 c5 1048576 _ (h.none g0) (by omega) (by omega);have L0:Hid (w.grownBy _ none∧_=some (Obj.cells #[.slice a0 l0 c0,.int .i64 x.p.k,.int .i64 x.p.n,.slice a1 l1 c1,.slice a2 l2 c2,.slice a3 l3 c3,.slice a4 l4 c4,.slice a5 l5 c5] 29)):=⟨g0,b0⟩;obtain ⟨⟨y0,y1,y2,y3,y4,y5,y6,y7⟩,-⟩:=blkSrc b0;clear h g0 b0;go_enter Tryz.func6,Tryz.ntmps6;go_wp2_with fail;refine Calls.mono C0.out ?_;rintro e w1 ⟨⟨r,he,hr⟩,hg⟩;subst he;have L1:Hid (w.grownBy w1 none∧w1.heap[w.heap.size]? = some (Obj.cells #[.slice a0 l0 c0,.int .i64 x.p.k,.int .i64 x.p.n,.slice a1 l1 c1,.slice a2 l2 c2,.slice a3 l3 c3,.slice a4 l4 c4,.slice a5 l5 c5] 29)):=⟨gtr L0.out.1 hg,(hg.block _ (lt_of_block L0.out.2) (by simp)).trans L0.out.2⟩;clear C0 L0 hg y0 y1 y2 y3 y4 y5 y6 y7;simp only[];rcases hr with rfl|⟨hr0,hr1⟩
 ·
  go_wp2;go_ret;exact ⟨rfl,L1.out.1⟩
 have hs':szSrc x≤1048576:=by omega
 have hneg:¬ r < 0:=by omega
 have C1:Hid _:=toSrcT x a0 l0 c0 a1 l1 c1 a2 l2 c2 a3 l3 c3 a4 l4 c4 a5 l5 c5 w1 (HS.out _ L1.out.1) hs';obtain ⟨⟨y0,y1,y2,y3,y4,y5,y6,y7⟩,-⟩:=blkSrc L1.out.2;go_wp2_with fail;refine Calls.mono C1.out ?_;rintro e w2 ⟨t0,v0,t1,v1,t2,v2,t3,v3,t4,v4,t5,v5,he,hg,hn⟩;subst he;have L2:Hid (w.grownBy w2 none∧w2.heap[w.heap.size]? = some (Obj.cells #[.slice a0 l0 c0,.int .i64 x.p.k,.int .i64 x.p.n,.slice a1 l1 c1,.slice a2 l2 c2,.slice a3 l3 c3,.slice a4 l4 c4,.slice a5 l5 c5] 29)):=⟨gtr L1.out.1 hg,(hg.block _ (lt_of_block L1.out.2) (by simp)).trans L1.out.2⟩;have C2:Hid _:=specArmsT x t0 l0 v0 t1 l1 v1 t2 l2 v2 t3 l3 v3 t4 l4 v4 t5 l5 v5 w2 (hn.le CLe.unhidz) hs';clear C1 L1 hg hn y0 y1 y2 y3 y4 y5 y6 y7;simp only[];go_wp2_with fail;refine Calls.mono C2.out ?_;rintro e w3 ⟨he,hg⟩;subst he;have L3:Hid (w.grownBy w3 none∧w3.heap[w.heap.size]? = some (Obj.cells #[.slice a0 l0 c0,.int .i64 x.p.k,.int .i64 x.p.n,.slice a1 l1 c1,.slice a2 l2 c2,.slice a3 l3 c3,.slice a4 l4 c4,.slice a5 l5 c5] 29)):=⟨gtr L2.out.1 hg,(hg.block _ (lt_of_block L2.out.2) (by simp)).trans L2.out.2⟩
 clear C2 L2 hg;have C3:Hid _:=toSrcT x a0 l0 c0 a1 l1 c1 a2 l2 c2 a3 l3 c3 a4 l4 c4 a5 l5 c5 w3 (HS.out _ L3.out.1) hs';obtain ⟨⟨y0,y1,y2,y3,y4,y5,y6,y7⟩,-⟩:=blkSrc L3.out.2;simp only[];go_wp2_with fail;refine Calls.mono C3.out ?_;rintro e w4 ⟨s0,z0,s1,z1,s2,z2,s3,z3,s4,z4,s5,z5,he,hg,hn⟩;subst he;have L4:Hid (w.grownBy w4 none∧w4.heap[w.heap.size]? = some (Obj.cells #[.slice a0 l0 c0,.int .i64 x.p.k,.int .i64 x.p.n,.slice a1 l1 c1,.slice a2 l2 c2,.slice a3 l3 c3,.slice a4 l4 c4,.slice a5 l5 c5] 29)∧RdSrc w4 x s0 l0 z0 s1 l1 z1 s2 l2 z2 s3 l3 z3 s4 l4 z4 s5 l5 z5):=⟨gtr L3.out.1 hg,(hg.block _ (lt_of_block L3.out.2) (by simp)).trans L3.out.2,hn.le CLe.unhidz⟩;clear C3 L3 hg hn y0 y1 y2 y3 y4 y5 y6 y7;have ga:=gal w4 (.cells #[.slice s0 l0 z0,.int .i64 x.p.k,.int .i64 x.p.n,.slice s1 l1 z1,.slice s2 l2 z2,.slice s3 l3 z3,.slice s4 l4 z4,.slice s5 l5 z5] 38) none;have ba:=heap_alloc_new w4 (.cells #[.slice s0 l0 z0,.int .i64 x.p.k,.int .i64 x.p.n,.slice s1 l1 z1,.slice s2 l2 z2,.slice s3 l3 z3,.slice s4 l4 z4,.slice s5 l5 z5] 38)
 have C4:Hid _:=implArmsT x s0 l0 z0 s1 l1 z1 s2 l2 z2 s3 l3 z3 s4 l4 z4 s5 l5 z5 _ (L4.out.2.2.none ga) (HF.out _ (gtr L4.out.1 ga)) hs';have L5:Hid (w.grownBy _ none∧_=some (Obj.cells #[.slice a0 l0 c0,.int .i64 x.p.k,.int .i64 x.p.n,.slice a1 l1 c1,.slice a2 l2 c2,.slice a3 l3 c3,.slice a4 l4 c4,.slice a5 l5 c5] 29)∧RdSrc _ x s0 l0 z0 s1 l1 z1 s2 l2 z2 s3 l3 z3 s4 l4 z4 s5 l5 z5∧_=some (Obj.cells #[.slice s0 l0 z0,.int .i64 x.p.k,.int .i64 x.p.n,.slice s1 l1 z1,.slice s2 l2 z2,.slice s3 l3 z3,.slice s4 l4 z4,.slice s5 l5 z5] 38)):=⟨gtr L4.out.1 ga,(ga.block _ (lt_of_block L4.out.2.1) (by simp)).trans L4.out.2.1,L4.out.2.2.none ga,ba⟩;clear L4 ga ba;simp only[];go_wp2_with fail;refine Calls.mono C4.out ?_;rintro e w5 ⟨he,hg⟩;subst he;generalize w4.heap.size=p4 at *;have L6:Hid (w.grownBy w5 none∧w5.heap[w.heap.size]? = some (Obj.cells #[.slice a0 l0 c0,.int .i64 x.p.k,.int .i64 x.p.n,.slice a1 l1 c1,.slice a2 l2 c2,.slice a3 l3 c3,.slice a4 l4 c4,.slice a5 l5 c5] 29)∧RdSrc w5 x s0 l0 z0 s1 l1 z1 s2 l2 z2 s3 l3 z3 s4 l4 z4 s5 l5 z5∧w5.heap[p4]? = some (Obj.cells #[.slice s0 l0 z0,.int .i64 x.p.k,.int .i64 x.p.n,.slice s1 l1 z1,.slice s2 l2 z2,.slice s3 l3 z3,.slice s4 l4 z4,.slice s5 l5 z5] 38)):=⟨gtr L5.out.1 hg,(hg.block _ (lt_of_block L5.out.2.1) (by simp)).trans L5.out.2.1,L5.out.2.2.1.none hg,(hg.block _ (lt_of_block L5.out.2.2.2) (by simp)).trans L5.out.2.2.2⟩
 clear L5 C4 hg;generalize w.heap.size=p0 at *;have gd:=grown_drew (grf w5 none);have C6:Hid _:=toSrcT x a0 l0 c0 a1 l1 c1 a2 l2 c2 a3 l3 c3 a4 l4 c4 a5 l5 c5 w5.drew (HS.out _ (gtr L6.out.1 gd)) hs'
 have TT:Hid (∀ u,w5.drew.grownBy u none→((u.cell? ⟨p4,0,none⟩=some (.slice s0 l0 z0)∧u.cell? ⟨p4,1,none⟩=some (.int .i64 x.p.k)∧u.cell? ⟨p4,2,none⟩=some (.int .i64 x.p.n)∧u.cell? ⟨p4,3,none⟩=some (.slice s1 l1 z1)∧u.cell? ⟨p4,4,none⟩=some (.slice s2 l2 z2)∧u.cell? ⟨p4,5,none⟩=some (.slice s3 l3 z3)∧u.cell? ⟨p4,6,none⟩=some (.slice s4 l4 z4)∧u.cell? ⟨p4,7,none⟩=some (.slice s5 l5 z5))∧(u.cell? ⟨p0,0,none⟩=some (.slice a0 l0 c0)∧u.cell? ⟨p0,1,none⟩=some (.int .i64 x.p.k)∧u.cell? ⟨p0,2,none⟩=some (.int .i64 x.p.n)∧u.cell? ⟨p0,3,none⟩=some (.slice a1 l1 c1)∧u.cell? ⟨p0,4,none⟩=some (.slice a2 l2 c2)∧u.cell? ⟨p0,5,none⟩=some (.slice a3 l3 c3)∧u.cell? ⟨p0,6,none⟩=some (.slice a4 l4 c4)∧u.cell? ⟨p0,7,none⟩=some (.slice a5 l5 c5)))):=fun u hu=>by
  have hgu:=gtr gd hu;exact ⟨(blkSrc ((hgu.block _ (lt_of_block L6.out.2.2.2) (by simp)).trans L6.out.2.2.2)).1,(blkSrc ((hgu.block _ (lt_of_block L6.out.2.1) (by simp)).trans L6.out.2.1)).1⟩
 have L7:Hid (w.grownBy w5.drew none∧RdSrc w5.drew x s0 l0 z0 s1 l1 z1 s2 l2 z2 s3 l3 z3 s4 l4 z4 s5 l5 z5):=⟨gtr L6.out.1 gd,L6.out.2.2.1.none gd⟩;clear gd L6;generalize armsV x=bb at *;simp only[];go_wp2_with fail;refine wp_region_held_drew (S:=(fun u=>((u.cell? ⟨p4,0,none⟩=some (.slice s0 l0 z0)∧u.cell? ⟨p4,1,none⟩=some (.int .i64 x.p.k)∧u.cell? ⟨p4,2,none⟩=some (.int .i64 x.p.n)∧u.cell? ⟨p4,3,none⟩=some (.slice s1 l1 z1)∧u.cell? ⟨p4,4,none⟩=some (.slice s2 l2 z2)∧u.cell? ⟨p4,5,none⟩=some (.slice s3 l3 z3)∧u.cell? ⟨p4,6,none⟩=some (.slice s4 l4 z4)∧u.cell? ⟨p4,7,none⟩=some (.slice s5 l5 z5))∧(u.cell? ⟨p0,0,none⟩=some (.slice a0 l0 c0)∧u.cell? ⟨p0,1,none⟩=some (.int .i64 x.p.k)∧u.cell? ⟨p0,2,none⟩=some (.int .i64 x.p.n)∧u.cell? ⟨p0,3,none⟩=some (.slice a1 l1 c1)∧u.cell? ⟨p0,4,none⟩=some (.slice a2 l2 c2)∧u.cell? ⟨p0,5,none⟩=some (.slice a3 l3 c3)∧u.cell? ⟨p0,6,none⟩=some (.slice a4 l4 c4)∧u.cell? ⟨p0,7,none⟩=some (.slice a5 l5 c5))))) (by kernel_rfl) (TT.out _ (grf _ _)) (fun hH=>?_)
 generalize w5.drew=u at *;simp only[List.size_toArray,lB,lC,Nat.reduceAdd,Array.replicate,List.replicate];refine tk 0 ?_;refine tk 1 ?_;refine rd 2 rfl (fun K hK=>?_);go_simp;refine Calls.mono C6.out ?_;rintro e w6 ⟨q0,r0,q1,r1,q2,r2,q3,r3,q4,r4,q5,r5,he,hg,hn⟩;subst he;refine hK.out _ _ (TT.out _ hg) ?_;clear hK K hH;intro hH;have C7:Hid _:=eqSrcT x s0 q0 l0 z0 r0 s1 q1 l1 z1 r1 s2 q2 l2 z2 r2 s3 q3 l3 z3 r3 s4 q4 l4 z4 r4 s5 q5 l5 z5 r5 w6 (L7.out.2.none hg) (hn.le CLe.unhidz) hs';have L8:Hid (w.grownBy w6 none∧u.grownBy w6 none):=⟨gtr L7.out.1 hg,hg⟩;clear L7 C6 hn hg;simp only[Act.put,nA,nB,nC,nD,nE,nF];refine rd 3 rfl (fun K hK=>?_);go_simp;refine Calls.mono C7.out ?_;rintro e w7 ⟨he,hg⟩;subst he;refine hK.out _ _ (TT.out _ (gtr L8.out.2 hg)) ?_;clear hK K hH;intro hH;have L9:Hid (w.grownBy w7 none):=gtr L8.out.1 hg;clear L8 C7 hg TT;simp only[Act.put,nA,nB,nC,nD,nE,nF];refine tk 4 ?_
 refine wpAnyH_done (by kernel_rfl) ?_ _;go_wp2;go_ret;exact ⟨rfl,L9.out⟩
end Go.Proofs.YtblbnillilbacaaGreatDoor.By
