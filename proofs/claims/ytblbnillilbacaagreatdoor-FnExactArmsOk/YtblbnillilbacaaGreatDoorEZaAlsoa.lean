/-
  No statement is proved here.
-/
import Derived.Test.YtblbnillilbacaaGreatDoorKFa
namespace Go.Proofs.YtblbnillilbacaaGreatDoor.By
set_option maxRecDepth 100000
set_option maxHeartbeats 16000000
open Go.RowKit
set_option linter.unusedVariables false
set_option linter.unusedSimpArgs false
def srcX (x:RSrc):List Int:=datXs x.ds x.ds++exX x.p x.kids x.alts++[10]
def srcP (x:RSrc):Bool:=implV x.ds && (okE x.p x.kids x.alts 40 && decide (1+x.kids.cnt+x.alts.cnt≤300))
def srcV (x:RSrc):Bool:=srcP x && decide ((srcX x).length≤4000)
theorem srcP_parts {x:RSrc} (h:srcP x=true):implV x.ds=true∧okE x.p x.kids x.alts 40=true∧1+x.kids.cnt+x.alts.cnt≤300:=by
 unfold srcP at h;simp only[Bool.and_eq_true,decide_eq_true_eq] at h;exact h
theorem nd_src (x:RSrc):(ndV x.p x.kids x.alts 40 300=0∧(okE x.p x.kids x.alts 40 && decide (1+x.kids.cnt+x.alts.cnt≤300))=false)∨(ndV x.p x.kids x.alts 40 300≠0∧(okE x.p x.kids x.alts 40 && decide (1+x.kids.cnt+x.alts.cnt≤300))=true):=by
 unfold ndV;by_cases h:(okE x.p x.kids x.alts 40 && decide (1+x.kids.cnt+x.alts.cnt≤300))=true
 ·
  rw[if_pos h];exact .inr ⟨by omega,h⟩
 ·
  rw[if_neg h];exact .inl ⟨rfl,by simpa using h⟩
theorem srcX_len {x:RSrc} (h:srcP x=true):(datXs x.ds x.ds).length≤60600∧(exX x.p x.kids x.alts).length≤30060:=by
 obtain ⟨h1,h2,h3⟩:=srcP_parts h;obtain ⟨g1,g2,g3⟩:=daG_all h1;have:=datXs_len g2 x.ds g1;have:=(exX_all h2).2.2.1;omega
theorem textOfT (x:RSrc) (a0:Option Addr) (l0 c0:Nat) (a1:Option Addr) (l1 c1:Nat) (a2:Option Addr) (l2 c2:Nat) (a3:Option Addr) (l3 c3:Nat) (a4:Option Addr) (l4 c4:Nat) (a5:Option Addr) (l5 c5:Nat) (w:World) (h:RdSrc w x a0 l0 c0 a1 l1 c1 a2 l2 c2 a3 l3 c3 a4 l4 c4 a5 l5 c5) (hbas:Bas w) (hP:srcP x=true) :
  Calls Tryz.prog 33 #[.agg #[.slice a0 l0 c0,.int .i64 x.p.k,.int .i64 x.p.n,.slice a1 l1 c1,.slice a2 l2 c2,.slice a3 l3 c3,.slice a4 l4 c4,.slice a5 l5 c5]] w fun e u=>∃ v,e = .returned v∧u.ownsRow w.heap.size 5 1 v (srcX x).length (vals (srcX x))∧w.grownBy u none:=by
 obtain ⟨h1,h2,h3⟩:=srcP_parts hP;obtain ⟨g1,g2,g3⟩:=daG_all h1;obtain ⟨hl1,hl2⟩:=srcX_len hP;have gA:=gal w (.cells #[.slice a0 l0 c0,.int .i64 x.p.k,.int .i64 x.p.n,.slice a1 l1 c1,.slice a2 l2 c2,.slice a3 l3 c3,.slice a4 l4 c4,.slice a5 l5 c5] 38) none;have gB:=gal (w.alloc (.cells #[.slice a0 l0 c0,.int .i64 x.p.k,.int .i64 x.p.n,.slice a1 l1 c1,.slice a2 l2 c2,.slice a3 l3 c3,.slice a4 l4 c4,.slice a5 l5 c5] 38)) (.cells #[.slice none 0 0,.slice a0 l0 c0] 102) none;obtain ⟨b0,b1,bsz⟩:=alloc2_blocks w (.cells #[.slice a0 l0 c0,.int .i64 x.p.k,.int .i64 x.p.n,.slice a1 l1 c1,.slice a2 l2 c2,.slice a3 l3 c3,.slice a4 l4 c4,.slice a5 l5 c5] 38) (.cells #[.slice none 0 0,.slice a0 l0 c0] 102);have gg:=gtr gA gB;have HH:Hid (RdSrc w x a0 l0 c0 a1 l1 c1 a2 l2 c2 a3 l3 c3 a4 l4 c4 a5 l5 c5∧Bas w∧okE x.p x.kids x.alts 40=true∧(∀ y ∈ x.ds,daG x.ds y)∧NamG x.ds):=⟨h,hbas,h2,g1,g2⟩;have hds:=h.1.1.1
 have hds2:=h.1.1.2.1;have A0:Hid (WrP w.heap.size (w.heap.size+1) (.slice a0 l0 c0) ((w.alloc (.cells #[.slice a0 l0 c0,.int .i64 x.p.k,.int .i64 x.p.n,.slice a1 l1 c1,.slice a2 l2 c2,.slice a3 l3 c3,.slice a4 l4 c4,.slice a5 l5 c5] 38)).alloc (.cells #[.slice none 0 0,.slice a0 l0 c0] 102)) (.slice none 0 0) []∧FrP w.heap.size (w.heap.size+1) w ((w.alloc (.cells #[.slice a0 l0 c0,.int .i64 x.p.k,.int .i64 x.p.n,.slice a1 l1 c1,.slice a2 l2 c2,.slice a3 l3 c3,.slice a4 l4 c4,.slice a5 l5 c5] 38)).alloc (.cells #[.slice none 0 0,.slice a0 l0 c0] 102))∧((w.alloc (.cells #[.slice a0 l0 c0,.int .i64 x.p.k,.int .i64 x.p.n,.slice a1 l1 c1,.slice a2 l2 c2,.slice a3 l3 c3,.slice a4 l4 c4,.slice a5 l5 c5] 38)).alloc (.cells #[.slice none 0 0,.slice a0 l0 c0] 102)).heap[w.heap.size]? = some (.cells #[.slice a0 l0 c0,.int .i64 x.p.k,.int .i64 x.p.n,.slice a1 l1 c1,.slice a2 l2 c2,.slice a3 l3 c3,.slice a4 l4 c4,.slice a5 l5 c5] 38 (0,0))):=⟨⟨b1,⟨rfl,.inl ⟨rfl,rfl⟩⟩,by omega,gg.size⟩,FrP.grown gg (Nat.le_refl _),b0⟩
 have bA:=heap_alloc_new w (.cells #[.slice a0 l0 c0,.int .i64 x.p.k,.int .i64 x.p.n,.slice a1 l1 c1,.slice a2 l2 c2,.slice a3 l3 c3,.slice a4 l4 c4,.slice a5 l5 c5] 38);obtain ⟨⟨y0,y1,y2,y3,y4,y5,y6,y7⟩,-⟩:=blkSrc bA;obtain ⟨⟨p0,p1⟩,pf⟩:=two_cells b1;have pf1:=frozen_of_row _ _ 1 _ _ b1;clear h hbas hP h1 h2 g1 g2 gA gB b0 b1 bsz gg bA;go_enter Tryz.func33,Tryz.ntmps33;go_upto_region 2 with fail;clear y0 y1 y2 y3 y4 y5 y6 y7 p0 p1 pf pf1;generalize (w.alloc (.cells #[.slice a0 l0 c0,.int .i64 x.p.k,.int .i64 x.p.n,.slice a1 l1 c1,.slice a2 l2 c2,.slice a3 l3 c3,.slice a4 l4 c4,.slice a5 l5 c5] 38)).alloc (.cells #[.slice none 0 0,.slice a0 l0 c0] 102)=w1 at *;obtain ⟨q,hq⟩:∃ q,q=w.heap.size+1:=⟨_,rfl⟩;obtain ⟨q0,hq0⟩:∃ q0,q0=w.heap.size:=⟨_,rfl⟩
 have hqq:q0≠q:=by omega
 rw[← hq] at A0;have A1:Hid (WrP w.heap.size q (.slice a0 l0 c0) w1 (.slice none 0 0) []∧FrP w.heap.size q w w1∧w1.heap[q0]? = some (.cells #[.slice a0 l0 c0,.int .i64 x.p.k,.int .i64 x.p.n,.slice a1 l1 c1,.slice a2 l2 c2,.slice a3 l3 c3,.slice a4 l4 c4,.slice a5 l5 c5] 38 (0,0))):=⟨A0.out.1,A0.out.2.1,by rw[hq0];exact A0.out.2.2⟩
 try rw[← hq]
 rw[← hq0];clear A0 hq hq0;obtain ⟨⟨y0,y1,y2,y3,y4,y5,y6,y7⟩,-⟩:=blkSrc A1.out.2.2;go_wp2;clear y0 y1 y2 y3 y4 y5 y6 y7
 go_loopw [12] (fun i wr=>∃ (j:Nat) (P R:List Da) (v1:Value),j≤l0∧i = .int .i64 j∧R.length+j=l0∧(datXs x.ds P).length≤10100 * j∧Hid ((R=[]∨∃ b o,a0=some ⟨b,o,none⟩∧InDa w w R b (o+j * 3))∧P++R=x.ds)∧Hid (WrP w.heap.size q (.slice a0 l0 c0) wr v1 (datXs x.ds P)∧FrP w.heap.size q w wr∧wr.heap[q0]? = some (.cells #[.slice a0 l0 c0,.int .i64 x.p.k,.int .i64 x.p.n,.slice a1 l1 c1,.slice a2 l2 c2,.slice a3 l3 c3,.slice a4 l4 c4,.slice a5 l5 c5] 38 (0,0)))) (fun i _=>l0 - (intOf i).toNat)
 case atStart =>
  refine ⟨0,[],x.ds,.slice none 0 0,Nat.zero_le _,rfl,by omega,by simp [datXs],⟨?_,rfl⟩,A1⟩;rcases HH.out.1.1.1.cases with ⟨-,e⟩|⟨b,o,e,hin,-⟩
  ·
   exact .inl e
  ·
   exact .inr ⟨b,o,e,by simpa using hin⟩
 case round =>
  clear A1;obtain ⟨j,P,R,v1,hj,rfl,hRl,hPl,HR,AL⟩:=hrel;by_cases hlt:j < l0
  ·
   have hlt':(j:Int) < l0:=by omega
   obtain ⟨y,R',rfl⟩:∃ y R',R=y::R':=by
    cases R with
    | nil=>simp at hRl;omega
    | cons y R'=>exact ⟨y,R',rfl⟩
   obtain ⟨hin,hPR⟩:=HR.out;rcases hin with e|⟨b,o,ea,hin⟩
   ·
    cases e
   obtain ⟨⟨e1,n1,d1,e2,l9,d2,z0,z1,z2,hRn,hCo⟩,hin2⟩:=hin;rw[show o+j * 3+3=o+(j+1) * 3 by omega] at hin2
   have hym:y ∈ x.ds:=by rw[← hPR];simp
   have hyG:=HH.out.2.2.2.1 y hym;have cl:=cle_belowK AL.out.2.1.below;have k0:=cl _ _ z0;have k1:=cl _ _ z1;have k2:=cl _ _ z2;have ga:=gal wr (.cells #[.slice e1 n1 d1,.int .i64 y.vars,.slice e2 l9 d2] 68) none;have ba:=heap_alloc_new wr (.cells #[.slice e1 n1 d1,.int .i64 y.vars,.slice e2 l9 d2] 68)
   have hq3:wr.heap.size≠q:=fun e=>by have:=lt_of_block AL.out.1.box;omega
   have fa:=AL.out.2.1.trans (FrP.grown ga AL.out.1.size);have C0:Hid _:=dataT w q a0 l0 c0 x.ds HH.out.2.1 HH.out.1.1.1 HH.out.2.2.2.2 y hyG e1 n1 d1 e2 l9 d2 hRn hCo v1 (datXs x.ds P) _ fa.below (AL.out.1.grown ga) (datXs_gap x.ds P) (by omega);have FA:Hid (FrP w.heap.size q w _∧_):=⟨fa,(ga.block _ (lt_of_block AL.out.2.2) (by simp)).trans AL.out.2.2⟩
   have E1:Hid (datXs x.ds P++datY x.ds y++[10]=datXs x.ds (P++[y])):=by show _=_;rw[datXs_app];simp [datXs,datY_X]
   have hxl:=datX_len HH.out.2.2.2.2 hyG
   have hPl':(datXs x.ds (P++[y])).length≤10100 * (j+1):=by rw[datXs_app];simp only[datXs,lA,lC];omega
   have hyl:(datY x.ds y).length≤10100:=by rw[datY_X] at hxl;simp only[lA,List.length_singleton] at hxl;omega
   have FX:Hid ((R' = []∨∃ b o,a0=some ⟨b,o,none⟩∧InDa w w R' b (o+(j+1) * 3))∧(P++[y])++R' = x.ds):=⟨.inr ⟨b,o,ea,hin2⟩,by rw[← hPR];simp⟩;obtain ⟨⟨r0,r1,r2⟩,rf,-,-⟩:=three ba;clear HR hin2 hPR hRn hCo cl ga ba fa hym hyG z0 z1 z2 AL;subst ea;go_wp2_with fail;refine Calls.mono C0.out ?_;rintro e u1 ⟨rfl,v2,hW,hF⟩;have A2:Hid (WrP w.heap.size q (.slice (some ⟨b,o,none⟩) l0 c0) u1 v2 (datXs x.ds P++datY x.ds y)∧FrP w.heap.size q w u1∧u1.heap[q0]? = some (.cells #[.slice (some ⟨b,o,none⟩) l0 c0,.int .i64 x.p.k,.int .i64 x.p.n,.slice a1 l1 c1,.slice a2 l2 c2,.slice a3 l3 c3,.slice a4 l4 c4,.slice a5 l5 c5] 38 (0,0))):=⟨hW,FA.out.1.trans hF,hF.cells FA.out.2 (by decide) hqq⟩;clear C0 hW hF FA k0 k1 k2 r0 r1 r2 rf;have C1:Hid _:=endLineT w.heap.size q (.slice (some ⟨b,o,none⟩) l0 c0) v2 _ u1 A2.out.1 (by simp only[lA];omega);simp only[];go_wp2_with fail;refine Calls.mono C1.out ?_;rintro e u2 ⟨rfl,v3,hW,hF⟩
   have A3:Hid (WrP w.heap.size q (.slice (some ⟨b,o,none⟩) l0 c0) u2 v3 (datXs x.ds (P++[y]))∧FrP w.heap.size q w u2∧u2.heap[q0]? = some (.cells #[.slice (some ⟨b,o,none⟩) l0 c0,.int .i64 x.p.k,.int .i64 x.p.n,.slice a1 l1 c1,.slice a2 l2 c2,.slice a3 l3 c3,.slice a4 l4 c4,.slice a5 l5 c5] 38 (0,0))):=⟨hW.as E1.out,A2.out.2.1.trans hF,hF.cells A2.out.2.2 (by decide) hqq⟩;clear C1 hW hF A2 E1;simp only[];go_wp2;go_roundw
   case rel=>exact ⟨j+1,P++[y],R',v3,by omega,by go_num,by simp only[lB] at hRl;omega,hPl',FX,A3⟩
   case measure=>simp [intOf];omega
  ·
   obtain rfl:j=l0:=by omega
   obtain rfl:R=[]:=List.eq_nil_of_length_eq_zero (by omega);obtain ⟨-,hPR⟩:=HR.out;rw[List.append_nil] at hPR;subst hPR;have C0:Hid _:=exprPT w q (.slice a0 j c0) HH.out.2.1 301 x.p x.kids x.alts a1 l1 c1 a2 l2 c2 a3 l3 c3 a4 l4 c4 a5 l5 c5 v1 (datXs x.ds x.ds) wr 40 (by omega) HH.out.1.2 HH.out.2.2.1 AL.out.2.1.below AL.out.1 (by omega);rw[datXs_gap] at C0;obtain ⟨⟨y0,y1,y2,y3,y4,y5,y6,y7⟩,-⟩:=blkSrc AL.out.2.2;clear HR;go_wp2_with fail;refine Calls.mono C0.out ?_;rintro e u1 ⟨rfl,v2,hW,hF⟩;have A2:Hid (WrP w.heap.size q (.slice a0 j c0) u1 v2 (datXs x.ds x.ds++exX x.p x.kids x.alts)∧FrP w.heap.size q w u1):=⟨hW,AL.out.2.1.trans hF⟩;clear C0 hW hF AL y0 y1 y2 y3 y4 y5 y6 y7;have C1:Hid _:=endLineT w.heap.size q (.slice a0 j c0) v2 _ u1 A2.out.1 (by simp only[lA];omega);simp only[];go_wp2_with fail;refine Calls.mono C1.out ?_;rintro e u2 ⟨rfl,v3,hW,hF⟩;have A3:Hid (WrP w.heap.size q (.slice a0 j c0) u2 v3 (srcX x)∧FrP w.heap.size q w u2):=⟨hW,A2.out.2.trans hF⟩
   clear C1 hW hF A2;obtain ⟨⟨p0,p1⟩,-⟩:=A3.out.1.cell;simp only[];go_wp2;go_ret;exact ⟨v3,rfl,A3.out.1.own,grown_of_belowS A3.out.2.below⟩
def PtA (x:RSrc) (w:World) (e:Ending) (u:World):Prop:=w.grownBy u none∧∃ a c,e = .returned (.tuple #[.slice a (if srcV x=true then (srcX x).length else 0) c,.bool (srcV x)])∧OwS w.heap.size u a (if srcV x=true then (srcX x).length else 0) c (if srcV x=true then srcX x else [])
theorem PtA.no {x:RSrc} {w u:World} (h:srcV x=false) (g:w.grownBy u none):PtA x w (.returned (.tuple #[.slice none 0 0,.bool false])) u:=by
 refine ⟨g,none,0,?_,?_⟩
 ·
  rw[h];rfl
 ·
  rw[h];exact OwS.nil _ _
theorem PtA.yes {x:RSrc} {w u:World} {v:Value} (h:srcV x=true) (g:w.grownBy u none) (o:u.ownsRow w.heap.size 5 1 v (srcX x).length (vals (srcX x))):PtA x w (.returned (.tuple #[v,.bool true])) u:=by
 obtain ⟨-,a,c,rfl,hO⟩:=ownsS o;refine ⟨g,a,c,?_,?_⟩
 ·
  rw[h];rfl
 ·
  rw[h];exact hO
theorem ownsRow_mono {B B' n:Nat} {w:World} {v:Value} {xs:List Value} (h:w.ownsRow B 5 1 v n xs) (hB:B'≤B):w.ownsRow B' 5 1 v n xs:=by
 obtain ⟨h1,h2⟩:=h;refine ⟨h1,?_⟩;rcases h2 with h2|⟨g,cap,cur,e,hb,r⟩
 ·
  exact .inl h2
 ·
  exact .inr ⟨g,cap,cur,e,Nat.le_trans hB hb,r⟩
theorem Bas.grown {w u:World} (h:Bas w) (g:w.grownBy u none):Bas u :=
 ⟨fun u' hu=>h.tab u' (((Below.refl w.heap.size w).grown g (Nat.le_refl _) (fun k hk=>by cases hk)).trans ⟨hu.os,hu.tape,hu.output,hu.size,fun i hi=>hu.block i (Nat.lt_of_lt_of_le hi g.size)⟩),h.forms.none g⟩
theorem implPrintT (x:RSrc) (a0:Option Addr) (l0 c0:Nat) (a1:Option Addr) (l1 c1:Nat) (a2:Option Addr) (l2 c2:Nat) (a3:Option Addr) (l3 c3:Nat) (a4:Option Addr) (l4 c4:Nat) (a5:Option Addr) (l5 c5:Nat) (w:World) (h:RdSrc w x a0 l0 c0 a1 l1 c1 a2 l2 c2 a3 l3 c3 a4 l4 c4 a5 l5 c5) (hbas:Bas w) (hs:szSrc x≤1048576) :
  Calls Tryz.prog 13 #[.agg #[.slice a0 l0 c0,.int .i64 x.p.k,.int .i64 x.p.n,.slice a1 l1 c1,.slice a2 l2 c2,.slice a3 l3 c3,.slice a4 l4 c4,.slice a5 l5 c5]] w fun e u=>PtA x w e u:=by
 have gA:=gal w (.cells #[.slice a0 l0 c0,.int .i64 x.p.k,.int .i64 x.p.n,.slice a1 l1 c1,.slice a2 l2 c2,.slice a3 l3 c3,.slice a4 l4 c4,.slice a5 l5 c5] 38) none;have bA:=heap_alloc_new w (.cells #[.slice a0 l0 c0,.int .i64 x.p.k,.int .i64 x.p.n,.slice a1 l1 c1,.slice a2 l2 c2,.slice a3 l3 c3,.slice a4 l4 c4,.slice a5 l5 c5] 38)
 have HN:Hid (∀ u,w.grownBy u none→RdSrc u x a0 l0 c0 a1 l1 c1 a2 l2 c2 a3 l3 c3 a4 l4 c4 a5 l5 c5∧Bas u):=fun u hu=>⟨h.none hu,hbas.grown hu⟩
 have L0:Hid (w.grownBy (w.alloc (.cells #[.slice a0 l0 c0,.int .i64 x.p.k,.int .i64 x.p.n,.slice a1 l1 c1,.slice a2 l2 c2,.slice a3 l3 c3,.slice a4 l4 c4,.slice a5 l5 c5] 38)) none∧(w.alloc (.cells #[.slice a0 l0 c0,.int .i64 x.p.k,.int .i64 x.p.n,.slice a1 l1 c1,.slice a2 l2 c2,.slice a3 l3 c3,.slice a4 l4 c4,.slice a5 l5 c5] 38)).heap[w.heap.size]? = some (.cells #[.slice a0 l0 c0,.int .i64 x.p.k,.int .i64 x.p.n,.slice a1 l1 c1,.slice a2 l2 c2,.slice a3 l3 c3,.slice a4 l4 c4,.slice a5 l5 c5] 38 (0,0))):=⟨gA,bA⟩
 have hs1:szDas x.ds≤1048576∧x.kids.size+x.alts.size≤1048576:=by unfold szSrc at hs;omega
 have C0:Hid _:=implDatasT x.ds a0 l0 c0 _ (HN.out _ gA).1.1.1 (HN.out _ gA).1.1.2 hs1.1;obtain ⟨⟨y0,y1,y2,y3,y4,y5,y6,y7⟩,-⟩:=blkSrc bA;clear h hbas hs gA bA;go_enter Tryz.func13,Tryz.ntmps13;go_wp2_with fail;refine Calls.mono C0.out ?_;rintro e u0 ⟨rfl,hg⟩;have L1:Hid (w.grownBy u0 none∧u0.heap[w.heap.size]? = some (.cells #[.slice a0 l0 c0,.int .i64 x.p.k,.int .i64 x.p.n,.slice a1 l1 c1,.slice a2 l2 c2,.slice a3 l3 c3,.slice a4 l4 c4,.slice a5 l5 c5] 38 (0,0))):=⟨gtr L0.out.1 hg,(hg.block _ (lt_of_block L0.out.2) (by simp)).trans L0.out.2⟩;clear C0 hg L0 y0 y1 y2 y3 y4 y5 y6 y7;obtain ⟨⟨y0,y1,y2,y3,y4,y5,y6,y7⟩,-⟩:=blkSrc L1.out.2;simp only[]
 cases hd:implV x.ds with
 | false =>
  have FF:Hid (PtA x w (.returned (.tuple #[.slice none 0 0,.bool false])) u0):=PtA.no (by unfold srcV srcP;rw[hd];rfl) L1.out.1;clear y0 y1 y2 y3 y4 y5 y6 y7;go_wp2;go_ret2;exact FF.out
 | true =>
  have C1:Hid _:=implNodesT x.p x.kids x.alts a1 l1 c1 a2 l2 c2 a3 l3 c3 a4 l4 c4 a5 l5 c5 u0 (HN.out _ L1.out.1).1.2 (HN.out _ L1.out.1).2.forms hs1.2;go_wp2_with fail;refine Calls.mono C1.out ?_;rintro e u1 ⟨rfl,hg⟩;have L2:Hid (w.grownBy u1 none∧u1.heap[w.heap.size]? = some (.cells #[.slice a0 l0 c0,.int .i64 x.p.k,.int .i64 x.p.n,.slice a1 l1 c1,.slice a2 l2 c2,.slice a3 l3 c3,.slice a4 l4 c4,.slice a5 l5 c5] 38 (0,0))):=⟨gtr L1.out.1 hg,(hg.block _ (lt_of_block L1.out.2) (by simp)).trans L1.out.2⟩;clear C1 hg L1 y0 y1 y2 y3 y4 y5 y6 y7;obtain ⟨⟨y0,y1,y2,y3,y4,y5,y6,y7⟩,-⟩:=blkSrc L2.out.2;simp only[];rcases nd_src x with ⟨e0,ef⟩|⟨e0,et⟩
  ·
   rw[e0];have FF:Hid (PtA x w (.returned (.tuple #[.slice none 0 0,.bool false])) u1):=PtA.no (by unfold srcV srcP;rw[ef];simp) L2.out.1;clear y0 y1 y2 y3 y4 y5 y6 y7 ef e0;go_wp2;go_ret2;exact FF.out
  ·
   obtain ⟨N,hN⟩:∃ N,ndV x.p x.kids x.alts 40 300=N:=⟨_,rfl⟩;rw[hN] at e0 ⊢
   have hN0:¬ (N:Int)=0:=by omega
   have hNb:((N:Int) == 0)=false:=by simpa using e0
   have hPP:srcP x=true:=by unfold srcP;rw[hd,et];rfl
   have C2:Hid _:=textOfT x a0 l0 c0 a1 l1 c1 a2 l2 c2 a3 l3 c3 a4 l4 c4 a5 l5 c5 u1 (HN.out _ L2.out.1).1 (HN.out _ L2.out.1).2 hPP;have HP:Hid (srcP x=true):=hPP;clear hN et hPP e0;go_wp2_with fail;refine Calls.mono C2.out ?_;rintro e u2 ⟨v2,rfl,ho,hg⟩;obtain ⟨-,a9,c9,rfl,hO⟩:=ownsS ho;have L3:Hid (w.grownBy u2 none∧u2.ownsRow w.heap.size 5 1 (.slice a9 (srcX x).length c9) (srcX x).length (vals (srcX x))):=⟨gtr L2.out.1 hg,ownsRow_mono ho L2.out.1.size⟩;clear C2 ho hg hO L2 y0 y1 y2 y3 y4 y5 y6 y7;simp only[];obtain ⟨M,hM⟩:∃ M,(srcX x).length=M:=⟨_,rfl⟩;by_cases h4:M≤4000
   ·
    have FF:Hid (PtA x w (.returned (.tuple #[.slice a9 (srcX x).length c9,.bool true])) u2):=PtA.yes (by unfold srcV;rw[HP.out];simp;omega) L3.out.1 L3.out.2;rw[hM] at FF ⊢
    have h4':¬ (M:Int) > 4000:=by omega
    clear hM L3;go_wp2;go_ret2;exact FF.out
   ·
    have FF:Hid (PtA x w (.returned (.tuple #[.slice none 0 0,.bool false])) u2):=PtA.no (by unfold srcV;rw[HP.out];simp;omega) L3.out.1;rw[hM]
    have h4':(M:Int) > 4000:=by omega
    clear hM L3;go_wp2;go_ret2;exact FF.out
theorem implSourceT (x:RSrc) (a0:Option Addr) (l0 c0:Nat) (a1:Option Addr) (l1 c1:Nat) (a2:Option Addr) (l2 c2:Nat) (a3:Option Addr) (l3 c3:Nat) (a4:Option Addr) (l4 c4:Nat) (a5:Option Addr) (l5 c5:Nat) (w:World) (h:RdSrc w x a0 l0 c0 a1 l1 c1 a2 l2 c2 a3 l3 c3 a4 l4 c4 a5 l5 c5) (hbas:Bas w) (hs:szSrc x≤1048576) :
  Calls Tryz.prog 10 #[.agg #[.slice a0 l0 c0,.int .i64 x.p.k,.int .i64 x.p.n,.slice a1 l1 c1,.slice a2 l2 c2,.slice a3 l3 c3,.slice a4 l4 c4,.slice a5 l5 c5]] w fun e u=>e = .returned (.bool (srcV x))∧w.grownBy u none:=by
 have gA:=gal w (.cells #[.slice a0 l0 c0,.int .i64 x.p.k,.int .i64 x.p.n,.slice a1 l1 c1,.slice a2 l2 c2,.slice a3 l3 c3,.slice a4 l4 c4,.slice a5 l5 c5] 38) none;have bA:=heap_alloc_new w (.cells #[.slice a0 l0 c0,.int .i64 x.p.k,.int .i64 x.p.n,.slice a1 l1 c1,.slice a2 l2 c2,.slice a3 l3 c3,.slice a4 l4 c4,.slice a5 l5 c5] 38);have C0:Hid _:=implPrintT x a0 l0 c0 a1 l1 c1 a2 l2 c2 a3 l3 c3 a4 l4 c4 a5 l5 c5 _ (h.none gA) (hbas.grown gA) hs;have HG:Hid _:=gA;obtain ⟨⟨y0,y1,y2,y3,y4,y5,y6,y7⟩,-⟩:=blkSrc bA;clear h hbas hs gA bA;go_enter Tryz.func10,Tryz.ntmps10;go_wp2_with fail;refine Calls.mono C0.out ?_;rintro e u ⟨hg,a,c,rfl,-⟩;have F:Hid (w.grownBy u none):=gtr HG.out hg;clear C0 HG hg y0 y1 y2 y3 y4 y5 y6 y7;generalize (if srcV x=true then (srcX x).length else 0)=M;obtain ⟨bb,hbb⟩:∃ bb,srcV x=bb:=⟨_,rfl⟩;have HBB:Hid (srcV x=bb):=hbb;rw[hbb];clear hbb;simp only[];go_wp2;go_ret;exact ⟨by rw[HBB.out];rfl,F.out⟩
def cS (V:Int) (ds D:List Da) (i:Nat):List Co→Nat→Bool
 | [],_=>true
 | y::r,k=>wordV 65 90 y.name && (decide (y.flds.len≤3) && (decide (cIx y.name ds 0=((i:Int),(k:Int))) && (fldsV V D y.flds && cS V ds D i r (k+1))))
def sV (ds:List Da):List Da→List Da→Bool
 | _,[]=>true
 | P,x::r=>(nameV x.name && (!decide (0≤dIx x.name P 0) && (decide (0≤x.vars) && (decide (x.vars≤2) && (decide (1≤x.cons.length) && decide (x.cons.length≤5)))))) && (cS x.vars ds (P++[x]) P.length x.cons 0 && sV ds (P++[x]) r)
def specV (ds:List Da):Bool:=decide (ds.length≤6) && sV ds [] ds
theorem amV_cons (z x:List Int) (r:List (List Int)):amV z (x::r)=(decide (x=z) || amV z r):=rfl
theorem amV_app (z:List Int) (A B:List (List Int)):amV z (A++B)=(amV z A || amV z B):=by unfold amV;rw[List.any_append]
theorem dIx_any (z:List Int):∀ (P:List Da) (i:Nat),decide (0≤dIx z P i)=amV z (P.map Da.name)
 | [],_=>rfl
 | x::r,i=>by
  rw[dIx_cons,List.map_cons,amV_cons];by_cases h:x.name=z
  ·
   rw[if_pos h];simp [h]
  ·
   rw[if_neg h,dIx_any z r (i+1)];simp [h]
theorem kIx_any (z:List Int):∀ (P:List Co) (i:Nat),decide (0≤kIx z P i)=amV z (P.map Co.name)
 | [],_=>rfl
 | x::r,i=>by
  rw[kIx_cons,List.map_cons,amV_cons];by_cases h:x.name=z
  ·
   rw[if_pos h];simp [h]
  ·
   rw[if_neg h,kIx_any z r (i+1)];simp [h]
theorem kIx_off (z:List Int) (B:List Co):∀ (A:List Co) (i:Nat),amV z (A.map Co.name)=false→kIx z (A++B) i=kIx z B (i+A.length)
 | [],i,_=>by simp
 | x::r,i,h=>by
  rw[List.map_cons,amV_cons,Bool.or_eq_false_iff] at h;rw[List.cons_append,kIx_cons,if_neg (by simpa using h.1),kIx_off z B r (i+1) h.2];simp [Nat.add_assoc,Nat.add_comm,Nat.add_left_comm]
theorem kIx_in (z:List Int) (B:List Co):∀ (A:List Co) (i:Nat),amV z (A.map Co.name)=true→kIx z (A++B) i < ((i+A.length:Nat):Int)
 | [],i,h=>by cases h
 | x::r,i,h=>by
  rw[List.map_cons,amV_cons,Bool.or_eq_true] at h;rw[List.cons_append,kIx_cons];by_cases hx:x.name=z
  ·
   rw[if_pos hx];simp;omega
  ·
   rw[if_neg hx];have:=kIx_in z B r (i+1) (h.resolve_left (by simpa using hx));simp at this ⊢;omega
theorem conNs_cons (x:Da) (r:List Da):conNs (x::r)=x.cons.map Co.name++conNs r:=rfl
theorem cIx_off (z:List Int) (B:List Da):∀ (A:List Da) (i:Nat),amV z (conNs A)=false→cIx z (A++B) i=cIx z B (i+A.length)
 | [],i,_=>by simp
 | x::r,i,h=>by
  rw[conNs_cons,amV_app,Bool.or_eq_false_iff,← kIx_any z x.cons 0] at h;rw[List.cons_append,cIx_cons,if_neg (by simpa using h.1),cIx_off z B r (i+1) h.2];simp [Nat.add_assoc,Nat.add_comm,Nat.add_left_comm]
theorem cIx_in (z:List Int) (B:List Da):∀ (A:List Da) (i:Nat),amV z (conNs A)=true→(cIx z (A++B) i).1 < ((i+A.length:Nat):Int)
 | [],i,h=>by cases h
 | x::r,i,h=>by
  rw[conNs_cons,amV_app,Bool.or_eq_true,← kIx_any z x.cons 0] at h;rw[List.cons_append,cIx_cons];by_cases hx:0≤kIx z x.cons 0
  ·
   rw[if_pos hx];simp;omega
  ·
   rw[if_neg hx];have:=cIx_in z B r (i+1) (h.resolve_left (by simpa using hx));simp at this ⊢;omega
theorem cIx_at (P r:List Da) (x:Da) (A B:List Co) (y:Co) (hx:x.cons=A++y::B) :
  decide (cIx y.name (P++x::r) 0=((P.length:Int),(A.length:Int))) = !amV y.name (conNs P++A.map Co.name):=by
 rw[amV_app]
 cases h1:amV y.name (conNs P) with
 | true =>
  have:=cIx_in y.name (x::r) P 0 h1
  have hne:¬ cIx y.name (P++x::r) 0=((P.length:Int),(A.length:Int)):=by
   intro hh;rw[hh] at this;simp at this
  simp [hne]
 | false =>
  rw[cIx_off y.name (x::r) P 0 h1,cIx_cons]
  cases h2:amV y.name (A.map Co.name) with
  | true =>
   have h3:=kIx_in y.name (y::B) A 0 h2;rw[← hx] at h3
   have h4:0≤kIx y.name x.cons 0:=by
    have:=kIx_any y.name x.cons 0;rw[hx,List.map_append,amV_app,h2] at this;rw[hx];simpa using this
   rw[if_pos h4];simp at h3 ⊢;omega
  | false =>
   have h3:=kIx_off y.name (y::B) A 0 h2;rw[kIx_cons,if_pos rfl,← hx] at h3;rw[h3,if_pos (by omega)];simp
theorem unV_cons (P:List (List Int)) (x:List Int) (r:List (List Int)):unV P (x::r)=(!amV x P && unV (P++[x]) r):=rfl
theorem unV_app (B:List (List Int)):∀ (A P:List (List Int)),unV P (A++B)=(unV P A && unV (P++A) B)
 | [],P=>by simp [unV]
 | x::r,P=>by
  rw[List.cons_append,unV_cons,unV_cons,unV_app B r (P++[x]),List.append_assoc,Bool.and_assoc];rfl
theorem cS_eq (P r:List Da) (x:Da) (D:List Da):∀ (B A:List Co),x.cons=A++B →
  cS x.vars (P++x::r) D P.length B A.length=(B.all (conV x.vars D) && unV (conNs P++A.map Co.name) (B.map Co.name))
 | [],A,_=>rfl
 | y::B,A,hx=>by
  have ih:=cS_eq P r x D B (A++[y]) (by rw[hx];simp);rw[lA,List.length_singleton,List.map_append,← List.append_assoc] at ih;unfold cS;rw[cIx_at P r x A B y hx,ih,List.all_cons];simp only[List.map_cons,List.map_nil];rw[unV_cons,show conV x.vars D y=(wordV 65 90 y.name && (decide (y.flds.len≤3) && fldsV x.vars D y.flds)) from rfl]
  cases wordV 65 90 y.name <;> cases decide (y.flds.len≤3) <;> cases amV y.name (conNs P++A.map Co.name) <;> cases fldsV x.vars D y.flds <;> simp
theorem preV_cons (P:List Da) (x:Da) (r:List Da):preV P (x::r)=(lastV (P++[x]) x && preV (P++[x]) r):=rfl
theorem sV_cons (ds P:List Da) (x:Da) (r:List Da):sV ds P (x::r)=((nameV x.name && (!decide (0≤dIx x.name P 0) && (decide (0≤x.vars) && (decide (x.vars≤2) && (decide (1≤x.cons.length) && decide (x.cons.length≤5)))))) && (cS x.vars ds (P++[x]) P.length x.cons 0 && sV ds (P++[x]) r)):=rfl
theorem sV_eq (ds:List Da):∀ (R P:List Da),ds=P++R→sV ds P R=(preV P R && (unV (P.map Da.name) (R.map Da.name) && unV (conNs P) (conNs R)))
 | [],P,_=>rfl
 | x::r,P,h=>by
  have ih:=sV_eq ds r (P++[x]) (by rw[h];simp);have hc:=cS_eq P r x (P++[x]) x.cons [] rfl;rw[← h] at hc;simp only[lC,List.map_nil,List.append_nil] at hc;rw[sV_cons,hc,ih,preV_cons,List.map_cons,unV_cons,conNs_cons,unV_app,dIx_any,lastV,headV,List.map_append,conNs_app,conNs_one];simp only[List.map_cons,List.map_nil];generalize nameV x.name=b1;generalize amV x.name (P.map Da.name)=b2;generalize (decide (0≤x.vars) && (decide (x.vars≤2) && (decide (1≤x.cons.length) && decide (x.cons.length≤5))))=b3;generalize x.cons.all (conV x.vars (P++[x]))=b4;generalize unV (conNs P) (x.cons.map Co.name)=b5;generalize preV (P++[x]) r=b6;generalize unV (P.map Da.name++[x.name]) (r.map Da.name)=b7;generalize unV (conNs P++x.cons.map Co.name) (conNs r)=b8
  cases b1 <;> cases b2 <;> cases b3 <;> cases b4 <;> cases b5 <;> cases b6 <;> cases b7 <;> cases b8 <;> rfl
theorem specV_eq (ds:List Da):specV ds=implV ds:=by
 unfold specV implV;rw[sV_eq ds ds [] rfl];rfl
end Go.Proofs.YtblbnillilbacaaGreatDoor.By
