/-
 Names that are bound, constructors that are there. No statement is proved here.
-/
import Derived.Test.YtblbnillilbacaaGreatDoorZ0n
import Derived.Test.YtblbnillilbacaaGreatDoorNMAn
import Derived.Test.YtblbnillilbacaaGreatDoorNHn
import Derived.Deep.RegionHeld
import Derived.Deep.DeepCutAuto
import Derived.Deep.CutBlock
import Derived.Test.YtblbnillilbacaaGreatDoorNCAlson
namespace Go.Proofs.YtblbnillilbacaaGreatDoor.By
open Go.RowKit
set_option linter.unusedVariables false
set_option linter.unusedSimpArgs false
theorem nmG_alt (k:Int) (nm ar:List Int):∀ (g:GE) (S:List (List Int)) (i:Nat),nmG S true k nm ar i g=nmG S true k nm ar 0 g
 | .nil,_,_=>rfl
 | .cons hc hv p kids alts rest,S,i=>by rw[nmG_cons,nmG_cons,nmG_alt k nm ar rest S (i+1),nmG_alt k nm ar rest S (0+1)];rfl
/-- Where the loop over the parts is. -/
def NbR (w:World) (S:List (List Int)) (p:PE) (kids alts:GE) (l4:Nat) (a5:Option Addr) (l5:Nat) (ap:Option Addr) (N j:Nat) (wr:World):Prop :=
 ∃ (Rk Ra:GE),w.grownBy wr none∧TlK wr ap j N (Rk.app (bod Ra))∧((Rk.len+j=l4∧Ra=alts)∨(Rk = .nil∧∃ t,j=l4+t∧TlA w a5 t l5 Ra))∧Rk.size+Ra.size≤kids.size+alts.size∧nmE S p kids alts=(nmG S false p.k p.name p.arg j Rk && nmG S true p.k p.name p.arg 0 Ra)
theorem NbR.last {w:World} {S:List (List Int)} {p:PE} {kids alts:GE} {l4:Nat} {a5:Option Addr} {l5:Nat} {ap:Option Addr} {N:Nat} {wr:World} (h:NbR w S p kids alts l4 a5 l5 ap N N wr):nmE S p kids alts=true∧w.grownBy wr none:=by
 obtain ⟨Rk,Ra,hg,⟨hl,-⟩,-,-,hv⟩:=h;rw[GE.app_len,bod_len] at hl;obtain rfl:Rk = .nil:=GE.nil_of_len (by omega);obtain rfl:Ra = .nil:=GE.nil_of_len (by simp [GE.len] at hl;omega);exact ⟨hv,hg⟩
/-- What is asked of the next part, and where the loop is behind it. -/
theorem NbR.next {w:World} {S:List (List Int)} {p:PE} {kids alts:GE} {a1:Option Addr} {l1 c1:Nat} {a2:Option Addr} {l2 c2:Nat} {a3:Option Addr} {l3 c3:Nat} {a4:Option Addr} {l4 c4:Nat} {a5:Option Addr} {l5 c5:Nat} {ap:Option Addr} {N j:Nat} {wr:World} (hn:NdE w p kids alts a1 l1 c1 a2 l2 c2 a3 l3 c3 a4 l4 c4 a5 l5 c5) (hs:kids.size+alts.size≤1048576) (h:NbR w S p kids alts l4 a5 l5 ap N j wr) (hj:j < N) :
  ∃ (xs:List (List Int)) (pp:PE) (kk aa:GE) (b o:Nat) (b1:Option Addr) (m1 n1:Nat) (b2:Option Addr) (m2 n2:Nat) (b3:Option Addr) (m3 n3:Nat) (b4:Option Addr) (m4 n4:Nat) (b5:Option Addr) (m5 n5:Nat),ap=some ⟨b,o,none⟩∧CelE wr b (o+j * 7) (.int .i64 pp.k) (.int .i64 pp.n) (.slice b1 m1 n1) (.slice b2 m2 n2) (.slice b3 m3 n3) (.slice b4 m4 n4) (.slice b5 m5 n5)∧NdE wr pp kk aa b1 m1 n1 b2 m2 n2 b3 m3 n3 b4 m4 n4 b5 m5 n5∧kk.size+aa.size < kids.size+alts.size∧xs.length≤4194304 ∧
   (∀ W,w.grownBy W none→Calls Tryz.prog 113 #[.agg #[.int .i64 p.k,.int .i64 p.n,.slice a1 l1 c1,.slice a2 l2 c2,.slice a3 l3 c3,.slice a4 l4 c4,.slice a5 l5 c5],.int .i64 (j:Nat)] W fun e u=>NiA W xs e u) ∧
   (nmE (xs++S) pp kk aa=false→nmE S p kids alts=false)∧(nmE (xs++S) pp kk aa=true→∀ u,wr.grownBy u none→NbR w S p kids alts l4 a5 l5 ap N (j+1) u):=by
 obtain ⟨Rk,Ra,hg,⟨hl,hin⟩,hpos,hsz,hv⟩:=h;have hk4:=hn.2.2.2.1.1;have hk5:=hn.2.2.2.2.1
 cases Rk with
 | cons hc hv2 pp kk aa R =>
  rcases hpos with ⟨hp,rfl⟩|⟨hp,-⟩
  case inr=>cases hp
  simp only[GE.len] at hp;simp only[GE.app] at hin;rcases hin with hin|⟨b,o,rfl,hin⟩
  ·
   cases hin
  obtain ⟨-,b1,m1,n1,b2,m2,n2,b3,m3,n3,b4,m4,n4,b5,m5,n5,hcel,hnd,hR⟩:=hin.kid;simp only[GE.size] at hsz;rw[nmG_cons] at hv
  have hlx:(bdV p.k p.name p.arg j).length≤2:=by unfold bdV;split <;> (try split) <;> simp
  refine ⟨bdV p.k p.name p.arg j,pp,kk,aa,b,o,b1,m1,n1,b2,m2,n2,b3,m3,n3,b4,m4,n4,b5,m5,n5,rfl,hcel,hnd,by omega,by omega,fun W hW=>namesInK p.k p.n p.name p.arg _ a1 l1 c1 a2 l2 c2 a4 l4 c4 a5 l5 c5 j W (hn.1.none hW) (hn.2.1.none hW) (by omega),fun h0=>?_,fun h1 u hu=>?_⟩
  ·
   rw[hv,show hdS false hv2 p.k p.name p.arg j=bdV p.k p.name p.arg j from rfl,h0];rfl
  ·
   refine ⟨R,Ra,grown_trans hg hu,⟨?_,.inr ⟨b,o,rfl,?_⟩⟩,.inl ⟨by omega,rfl⟩,by omega,?_⟩
   ·
    simp only[GE.app,GE.len] at hl;omega
   ·
    rw[show o+j * 7+7=o+(j+1) * 7 by omega] at hR;exact hR.le (CLe.grown hu) (CLe.grown hu)
   ·
    rw[hv,show hdS false hv2 p.k p.name p.arg j=bdV p.k p.name p.arg j from rfl,h1,Bool.true_and]
 | nil =>
  obtain ⟨t,ht,hA⟩:∃ t,j=l4+t∧TlA w a5 t l5 Ra:=by
   rcases hpos with ⟨hp,rfl⟩|⟨-,h⟩
   ·
    exact ⟨0,by simp only[GE.len] at hp;omega,hn.2.2.2.2.tlA⟩
   ·
    exact h
  cases Ra with
  | nil=>simp only[GE.app,bod,GE.len] at hl;omega
  | cons hc hv2 pp kk aa R =>
   simp only[GE.app,bod] at hin;rcases hin with hin|⟨b,o,rfl,hin⟩
   ·
    cases hin
   obtain ⟨-,b1,m1,n1,b2,m2,n2,b3,m3,n3,b4,m4,n4,b5,m5,n5,hcel,hnd,hR⟩:=hin.kid;simp only[GE.size] at hsz;rw[nmG_cons,nmG_alt] at hv;have hlx:=szW_len hv2;have hA0:=hA;obtain ⟨hAl,hAi⟩:=hA;simp only[GE.len] at hAl;have hll4:=kids.len_le;have hll5:=alts.len_le;refine ⟨hv2,pp,kk,aa,b,o,b1,m1,n1,b2,m2,n2,b3,m3,n3,b4,m4,n4,b5,m5,n5,rfl,hcel,hnd,by omega,by omega,fun W hW=>?_,fun h0=>?_,fun h1 u hu=>?_⟩
   ·
    subst ht;refine namesInA p.k p.n _ _ _ hc hv2 pp kk aa R a4 l4 c4 a5 l5 c5 t W ⟨hA0.1,?_⟩ (by omega) hn.2.2.2.2.2.2.1.1;rcases hA0.2 with h|⟨b',o',e',h⟩
    ·
     exact .inl h
    ·
     exact .inr ⟨b',o',e',h.le (CLe.grown hW) (CLe.grown hW)⟩
   ·
    rw[hv,show hdS true hv2 p.k p.name p.arg 0=hv2 from rfl,h0];simp
   ·
    refine ⟨.nil,R,grown_trans hg hu,⟨?_,.inr ⟨b,o,rfl,?_⟩⟩,.inr ⟨rfl,t+1,by omega,⟨by omega,?_⟩⟩,by simp only[GE.size];omega,?_⟩
    ·
     simp only[GE.app,bod,GE.len] at hl ⊢;omega
    ·
     rw[show o+j * 7+7=o+(j+1) * 7 by omega] at hR;exact hR.le (CLe.grown hu) (CLe.grown hu)
    ·
     rcases hAi with h|⟨b',o',e',h⟩
     ·
      cases h
     ·
      obtain ⟨e0,q0,d0,e1,q1,d1,f1,g1,h1',f2,g2,h2',f3,g3,h3',f4,g4,h4',f5,g5,h5',-,-,-,-,hT⟩:=h.alt;exact .inr ⟨b',o',e',by rw[show o' + t * 9+9=o' + (t+1) * 9 by omega] at hT;exact hT⟩
    ·
     rw[hv,show hdS true hv2 p.k p.name p.arg 0=hv2 from rfl,h1];simp [nmG]
set_option maxRecDepth 8000 in
set_option maxHeartbeats 8000000 in
theorem nbT (M:Nat):∀ (p:PE) (kids alts:GE) (a1:Option Addr) (l1 c1:Nat) (a2:Option Addr) (l2 c2:Nat) (a3:Option Addr) (l3 c3:Nat) (a4:Option Addr) (l4 c4:Nat) (a5:Option Addr) (l5 c5:Nat) (S:List (List Int)) (q:Option Addr) (w:World),kids.size+alts.size < M→kids.size+alts.size≤1048576→NdE w p kids alts a1 l1 c1 a2 l2 c2 a3 l3 c3 a4 l4 c4 a5 l5 c5→SnI w w q S →
  Calls Tryz.prog 75 #[.agg #[.int .i64 p.k,.int .i64 p.n,.slice a1 l1 c1,.slice a2 l2 c2,.slice a3 l3 c3,.slice a4 l4 c4,.slice a5 l5 c5],.pointer q] w fun e u=>e = .returned (.bool (nmE S p kids alts))∧w.grownBy u none:=by
 induction M with
 | zero=>intro p kids alts a1 l1 c1 a2 l2 c2 a3 l3 c3 a4 l4 c4 a5 l5 c5 S q w hM;exact absurd hM (Nat.not_lt_zero _)
 | succ M ih =>
  intro p kids alts a1 l1 c1 a2 l2 c2 a3 l3 c3 a4 l4 c4 a5 l5 c5 S q w hM hsz h hS;have IH:Hid _:=ih;have g0:=World.grownBy_alloc w (.cells #[.int .i64 p.k,.int .i64 p.n,.slice a1 l1 c1,.slice a2 l2 c2,.slice a3 l3 c3,.slice a4 l4 c4,.slice a5 l5 c5] 36) none;have b0:=heap_alloc_new w (.cells #[.int .i64 p.k,.int .i64 p.n,.slice a1 l1 c1,.slice a2 l2 c2,.slice a3 l3 c3,.slice a4 l4 c4,.slice a5 l5 c5] 36);have HS:Hid (NdE w p kids alts a1 l1 c1 a2 l2 c2 a3 l3 c3 a4 l4 c4 a5 l5 c5∧SnI w w q S∧kids.size+alts.size < M+1):=⟨h,hS,hM⟩;have L0:Hid (w.grownBy (w.alloc (.cells #[.int .i64 p.k,.int .i64 p.n,.slice a1 l1 c1,.slice a2 l2 c2,.slice a3 l3 c3,.slice a4 l4 c4,.slice a5 l5 c5] 36)) none∧(w.alloc (.cells #[.int .i64 p.k,.int .i64 p.n,.slice a1 l1 c1,.slice a2 l2 c2,.slice a3 l3 c3,.slice a4 l4 c4,.slice a5 l5 c5] 36)).heap[w.heap.size]? = some (Obj.cells #[.int .i64 p.k,.int .i64 p.n,.slice a1 l1 c1,.slice a2 l2 c2,.slice a3 l3 c3,.slice a4 l4 c4,.slice a5 l5 c5] 36)):=⟨g0,b0⟩
  have C0:Hid _:=findT S q p.name a1 l1 c1 _ (hS.grown g0 (CLe.grown g0)) (h.1.none g0);obtain ⟨⟨y0,y1,y2,y3,y4,y5,y6⟩,-⟩:=blkE b0;clear g0 b0 h hS ih hM;go_enter Tryz.func75,Tryz.ntmps75;go_upto_region 1 with fail;generalize w.alloc (.cells #[.int .i64 p.k,.int .i64 p.n,.slice a1 l1 c1,.slice a2 l2 c2,.slice a3 l3 c3,.slice a4 l4 c4,.slice a5 l5 c5] 36)=w0 at *
  go_cut [17] (fun s wx=>∃ bb:Bool,s = .bool bb∧Hid (bb = !ownV S p∧w0.grownBy wx none))
  case first =>
   by_cases h3:p.k=3
   ·
    have b3:(p.k == 3)=true:=by simpa using h3
    have EO:Hid (ownV S p=amV p.name S):=by show _=_;unfold ownV;simp [h3]
    clear h3;go_wp2_with fail;refine Calls.mono C0.out ?_;rintro e u ⟨he,hg⟩;have G:Hid (w0.grownBy u none):=hg;clear C0 hg y0 y1 y2 y3 y4 y5 y6;rcases he with ⟨he,ad,rfl⟩|⟨he,rfl⟩
    ·
     have E2:Hid (ownV S p=true):=by show _=_;rw[EO.out,he]
     clear he;simp only[];go_wp2;go_meet
     case rel=>exact ⟨false,rfl,by rw[E2.out];rfl,G.out⟩
    ·
     have E2:Hid (ownV S p=false):=by show _=_;rw[EO.out,he]
     clear he;simp only[];go_wp2;go_meet
     case rel=>exact ⟨true,rfl,by rw[E2.out];rfl,G.out⟩
   ·
    have b3:(p.k == 3)=false:=by simpa using h3
    have EO:Hid (ownV S p=true):=by show _=_;unfold ownV;simp [h3]
    clear h3;go_wp2;go_meet
    case rel=>exact ⟨false,rfl,by rw[EO.out];rfl,World.grownBy.refl _ _⟩
  case rest =>
  obtain ⟨bb,rfl,HB⟩:=hcut;clear C0 y0 y1 y2 y3 y4 y5 y6;have L1:Hid (w.grownBy wc none∧wc.heap[w.heap.size]? = some (Obj.cells #[.int .i64 p.k,.int .i64 p.n,.slice a1 l1 c1,.slice a2 l2 c2,.slice a3 l3 c3,.slice a4 l4 c4,.slice a5 l5 c5] 36)):=⟨grown_trans L0.out.1 HB.out.2,(HB.out.2.block _ (lt_of_block L0.out.2) (by simp)).trans L0.out.2⟩;have E1:Hid (bb = !ownV S p):=HB.out.1;clear HB L0;obtain ⟨⟨y0,y1,y2,y3,y4,y5,y6⟩,-⟩:=blkE L1.out.2
  cases bb with
  | true =>
   have EV:Hid (nmE S p kids alts=false):=by show _=_;have:=E1.out;unfold nmE;cases ho:ownV S p <;> simp [ho] at this ⊢
   go_wp2;go_ret;exact ⟨by rw[EV.out];rfl,L1.out.1⟩
  | false =>
   have hO:ownV S p=true:=by have:=E1.out;cases ho:ownV S p <;> simp [ho] at this ⊢
   have C1:Hid _:=partsOfT p kids alts a1 l1 c1 a2 l2 c2 a3 l3 c3 a4 l4 c4 a5 l5 c5 wc (HS.out.1.none L1.out.1) (by have h1:=kids.len_le;have h2:=alts.len_le;have h3:=HS.out.1.2.2.2.1.1;have h4:=HS.out.1.2.2.2.2.1;omega);have HO:Hid (ownV S p=true):=hO;clear hO E1;go_wp2_with fail;refine Calls.mono C1.out ?_;rintro e u2 ⟨ap,cp,rfl,hg,hSl⟩
   have hNb:l4+l5≤1048576:=by have h1:=kids.len_le;have h2:=alts.len_le;have h3:=HS.out.1.2.2.2.1.1;have h4:=HS.out.1.2.2.2.2.1;omega
   have L2:Hid (NbR w S p kids alts l4 a5 l5 ap (l4+l5) 0 u2∧u2.heap[w.heap.size]? = some (Obj.cells #[.int .i64 p.k,.int .i64 p.n,.slice a1 l1 c1,.slice a2 l2 c2,.slice a3 l3 c3,.slice a4 l4 c4,.slice a5 l5 c5] 36)):=⟨⟨kids,alts,grown_trans L1.out.1 hg,hSl.tlK,.inl ⟨by have:=HS.out.1.2.2.2.1.1;omega,rfl⟩,Nat.le_refl _,by unfold nmE;rw[HO.out,Bool.true_and]⟩,(hg.block _ (lt_of_block L1.out.2) (by simp)).trans L1.out.2⟩;clear C1 hg hSl L1 y0 y1 y2 y3 y4 y5 y6;generalize l4+l5=N at *;simp only[];go_wp2
   go_loopw [21] (fun i wr=>∃ (j:Nat),j≤N∧i = .int .i64 j∧Hid (NbR w S p kids alts l4 a5 l5 ap N j wr∧wr.heap[w.heap.size]? = some (Obj.cells #[.int .i64 p.k,.int .i64 p.n,.slice a1 l1 c1,.slice a2 l2 c2,.slice a3 l3 c3,.slice a4 l4 c4,.slice a5 l5 c5] 36))) (fun i _=>N - (intOf i).toNat)
   case atStart=>exact ⟨0,Nat.zero_le _,rfl,L2.out⟩
   case round =>
    clear L2;obtain ⟨j,hj,rfl,HR⟩:=hrel;by_cases hlt:j < N
    ·
     obtain ⟨xs,pp,kk,aa,b,o,b1,m1,n1,b2,m2,n2,b3,m3,n3,b4,m4,n4,b5,m5,n5,rfl,⟨k0,k1,k2,k3,k4,k5,k6⟩,hnd,hsm,hxl,hC,hno,hyes⟩:=NbR.next HS.out.1 hsz HR.out.1 hlt
     have hgw:w.grownBy wr none:=by obtain ⟨_,_,h,_⟩:=HR.out.1;exact h
     have ga:=World.grownBy_alloc wr (.cells #[.int .i64 pp.k,.int .i64 pp.n,.slice b1 m1 n1,.slice b2 m2 n2,.slice b3 m3 n3,.slice b4 m4 n4,.slice b5 m5 n5] 36) none;have ba:=heap_alloc_new wr (.cells #[.int .i64 pp.k,.int .i64 pp.n,.slice b1 m1 n1,.slice b2 m2 n2,.slice b3 m3 n3,.slice b4 m4 n4,.slice b5 m5 n5] 36);have C2:Hid _:=hC _ (grown_trans hgw ga);have HY:Hid ((nmE (xs++S) pp kk aa=false→nmE S p kids alts=false)∧(nmE (xs++S) pp kk aa=true→∀ u,wr.grownBy u none→NbR w S p kids alts l4 a5 l5 (some ⟨b,o,none⟩) N (j+1) u)∧kk.size+aa.size < kids.size+alts.size∧NdE wr pp kk aa b1 m1 n1 b2 m2 n2 b3 m3 n3 b4 m4 n4 b5 m5 n5∧w.grownBy wr none):=⟨hno,hyes,hsm,hnd,hgw⟩;have L3:Hid (wr.grownBy (wr.alloc (.cells #[.int .i64 pp.k,.int .i64 pp.n,.slice b1 m1 n1,.slice b2 m2 n2,.slice b3 m3 n3,.slice b4 m4 n4,.slice b5 m5 n5] 36)) none∧(wr.alloc (.cells #[.int .i64 pp.k,.int .i64 pp.n,.slice b1 m1 n1,.slice b2 m2 n2,.slice b3 m3 n3,.slice b4 m4 n4,.slice b5 m5 n5] 36)).heap[wr.heap.size]? = some (Obj.cells #[.int .i64 pp.k,.int .i64 pp.n,.slice b1 m1 n1,.slice b2 m2 n2,.slice b3 m3 n3,.slice b4 m4 n4,.slice b5 m5 n5] 36)∧(wr.alloc (.cells #[.int .i64 pp.k,.int .i64 pp.n,.slice b1 m1 n1,.slice b2 m2 n2,.slice b3 m3 n3,.slice b4 m4 n4,.slice b5 m5 n5] 36)).heap[w.heap.size]? = some (Obj.cells #[.int .i64 p.k,.int .i64 p.n,.slice a1 l1 c1,.slice a2 l2 c2,.slice a3 l3 c3,.slice a4 l4 c4,.slice a5 l5 c5] 36)):=⟨ga,ba,(ga.block _ (lt_of_block HR.out.2) (by simp)).trans HR.out.2⟩
     obtain ⟨⟨y0,y1,y2,y3,y4,y5,y6⟩,-⟩:=blkE HR.out.2;have hlq:=lt_of_block HR.out.2;clear HR hnd hsm hC hno hyes hgw ga ba;go_wp2_with fail;refine Calls.mono C2.out ?_;rintro e u3 ⟨an,cn,rfl,hg,hss⟩;generalize wr.alloc (.cells #[.int .i64 pp.k,.int .i64 pp.n,.slice b1 m1 n1,.slice b2 m2 n2,.slice b3 m3 n3,.slice b4 m4 n4,.slice b5 m5 n5] 36)=wb at *;generalize wr.heap.size=p3 at *;have gd:=grown_drew (World.grownBy.refl u3 none);have gu:=grown_trans hg gd;have L4:Hid (wr.grownBy u3.drew none∧u3.drew.heap[p3]? = some (Obj.cells #[.int .i64 pp.k,.int .i64 pp.n,.slice b1 m1 n1,.slice b2 m2 n2,.slice b3 m3 n3,.slice b4 m4 n4,.slice b5 m5 n5] 36)∧u3.drew.heap[w.heap.size]? = some (Obj.cells #[.int .i64 p.k,.int .i64 p.n,.slice a1 l1 c1,.slice a2 l2 c2,.slice a3 l3 c3,.slice a4 l4 c4,.slice a5 l5 c5] 36)∧SlSS u3.drew an xs.length xs):=⟨grown_trans L3.out.1 gu,(gu.block _ (lt_of_block L3.out.2.1) (by simp)).trans L3.out.2.1,(gu.block _ (lt_of_block L3.out.2.2) (by simp)).trans L3.out.2.2,hss.le (CLe.grown gd)⟩
     have HB:Hid (∀ u,u3.drew.grownBy u none→u.cell? ⟨p3,0,none⟩=some (.int .i64 pp.k)∧u.cell? ⟨p3,1,none⟩=some (.int .i64 pp.n)∧u.cell? ⟨p3,2,none⟩=some (.slice b1 m1 n1)∧u.cell? ⟨p3,3,none⟩=some (.slice b2 m2 n2)∧u.cell? ⟨p3,4,none⟩=some (.slice b3 m3 n3)∧u.cell? ⟨p3,5,none⟩=some (.slice b4 m4 n4)∧u.cell? ⟨p3,6,none⟩=some (.slice b5 m5 n5)):=fun u hu=>(blkE ((hu.block _ (lt_of_block L4.out.2.1) (by simp)).trans L4.out.2.1)).1
     clear C2 L3 hg hss gd gu k0 k1 k2 k3 k4 k5 k6 y0 y1 y2 y3 y4 y5 y6
     have hmk:=fun x=>makeTp xs.length hxl x
     generalize hXL:xs.length=XL at *;clear hXL;go_wp2_with fail;refine wp_region_held_drew (S:=(fun u=>u.cell? ⟨p3,0,none⟩=some (.int .i64 pp.k)∧u.cell? ⟨p3,1,none⟩=some (.int .i64 pp.n)∧u.cell? ⟨p3,2,none⟩=some (.slice b1 m1 n1)∧u.cell? ⟨p3,3,none⟩=some (.slice b2 m2 n2)∧u.cell? ⟨p3,4,none⟩=some (.slice b3 m3 n3)∧u.cell? ⟨p3,5,none⟩=some (.slice b4 m4 n4)∧u.cell? ⟨p3,6,none⟩=some (.slice b5 m5 n5))) (by kernel_rfl) (HB.out _ (World.grownBy.refl _ _)) (fun hH=>?_);generalize u3.drew=t0 at *;simp only[List.size_toArray,List.length_cons,List.length_nil,Nat.reduceAdd,Array.replicate,List.replicate];refine tk 0 rfl hH ?_;refine tk 1 rfl hH ?_;refine tk 2 rfl hH ?_;refine tk 3 rfl hH ?_;refine tk 4 rfl hH ?_;refine rd 5 rfl (fun K hK=>?_);go_simp;have gm:=World.grownBy_alloc t0 (.cells (madeCells #[.int .i64 0,.int .i64 0,.slice none 0 0,.slice none 0 0] (XL * 4)) 143) none;have C3:Hid _:=withT xs S q an XL cn (some ⟨t0.heap.size,0,none⟩) XL _ (HS.out.2.1.grown (grown_trans HY.out.2.2.2.2 (grown_trans L4.out.1 gm)) (CLe.grown (grown_trans HY.out.2.2.2.2 (grown_trans L4.out.1 gm)))) (L4.out.2.2.2.le (CLe.grown gm)) (madeTp t0 XL)
     refine hK.out _ _ (HB.out _ gm) ?_;have GM:Hid _:=gm;clear gm hmk;generalize t0.alloc (.cells (madeCells #[.int .i64 0,.int .i64 0,.slice none 0 0,.slice none 0 0] (XL * 4)) 143)=t1 at *;clear hK K hH;intro hH;simp only[Act.put,nA,nB,nC,nD,nE,nF];refine rd 6 rfl (fun K hK=>?_);go_simp;refine Calls.mono C3.out ?_;rintro e t2 ⟨q2,rfl,hg,hs2⟩;have G2:Hid (t0.grownBy t2 none):=grown_trans GM.out hg;have C4:Hid _:=IH.out pp kk aa b1 m1 n1 b2 m2 n2 b3 m3 n3 b4 m4 n4 b5 m5 n5 (xs.reverse++S) q2 t2 (by have:=HY.out.2.2.1;have:=HS.out.2.2;omega) (by have:=HY.out.2.2.1;omega) (HY.out.2.2.2.1.none (grown_trans L4.out.1 G2.out)) hs2;rw[nmE_congr pp kk aa (T:=xs++S) (fun z=>by rw[namV_app,namV_app,namV_rev])] at C4;refine hK.out _ _ (HB.out _ G2.out) ?_;clear hg hs2 C3 GM;clear hK K hH;intro hH;simp only[Act.put,nA,nB,nC,nD,nE,nF];refine rd 7 rfl (fun K hK=>?_);go_simp;refine Calls.mono C4.out ?_
     rintro e t3 ⟨he,hg⟩;subst he;refine hK.out _ _ (HB.out _ (grown_trans G2.out hg)) ?_;have G3:Hid (t0.grownBy t3 none):=grown_trans G2.out hg;clear hg C4 G2;clear hK K hH;intro hH;simp only[Act.put,nA,nB,nC,nD,nE,nF];refine tk 8 rfl hH ?_;refine wpAnyH_done (by kernel_rfl) ?_ _;clear hH;have L5:Hid (wr.grownBy t3 none∧t3.heap[w.heap.size]? = some (Obj.cells #[.int .i64 p.k,.int .i64 p.n,.slice a1 l1 c1,.slice a2 l2 c2,.slice a3 l3 c3,.slice a4 l4 c4,.slice a5 l5 c5] 36)):=⟨grown_trans L4.out.1 G3.out,(G3.out.block _ (lt_of_block L4.out.2.2.1) (by simp)).trans L4.out.2.2.1⟩;clear L4 G3 HB
     cases hv:nmE (xs++S) pp kk aa with
     | false =>
      have EV:Hid (nmE S p kids alts=false∧w.grownBy t3 none):=⟨HY.out.1 hv,grown_trans HY.out.2.2.2.2 L5.out.1⟩;clear hv;go_wp2;go_ret;exact ⟨by rw[EV.out.1];rfl,EV.out.2⟩
     | true =>
      have EV:Hid (NbR w S p kids alts l4 a5 l5 (some ⟨b,o,none⟩) N (j+1) t3):=HY.out.2.1 hv _ L5.out.1;clear hv;go_wp2;go_roundw
      case rel=>exact ⟨j+1,by omega,by go_num,EV.out,L5.out.2⟩
      case measure=>simp [intOf];omega
    ·
     obtain rfl:j=N:=by omega
     have EV:Hid _:=NbR.last HR.out.1;clear HR;go_wp2;go_ret;exact ⟨by rw[EV.out.1];rfl,EV.out.2⟩
/-- The box that a closure sees, and what lies behind it. -/
def DsB (w:World) (pd:Nat) (ds:List Da) (ad:Option Addr) (ld cd:Nat):Prop:=w.heap[pd]? = some (.cells #[.slice ad ld cd] 32 (0,0))∧SlDa w ad ld ds
theorem DsB.none {w u:World} {pd:Nat} {ds:List Da} {ad:Option Addr} {ld cd:Nat} (h:DsB w pd ds ad ld cd) (k:w.grownBy u Option.none):DsB u pd ds ad ld cd:=⟨(k.block _ (lt_of_block h.1) (by simp)).trans h.1,h.2.none k⟩
theorem DsB.cell {w:World} {pd:Nat} {ds:List Da} {ad:Option Addr} {ld cd:Nat} (h:DsB w pd ds ad ld cd):w.cell? ⟨pd,0,Option.none⟩=some (.slice ad ld cd):=by rw[cell_of_row w _ _ _ _ (0,0) h.1];rfl
def noC (ds:List Da) (hc:List Int) (hv:List (List Int)):Bool:=decide (0 < hc.length) && !cnOk ds hc hv.length
set_option maxRecDepth 4000 in
set_option maxHeartbeats 2000000 in
theorem consThere1T (ds:List Da) (pd:Nat) (ad:Option Addr) (ld cd:Nat) (hc:List Int) (hv:List (List Int)) (e0:Option Addr) (q0 d0:Nat) (e1:Option Addr) (q1 d1:Nat) (v2 v3 v4 v5 v6 v7 v8:Value) (w:World) (hD:DsB w pd ds ad ld cd) (h0:RdB w e0 q0 hc) (h1:SlSC w e1 q1 d1 hv) :
  Calls Tryz.prog 117 #[.agg #[.slice e0 q0 d0,.slice e1 q1 d1,v2,v3,v4,v5,v6,v7,v8],.pointer (some ⟨pd,0,none⟩)] w fun e u=>e = .returned (.bool (noC ds hc hv))∧w.grownBy u none:=by
 have g0:=World.grownBy_alloc w (.cells #[.slice e0 q0 d0,.slice e1 q1 d1,v2,v3,v4,v5,v6,v7,v8] 87) none;have b0:=heap_alloc_new w (.cells #[.slice e0 q0 d0,.slice e1 q1 d1,v2,v3,v4,v5,v6,v7,v8] 87);have hl0:=h0.1.1;have hl1:=h1.1.1;have C0:Hid _:=conThereT ds ad ld cd hc e0 q0 d0 q1 _ (hD.2.none g0) (h0.none g0);have L0:Hid _:=g0;have x0:=hD.cell;have hpl:=lt_of_block hD.1;obtain ⟨⟨y0,y1,y2,y3,y4,y5,y6,y7,y8⟩,-⟩:=blkEA b0
 have EV:Hid (noC ds hc hv=(decide (0 < q0) && !cnOk ds hc q1)):=by show _=_;unfold noC;rw[hl0,hl1]
 clear g0 b0 h0 h1 hD hl0 hl1;by_cases hz:q0=0
 ·
  have E2:Hid (decide (0 < q0)=false):=by show _=_;simp [hz]
  have hng:¬ (q0:Int) > 0:=by omega
  clear C0 hz;go_enter Tryz.func117,Tryz.ntmps117;go_wp2;go_ret;exact ⟨by rw[EV.out,E2.out];rfl,L0.out⟩
 ·
  have E2:Hid (decide (0 < q0)=true):=by show _=_;simp;omega
  have hng:(q0:Int) > 0:=by omega
  clear hz;go_enter Tryz.func117,Tryz.ntmps117;go_wp2_with fail;refine Calls.mono C0.out ?_;rintro e u ⟨rfl,hg⟩;have L1:Hid (w.grownBy u none):=grown_trans L0.out hg;clear C0 hg y0 y1 y2 y3 y4 y5 y6 y7 y8;simp only[];go_wp2;go_ret;exact ⟨by rw[EV.out,E2.out];rfl,L1.out⟩
set_option maxRecDepth 4000 in
set_option maxHeartbeats 2000000 in
theorem indexCT (ds:List Da) (pd:Nat) (ad:Option Addr) (ld cd:Nat) (g:GE) (a:Option Addr) (l c:Nat) (w:World) (hD:DsB w pd ds ad ld cd) (h:SlGE w true a l c g) :
  Calls Tryz.prog 146 #[.slice a l c,.func (Fn.func 117) #[] #[.pointer (some ⟨pd,0,none⟩)]] w fun e u=>(∃ r:Int,e = .returned (.int .i64 r)∧AtP (badC ds g) r)∧w.grownBy u none:=by
 have hl:=h.2.1;have hfl:=h.1;have HD:Hid (DsB w pd ds ad ld cd):=hD;clear hD;rcases h.cases with ⟨rfl,rfl⟩|⟨b,o,rfl,hin,hpos⟩
 ·
  go_enter Tryz.func146,Tryz.ntmps146;go_wp2;refine wp_loop_rounds 1 ?_;rw[rounds_succ];go_wp2;go_ret;exact ⟨⟨-1,rfl,by unfold AtP;exact rfl⟩,World.grownBy.refl _ _⟩
 have IN:Hid (InGE w w true g b o):=hin;clear hin h;go_enter Tryz.func146,Tryz.ntmps146;go_wp2
 go_loopw [8] (fun i wr=>∃ (j:Nat) (R:GE),j≤l∧i = .int .i64 j∧R.len+j=l∧Hid (w.grownBy wr none∧InGE wr wr true R b (o+j * 9)∧(badC ds g)=badC ds R)) (fun i _=>l - (intOf i).toNat)
 case atStart=>exact ⟨0,g,Nat.zero_le _,rfl,by omega,World.grownBy.refl _ _,by simpa using IN.out,rfl⟩
 case round =>
  obtain ⟨j,R,hj,rfl,hRl,HR⟩:=hrel;by_cases hlt:j < l
  ·
   obtain ⟨q,hq⟩:∃ q,R.len=q+1:=⟨R.len - 1,by omega⟩;obtain ⟨hc,hv2,p,kids,alts,R',rfl,hR'⟩:=GE.cons_of_len hq;obtain ⟨hg,hR,hv⟩:=HR.out;obtain ⟨e0,q0,d0,e1,q1,d1,a1,l1,c1,a2,l2,c2,a3,l3,c3,a4,l4,c4,a5,l5,c5,⟨m0,m1⟩,hgd,⟨k0,k1,k2,k3,k4,k5,k6⟩,hd,hT⟩:=hR.alt;rw[show o+j * 9+9=o+(j+1) * 9 by omega] at hT;simp only[badC] at hv;have CC:Hid _:=consThere1T ds pd ad ld cd hc hv2 e0 q0 d0 e1 q1 d1 (.int .i64 p.k) (.int .i64 p.n) (.slice a1 l1 c1) (.slice a2 l2 c2) (.slice a3 l3 c3) (.slice a4 l4 c4) (.slice a5 l5 c5) wr (HD.out.none hg) hgd.1 hgd.2;have FX:Hid (w.grownBy wr none∧InGE wr wr true R' b (o+(j+1) * 9)∧(badC ds g)=(noC ds hc hv2 || badC ds R')):=⟨hg,hT,hv⟩;clear hg hR hv hd hT HR IN hgd;simp only[GE.len] at hRl;go_wp2_with fail;refine Calls.mono CC.out ?_;rintro e u2 ⟨rfl,hgu⟩;have FY:Hid (w.grownBy u2 none∧InGE u2 u2 true R' b (o+(j+1) * 9)∧(badC ds g)=(noC ds hc hv2 || badC ds R')):=⟨grown_trans FX.out.1 hgu,FX.out.2.1.le (CLe.grown hgu) (CLe.grown hgu),FX.out.2.2⟩
   clear FX hgu CC k0 k1 k2 k3 k4 k5 k6 m0 m1;simp only[]
   cases hb:noC ds hc hv2 with
   | false =>
    have FZ:Hid (w.grownBy u2 none∧InGE u2 u2 true R' b (o+(j+1) * 9)∧(badC ds g)=badC ds R'):=⟨FY.out.1,FY.out.2.1,by rw[FY.out.2.2,hb,Bool.false_or]⟩;clear FY hb;go_wp2;go_roundw
    case rel=>exact ⟨j+1,R',by omega,by go_num,by omega,FZ⟩
    case measure=>simp [intOf];omega
   | true =>
    have FZ:Hid (w.grownBy u2 none∧(badC ds g)=true):=⟨FY.out.1,by rw[FY.out.2.2,hb,Bool.true_or]⟩;clear FY hb;go_wp2;go_ret;exact ⟨⟨(j:Int),rfl,by unfold AtP;rw[if_pos FZ.out.2];omega⟩,FZ.out.1⟩
  ·
   obtain rfl:j=l:=by omega
   obtain rfl:R = .nil:=GE.nil_of_len (by omega);have FZ:Hid (w.grownBy wr none∧(badC ds g)=false):=⟨HR.out.1,HR.out.2.2⟩;clear HR;go_wp2;go_ret;exact ⟨⟨-1,rfl,by unfold AtP;rw[if_neg (by rw[FZ.out.2];simp)]⟩,FZ.out.1⟩
set_option maxHeartbeats 400000 in
theorem containsCT (ds:List Da) (pd:Nat) (ad:Option Addr) (ld cd:Nat) (g:GE) (a:Option Addr) (l c:Nat) (w:World) (hD:DsB w pd ds ad ld cd) (h:SlGE w true a l c g) :
  Calls Tryz.prog 116 #[.slice a l c,.func (Fn.func 117) #[] #[.pointer (some ⟨pd,0,none⟩)]] w fun e u=>e = .returned (.bool (badC ds g))∧w.grownBy u none:=by
 have CC:Hid _:=indexCT ds pd ad ld cd g a l c w hD h;clear h hD;go_enter Tryz.func116,Tryz.ntmps116;go_wp2_with fail;refine Calls.mono CC.out ?_;rintro e u ⟨⟨r,rfl,hr⟩,hg⟩;have G:Hid (w.grownBy u none):=hg;clear hg CC;unfold AtP at hr;simp only[]
 cases hb:(badC ds g) with
 | true =>
  rw[hb,if_pos rfl] at hr;go_wp2;go_ret;refine ⟨?_,G.out⟩;rw[hb]
  first|rfl | (simp;done) | (simp;omega)
 | false =>
  rw[hb,if_neg (by simp)] at hr;subst hr;go_wp2;go_ret;refine ⟨?_,G.out⟩;rw[hb]
  first|rfl | (simp;done)
set_option maxRecDepth 4000 in
set_option maxHeartbeats 4000000 in
theorem consThereT (ds:List Da) (ad:Option Addr) (ld cd:Nat) (p:PE) (kids alts:GE) (a1:Option Addr) (l1 c1:Nat) (a2:Option Addr) (l2 c2:Nat) (a3:Option Addr) (l3 c3:Nat) (a4:Option Addr) (l4 c4:Nat) (a5:Option Addr) (l5 c5:Nat) (w:World) (hD:SlDa w ad ld ds) (h:NdE w p kids alts a1 l1 c1 a2 l2 c2 a3 l3 c3 a4 l4 c4 a5 l5 c5) :
  Calls Tryz.prog 78 #[.slice ad ld cd,.agg #[.int .i64 p.k,.int .i64 p.n,.slice a1 l1 c1,.slice a2 l2 c2,.slice a3 l3 c3,.slice a4 l4 c4,.slice a5 l5 c5]] w fun e u=>e = .returned (.bool (cnE ds p kids alts))∧w.grownBy u none:=by
 obtain ⟨b0,b1,bsz⟩:=alloc2_blocks w (.cells #[.slice ad ld cd] 32) (.cells #[.int .i64 p.k,.int .i64 p.n,.slice a1 l1 c1,.slice a2 l2 c2,.slice a3 l3 c3,.slice a4 l4 c4,.slice a5 l5 c5] 36);have g0:=grown_alloc (grown_alloc (World.grownBy.refl w none) (.cells #[.slice ad ld cd] 32)) (.cells #[.int .i64 p.k,.int .i64 p.n,.slice a1 l1 c1,.slice a2 l2 c2,.slice a3 l3 c3,.slice a4 l4 c4,.slice a5 l5 c5] 36);have hk4:=h.2.2.2.1.1;have C0:Hid _:=conThereT ds ad ld cd p.name a1 l1 c1 l4 _ (hD.none g0) (h.1.none g0);have L0:Hid (w.grownBy _ none∧DsB _ w.heap.size ds ad ld cd∧_=some (Obj.cells #[.int .i64 p.k,.int .i64 p.n,.slice a1 l1 c1,.slice a2 l2 c2,.slice a3 l3 c3,.slice a4 l4 c4,.slice a5 l5 c5] 36)):=⟨g0,⟨b0,hD.none g0⟩,b1⟩;have HN:Hid (NdE w p kids alts a1 l1 c1 a2 l2 c2 a3 l3 c3 a4 l4 c4 a5 l5 c5):=h;have x0:=L0.out.2.1.cell;obtain ⟨⟨y0,y1,y2,y3,y4,y5,y6⟩,-⟩:=blkE b1;clear b0 b1 bsz g0 hD h
 go_enter Tryz.func78,Tryz.ntmps78;go_upto_region 1 with fail;generalize (w.alloc (.cells #[.slice ad ld cd] 32)).alloc (.cells #[.int .i64 p.k,.int .i64 p.n,.slice a1 l1 c1,.slice a2 l2 c2,.slice a3 l3 c3,.slice a4 l4 c4,.slice a5 l5 c5] 36)=w0 at *
 go_cut [17] (fun s wx=>∃ bb:Bool,s = .bool bb∧Hid (bb=(decide (p.k=15) && !cnOk ds p.name kids.len)∧w0.grownBy wx none))
 case first =>
  by_cases h15:p.k=15
  ·
   have b15:(p.k == 15)=true:=by simpa using h15
   have E1:Hid (decide (p.k=15)=true):=by show _=_;simp [h15]
   clear h15;go_wp2_with fail;refine Calls.mono C0.out ?_;rintro e u ⟨rfl,hg⟩;have G:Hid (w0.grownBy u none):=hg;clear C0 hg y0 y1 y2 y3 y4 y5 y6 x0;simp only[];go_wp2;go_meet
   case rel=>exact ⟨_,rfl,by rw[E1.out,hk4];rfl,G.out⟩
  ·
   have b15:(p.k == 15)=false:=by simpa using h15
   have E1:Hid (decide (p.k=15)=false):=by show _=_;simp [h15]
   clear h15;go_wp2;go_meet
   case rel=>exact ⟨false,rfl,by rw[E1.out];rfl,World.grownBy.refl _ _⟩
 case rest =>
 obtain ⟨bb,rfl,HB⟩:=hcut;clear C0 y0 y1 y2 y3 y4 y5 y6 x0;have L1:Hid (w.grownBy wc none∧DsB wc w.heap.size ds ad ld cd∧wc.heap[w.heap.size+1]? = some (Obj.cells #[.int .i64 p.k,.int .i64 p.n,.slice a1 l1 c1,.slice a2 l2 c2,.slice a3 l3 c3,.slice a4 l4 c4,.slice a5 l5 c5] 36)):=⟨grown_trans L0.out.1 HB.out.2,L0.out.2.1.none HB.out.2,(HB.out.2.block _ (lt_of_block L0.out.2.2) (by simp)).trans L0.out.2.2⟩
 have EV:Hid (cnE ds p kids alts=(!bb && !badC ds alts)):=by show _=_;unfold cnE;rw[HB.out.1]
 clear HB L0;obtain ⟨⟨y0,y1,y2,y3,y4,y5,y6⟩,-⟩:=blkE L1.out.2.2
 cases bb with
 | true =>
  go_wp2;go_ret;exact ⟨by rw[EV.out];rfl,L1.out.1⟩
 | false =>
  have C1:Hid _:=containsCT ds w.heap.size ad ld cd alts a5 l5 c5 wc L1.out.2.1 (HN.out.2.2.2.2.none L1.out.1);go_wp2_with fail;refine Calls.mono C1.out ?_;rintro e u ⟨rfl,hg⟩;have G:Hid (w.grownBy u none):=grown_trans L1.out.1 hg;clear C1 hg L1 y0 y1 y2 y3 y4 y5 y6;simp only[];go_wp2;go_ret;exact ⟨by rw[EV.out];rfl,G.out⟩
set_option maxHeartbeats 2000000 in
theorem namesStand1T (ds:List Da) (pd:Nat) (ad:Option Addr) (ld cd:Nat) (p:PE) (kids alts:GE) (a1:Option Addr) (l1 c1:Nat) (a2:Option Addr) (l2 c2:Nat) (a3:Option Addr) (l3 c3:Nat) (a4:Option Addr) (l4 c4:Nat) (a5:Option Addr) (l5 c5:Nat) (w:World) (hD:DsB w pd ds ad ld cd) (h:NdE w p kids alts a1 l1 c1 a2 l2 c2 a3 l3 c3 a4 l4 c4 a5 l5 c5) :
  Calls Tryz.prog 77 #[.agg #[.int .i64 p.k,.int .i64 p.n,.slice a1 l1 c1,.slice a2 l2 c2,.slice a3 l3 c3,.slice a4 l4 c4,.slice a5 l5 c5],.pointer (some ⟨pd,0,none⟩)] w fun e u=>e = .returned (.bool (cnE ds p kids alts))∧w.grownBy u none:=by
 have g0:=World.grownBy_alloc w (.cells #[.int .i64 p.k,.int .i64 p.n,.slice a1 l1 c1,.slice a2 l2 c2,.slice a3 l3 c3,.slice a4 l4 c4,.slice a5 l5 c5] 36) none;have b0:=heap_alloc_new w (.cells #[.int .i64 p.k,.int .i64 p.n,.slice a1 l1 c1,.slice a2 l2 c2,.slice a3 l3 c3,.slice a4 l4 c4,.slice a5 l5 c5] 36);have C0:Hid _:=consThereT ds ad ld cd p kids alts a1 l1 c1 a2 l2 c2 a3 l3 c3 a4 l4 c4 a5 l5 c5 _ (hD.2.none g0) (h.none g0);have x0:=hD.cell;have hpl:=lt_of_block hD.1;have G0:Hid _:=g0;obtain ⟨⟨y0,y1,y2,y3,y4,y5,y6⟩,-⟩:=blkE b0;clear g0 b0 h hD;go_enter Tryz.func77,Tryz.ntmps77;go_wp2_with fail;refine Calls.mono C0.out ?_;rintro e u ⟨rfl,hg⟩;have G:Hid (w.grownBy u none):=grown_trans G0.out hg;clear C0 hg G0 y0 y1 y2 y3 y4 y5 y6;simp only[];go_wp2;go_ret;exact ⟨rfl,G.out⟩
/-- P of all parts. -/
def evG (P:PE→GE→GE→Bool):GE→Bool
 | .nil=>true
 | .cons _ _ p kids alts rest=>(P p kids alts && evG P kids && evG P alts) && evG P rest
def evE (P:PE→GE→GE→Bool) (p:PE) (kids alts:GE):Bool:=P p kids alts && evG P kids && evG P alts
theorem evG_cons (P:PE→GE→GE→Bool) (hc:List Int) (hv:List (List Int)) (p:PE) (kids alts rest:GE):evG P (.cons hc hv p kids alts rest)=(evE P p kids alts && evG P rest):=rfl
theorem evG_app (P:PE→GE→GE→Bool):∀ f g:GE,evG P (f.app g)=(evG P f && evG P g)
 | .nil,g=>by simp [GE.app,evG]
 | .cons _ _ p k a r,g=>by simp only[GE.app,evG_cons,evG_app P r g,Bool.and_assoc]
theorem evG_bod (P:PE→GE→GE→Bool):∀ g:GE,evG P (bod g)=evG P g
 | .nil=>rfl
 | .cons _ _ p k a r=>by simp only[bod,evG_cons,evG_bod P r]
/-- What a closure answers of a part. -/
def CloE (f pd:Nat) (P:PE→GE→GE→Bool) (Q:PE→GE→GE→Prop) (w:World):Prop:=∀ u,w.grownBy u none→∀ (p:PE) (kids alts:GE) (a1:Option Addr) (l1 c1:Nat) (a2:Option Addr) (l2 c2:Nat) (a3:Option Addr) (l3 c3:Nat) (a4:Option Addr) (l4 c4:Nat) (a5:Option Addr) (l5 c5:Nat),Q p kids alts→NdE u p kids alts a1 l1 c1 a2 l2 c2 a3 l3 c3 a4 l4 c4 a5 l5 c5 →
 Calls Tryz.prog f #[.agg #[.int .i64 p.k,.int .i64 p.n,.slice a1 l1 c1,.slice a2 l2 c2,.slice a3 l3 c3,.slice a4 l4 c4,.slice a5 l5 c5],.pointer (some ⟨pd,0,none⟩)] u fun e v=>e = .returned (.bool (P p kids alts))∧u.grownBy v none
theorem CloE.none {f pd:Nat} {P:PE→GE→GE→Bool} {Q:PE→GE→GE→Prop} {w u:World} (h:CloE f pd P Q w) (k:w.grownBy u Option.none):CloE f pd P Q u:=fun v hv=>h v (grown_trans k hv)
/-- Q of all parts. -/
def allQ (Q:PE→GE→GE→Prop):GE→Prop
 | .nil=>True
 | .cons _ _ p kids alts rest=>(Q p kids alts∧allQ Q kids∧allQ Q alts)∧allQ Q rest
theorem allQ_app (Q:PE→GE→GE→Prop):∀ {f g:GE},allQ Q f→allQ Q g→allQ Q (f.app g)
 | .nil,_,_,h=>h
 | .cons _ _ p k a r,_,h,h'=>⟨h.1,allQ_app Q h.2 h'⟩
theorem allQ_bod (Q:PE→GE→GE→Prop):∀ {g:GE},allQ Q g→allQ Q (bod g)
 | .nil,h=>h
 | .cons _ _ p k a r,h=>⟨h.1,allQ_bod Q h.2⟩
set_option maxRecDepth 8000 in
set_option maxHeartbeats 8000000 in
theorem everyPartT (f pd:Nat) (hf:f=77∨f=80) (P:PE→GE→GE→Bool) (Q:PE→GE→GE→Prop) (M:Nat):∀ (p:PE) (kids alts:GE) (a1:Option Addr) (l1 c1:Nat) (a2:Option Addr) (l2 c2:Nat) (a3:Option Addr) (l3 c3:Nat) (a4:Option Addr) (l4 c4:Nat) (a5:Option Addr) (l5 c5:Nat) (w:World),kids.size+alts.size < M→kids.size+alts.size≤1048576→(Q p kids alts∧allQ Q kids∧allQ Q alts)→NdE w p kids alts a1 l1 c1 a2 l2 c2 a3 l3 c3 a4 l4 c4 a5 l5 c5→CloE f pd P Q w →
  Calls Tryz.prog 76 #[.agg #[.int .i64 p.k,.int .i64 p.n,.slice a1 l1 c1,.slice a2 l2 c2,.slice a3 l3 c3,.slice a4 l4 c4,.slice a5 l5 c5],.func (Fn.func f) #[] #[.pointer (some ⟨pd,0,none⟩)]] w fun e u=>e = .returned (.bool (evE P p kids alts))∧w.grownBy u none:=by
 rcases hf with rfl|rfl
 all_goals
  induction M with
  | zero=>intro p kids alts a1 l1 c1 a2 l2 c2 a3 l3 c3 a4 l4 c4 a5 l5 c5 w hM;exact absurd hM (Nat.not_lt_zero _)
  | succ M ih =>
   intro p kids alts a1 l1 c1 a2 l2 c2 a3 l3 c3 a4 l4 c4 a5 l5 c5 w hM hsz hQ h hC;have IH:Hid _:=ih;have g0:=World.grownBy_alloc w (.cells #[.int .i64 p.k,.int .i64 p.n,.slice a1 l1 c1,.slice a2 l2 c2,.slice a3 l3 c3,.slice a4 l4 c4,.slice a5 l5 c5] 36) none;have b0:=heap_alloc_new w (.cells #[.int .i64 p.k,.int .i64 p.n,.slice a1 l1 c1,.slice a2 l2 c2,.slice a3 l3 c3,.slice a4 l4 c4,.slice a5 l5 c5] 36);have HS:Hid (NdE w p kids alts a1 l1 c1 a2 l2 c2 a3 l3 c3 a4 l4 c4 a5 l5 c5∧CloE _ pd P Q w∧kids.size+alts.size < M+1∧allQ Q (kids.app (bod alts))):=⟨h,hC,hM,allQ_app Q hQ.2.1 (allQ_bod Q hQ.2.2)⟩;have L0:Hid (w.grownBy (w.alloc (.cells #[.int .i64 p.k,.int .i64 p.n,.slice a1 l1 c1,.slice a2 l2 c2,.slice a3 l3 c3,.slice a4 l4 c4,.slice a5 l5 c5] 36)) none∧(w.alloc (.cells #[.int .i64 p.k,.int .i64 p.n,.slice a1 l1 c1,.slice a2 l2 c2,.slice a3 l3 c3,.slice a4 l4 c4,.slice a5 l5 c5] 36)).heap[w.heap.size]? = some (Obj.cells #[.int .i64 p.k,.int .i64 p.n,.slice a1 l1 c1,.slice a2 l2 c2,.slice a3 l3 c3,.slice a4 l4 c4,.slice a5 l5 c5] 36)):=⟨g0,b0⟩
   have C0:Hid _:=hC _ g0 p kids alts a1 l1 c1 a2 l2 c2 a3 l3 c3 a4 l4 c4 a5 l5 c5 hQ.1 (h.none g0);obtain ⟨⟨y0,y1,y2,y3,y4,y5,y6⟩,-⟩:=blkE b0;clear g0 b0 h hC ih hM hQ;go_enter Tryz.func76,Tryz.ntmps76;go_wp2_with fail;refine Calls.mono C0.out ?_;rintro e wc ⟨rfl,hg⟩;generalize w.alloc (.cells #[.int .i64 p.k,.int .i64 p.n,.slice a1 l1 c1,.slice a2 l2 c2,.slice a3 l3 c3,.slice a4 l4 c4,.slice a5 l5 c5] 36)=w0 at *;have L1:Hid (w.grownBy wc none∧wc.heap[w.heap.size]? = some (Obj.cells #[.int .i64 p.k,.int .i64 p.n,.slice a1 l1 c1,.slice a2 l2 c2,.slice a3 l3 c3,.slice a4 l4 c4,.slice a5 l5 c5] 36)):=⟨grown_trans L0.out.1 hg,(hg.block _ (lt_of_block L0.out.2) (by simp)).trans L0.out.2⟩;clear C0 hg L0 y0 y1 y2 y3 y4 y5 y6;obtain ⟨⟨y0,y1,y2,y3,y4,y5,y6⟩,-⟩:=blkE L1.out.2;simp only[]
   cases hP:P p kids alts with
   | false =>
    have EV:Hid (evE P p kids alts=false):=by show _=_;unfold evE;rw[hP];rfl
    clear hP;go_wp2;go_ret;exact ⟨by rw[EV.out];rfl,L1.out.1⟩
   | true =>
    have EP:Hid (evE P p kids alts=evG P (kids.app (bod alts))):=by show _=_;unfold evE;rw[hP,evG_app,evG_bod,Bool.true_and]
    have C1:Hid _:=partsOfT p kids alts a1 l1 c1 a2 l2 c2 a3 l3 c3 a4 l4 c4 a5 l5 c5 wc (HS.out.1.none L1.out.1) (by have h1:=kids.len_le;have h2:=alts.len_le;have h3:=HS.out.1.2.2.2.1.1;have h4:=HS.out.1.2.2.2.2.1;omega);clear hP;go_wp2_with fail;refine Calls.mono C1.out ?_;rintro e u2 ⟨ap,cp,rfl,hg,hSl⟩
    have hNb:l4+l5≤1048576:=by have h1:=kids.len_le;have h2:=alts.len_le;have h3:=HS.out.1.2.2.2.1.1;have h4:=HS.out.1.2.2.2.2.1;omega
    have L2:Hid (w.grownBy u2 none∧TlK u2 ap 0 (l4+l5) (kids.app (bod alts))):=⟨grown_trans L1.out.1 hg,hSl.tlK⟩;clear C1 hg hSl L1 y0 y1 y2 y3 y4 y5 y6;generalize l4+l5=N at *;simp only[];go_wp2
    go_loopw [14] (fun i wr=>∃ (j:Nat) (R:GE),j≤N∧i = .int .i64 j∧Hid (w.grownBy wr none∧TlK wr ap j N R∧R.size≤kids.size+alts.size∧evE P p kids alts=evG P R∧allQ Q R)) (fun i _=>N - (intOf i).toNat)
    case atStart=>exact ⟨0,_,Nat.zero_le _,rfl,L2.out.1,L2.out.2,by have:=size_app kids (bod alts);have:=size_bod alts;omega,EP.out,HS.out.2.2.2⟩
    case round =>
     clear L2 EP;obtain ⟨j,R,hj,rfl,HR⟩:=hrel;by_cases hlt:j < N
     ·
      obtain ⟨hg,⟨hRl,hR⟩,hRs,hv,hq⟩:=HR.out;obtain ⟨q',hq'⟩:∃ q',R.len=q' + 1:=⟨R.len - 1,by omega⟩;rcases hR with rfl|⟨b,o,ea,hin⟩
      ·
       simp [GE.len] at hq'
      obtain ⟨hc,hv2,pp,kk,aa,R',rfl,hR'⟩:=GE.cons_of_len hq';obtain ⟨-,b1,m1,n1,b2,m2,n2,b3,m3,n3,b4,m4,n4,b5,m5,n5,⟨k0,k1,k2,k3,k4,k5,k6⟩,hnd,hR2⟩:=hin.kid;rw[show o+j * 7+7=o+(j+1) * 7 by omega] at hR2;simp only[GE.size] at hRs;rw[evG_cons] at hv;have ga:=World.grownBy_alloc wr (.cells #[.int .i64 pp.k,.int .i64 pp.n,.slice b1 m1 n1,.slice b2 m2 n2,.slice b3 m3 n3,.slice b4 m4 n4,.slice b5 m5 n5] 36) none;have ba:=heap_alloc_new wr (.cells #[.int .i64 pp.k,.int .i64 pp.n,.slice b1 m1 n1,.slice b2 m2 n2,.slice b3 m3 n3,.slice b4 m4 n4,.slice b5 m5 n5] 36);have CC:Hid _:=IH.out pp kk aa b1 m1 n1 b2 m2 n2 b3 m3 n3 b4 m4 n4 b5 m5 n5 _ (by have:=HS.out.2.2.1;omega) (by omega) hq.1 (hnd.none ga) (HS.out.2.1.none (grown_trans hg ga));have FX:Hid (w.grownBy (wr.alloc (.cells #[.int .i64 pp.k,.int .i64 pp.n,.slice b1 m1 n1,.slice b2 m2 n2,.slice b3 m3 n3,.slice b4 m4 n4,.slice b5 m5 n5] 36)) none∧InGE (wr.alloc (.cells #[.int .i64 pp.k,.int .i64 pp.n,.slice b1 m1 n1,.slice b2 m2 n2,.slice b3 m3 n3,.slice b4 m4 n4,.slice b5 m5 n5] 36)) (wr.alloc (.cells #[.int .i64 pp.k,.int .i64 pp.n,.slice b1 m1 n1,.slice b2 m2 n2,.slice b3 m3 n3,.slice b4 m4 n4,.slice b5 m5 n5] 36)) false R' b (o+(j+1) * 7)∧R'.size≤kids.size+alts.size∧evE P p kids alts=(evE P pp kk aa && evG P R')∧allQ Q R'):=⟨grown_trans hg ga,hR2.le (CLe.grown ga) (CLe.grown ga),by omega,hv,hq.2⟩
      obtain ⟨⟨z0,z1,z2,z3,z4,z5,z6⟩,hfz⟩:=blkE ba;clear hg hv hq hin hnd hR2 HR ga ba hfz hRs;simp only[GE.len] at hRl;subst ea;go_wp2_with fail;refine Calls.mono CC.out ?_;rintro e u3 ⟨he,hgu⟩;subst he;have FY:Hid (w.grownBy u3 none∧TlK u3 (some ⟨b,o,none⟩) (j+1) N R'):=⟨grown_trans FX.out.1 hgu,⟨by omega,.inr ⟨b,o,rfl,FX.out.2.1.le (CLe.grown hgu) (CLe.grown hgu)⟩⟩⟩;clear CC hgu z0 z1 z2 z3 z4 z5 z6 k0 k1 k2 k3 k4 k5 k6;simp only[]
      cases hq:evE P pp kk aa with
      | false =>
       have EV:Hid (evE P p kids alts=false):=by show _=_;rw[FX.out.2.2.2.1,hq];rfl
       clear hq;go_wp2;go_ret;exact ⟨by rw[EV.out];rfl,FY.out.1⟩
      | true =>
       have EV:Hid (evE P p kids alts=evG P R'):=by show _=_;rw[FX.out.2.2.2.1,hq];rfl
       clear hq;go_wp2;go_roundw
       case rel=>exact ⟨j+1,R',by omega,by go_num,FY.out.1,FY.out.2,FX.out.2.2.1,EV.out,FX.out.2.2.2.2⟩
       case measure=>simp [intOf];omega
     ·
      obtain rfl:j=N:=by omega
      obtain ⟨hg,⟨hRl,-⟩,-,hv,-⟩:=HR.out;obtain rfl:R = .nil:=GE.nil_of_len (by omega);have EV:Hid (evE P p kids alts=true∧w.grownBy wr none):=⟨hv,hg⟩;clear HR hg hv hRl;go_wp2;go_ret;exact ⟨by rw[EV.out.1];rfl,EV.out.2⟩
theorem evG_ep (ds:List Da):∀ g:GE,evG (cnE ds) g=epG ds g
 | .nil=>rfl
 | .cons _ _ p k a r=>by simp only[evG,epG,evG_ep ds k,evG_ep ds a,evG_ep ds r]
theorem allT:∀ g:GE,allQ (fun _ _ _=>True) g
 | .nil=>trivial
 | .cons _ _ p k a r=>⟨⟨trivial,allT k,allT a⟩,allT r⟩
set_option maxRecDepth 4000 in
set_option maxHeartbeats 4000000 in
theorem namesStandT (ds:List Da) (ad:Option Addr) (ld cd:Nat) (p:PE) (kids alts:GE) (a1:Option Addr) (l1 c1:Nat) (a2:Option Addr) (l2 c2:Nat) (a3:Option Addr) (l3 c3:Nat) (a4:Option Addr) (l4 c4:Nat) (a5:Option Addr) (l5 c5:Nat) (w:World) (hD:SlDa w ad ld ds) (h:NdE w p kids alts a1 l1 c1 a2 l2 c2 a3 l3 c3 a4 l4 c4 a5 l5 c5) (hsz:kids.size+alts.size≤1048576) :
  Calls Tryz.prog 37 #[.slice ad ld cd,.agg #[.int .i64 p.k,.int .i64 p.n,.slice a1 l1 c1,.slice a2 l2 c2,.slice a3 l3 c3,.slice a4 l4 c4,.slice a5 l5 c5]] w fun e u=>e = .returned (.bool (nmE [] p kids alts && epE ds p kids alts))∧w.grownBy u none:=by
 obtain ⟨b0,b1,bsz⟩:=alloc2_blocks w (.cells #[.slice ad ld cd] 32) (.cells #[.int .i64 p.k,.int .i64 p.n,.slice a1 l1 c1,.slice a2 l2 c2,.slice a3 l3 c3,.slice a4 l4 c4,.slice a5 l5 c5] 36);have g0:=grown_alloc (grown_alloc (World.grownBy.refl w none) (.cells #[.slice ad ld cd] 32)) (.cells #[.int .i64 p.k,.int .i64 p.n,.slice a1 l1 c1,.slice a2 l2 c2,.slice a3 l3 c3,.slice a4 l4 c4,.slice a5 l5 c5] 36);have C0:Hid _:=nbT (kids.size+alts.size+1) p kids alts a1 l1 c1 a2 l2 c2 a3 l3 c3 a4 l4 c4 a5 l5 c5 [] none _ (by omega) hsz (h.none g0) rfl;have L0:Hid (w.grownBy _ none∧DsB _ w.heap.size ds ad ld cd∧_=some (Obj.cells #[.int .i64 p.k,.int .i64 p.n,.slice a1 l1 c1,.slice a2 l2 c2,.slice a3 l3 c3,.slice a4 l4 c4,.slice a5 l5 c5] 36)):=⟨g0,⟨b0,hD.none g0⟩,b1⟩;have HN:Hid (NdE w p kids alts a1 l1 c1 a2 l2 c2 a3 l3 c3 a4 l4 c4 a5 l5 c5):=h;obtain ⟨⟨y0,y1,y2,y3,y4,y5,y6⟩,-⟩:=blkE b1;clear b0 b1 bsz g0 hD h
 go_enter Tryz.func37,Tryz.ntmps37;go_wp2_with fail;refine Calls.mono C0.out ?_;rintro e wc ⟨rfl,hg⟩;generalize (w.alloc (.cells #[.slice ad ld cd] 32)).alloc (.cells #[.int .i64 p.k,.int .i64 p.n,.slice a1 l1 c1,.slice a2 l2 c2,.slice a3 l3 c3,.slice a4 l4 c4,.slice a5 l5 c5] 36)=w0 at *;have L1:Hid (w.grownBy wc none∧DsB wc w.heap.size ds ad ld cd∧wc.heap[w.heap.size+1]? = some (Obj.cells #[.int .i64 p.k,.int .i64 p.n,.slice a1 l1 c1,.slice a2 l2 c2,.slice a3 l3 c3,.slice a4 l4 c4,.slice a5 l5 c5] 36)):=⟨grown_trans L0.out.1 hg,L0.out.2.1.none hg,(hg.block _ (lt_of_block L0.out.2.2) (by simp)).trans L0.out.2.2⟩;clear C0 hg L0 y0 y1 y2 y3 y4 y5 y6;obtain ⟨⟨y0,y1,y2,y3,y4,y5,y6⟩,-⟩:=blkE L1.out.2.2;simp only[]
 cases hn:nmE [] p kids alts with
 | false =>
  have EV:Hid (nmE [] p kids alts=false):=hn;clear hn;go_wp2;go_ret;exact ⟨by rw[EV.out];rfl,L1.out.1⟩
 | true =>
  have EV:Hid (nmE [] p kids alts=true):=hn;have C1:Hid _:=everyPartT 77 w.heap.size (.inl rfl) (cnE ds) (fun _ _ _=>True) (kids.size+alts.size+1) p kids alts a1 l1 c1 a2 l2 c2 a3 l3 c3 a4 l4 c4 a5 l5 c5 wc (by omega) hsz ⟨trivial,allT _,allT _⟩ (HN.out.none L1.out.1) (fun u hu p kids alts a1 l1 c1 a2 l2 c2 a3 l3 c3 a4 l4 c4 a5 l5 c5 _ h=>namesStand1T ds w.heap.size ad ld cd p kids alts a1 l1 c1 a2 l2 c2 a3 l3 c3 a4 l4 c4 a5 l5 c5 u (L1.out.2.1.none hu) h)
  have EP:Hid (evE (cnE ds) p kids alts=epE ds p kids alts):=by show _=_;unfold evE epE;rw[evG_ep,evG_ep]
  rw[EP.out] at C1;clear hn;go_wp2_with fail;refine Calls.mono C1.out ?_;rintro e u ⟨rfl,hg⟩;have G:Hid (w.grownBy u none):=grown_trans L1.out.1 hg;clear C1 hg L1 y0 y1 y2 y3 y4 y5 y6;simp only[];go_wp2;go_ret;exact ⟨by rw[EV.out];rfl,G.out⟩
end Go.Proofs.YtblbnillilbacaaGreatDoor.By
