/-
  No statement is proved here.
-/
import Derived.Test.YtblbnillilbacaaGreatDoorGBEAlsoa
namespace Go.Proofs.YtblbnillilbacaaGreatDoor.By
open Go.ChangeShapes Go.WideShapes Go.ChangeAt Go.RowKit Go.Deep
set_option linter.unusedVariables false
set_option maxRecDepth 100000
theorem inSS_of_each {W:World} {b:Nat} (l:Nat):∀ (o:Nat),(∀ i,i < l→∃ (zs:List Int) (a:Option Addr) (n c:Nat),W.cell? ⟨b,o+i,none⟩=some (.slice a n c)∧RdB W a n zs)→∃ xs:List (List Int),xs.length=l∧InSS W W xs b o:=by
 induction l with
 | zero=>intro o _;exact ⟨[],rfl,trivial⟩
 | succ l ih =>
  intro o h;obtain ⟨zs,a,n,c,h0,h1⟩:=h 0 (by omega)
  obtain ⟨xs,hl,hin⟩:=ih (o+1) (fun i hi=>by
   have:=h (i+1) (by omega)
   have e:o+(i+1)=o+1+i:=by omega
   rw[e] at this;exact this)
  exact ⟨zs::xs,by simp [hl],⟨a,n,c,by simpa using h0,h1⟩,hin⟩
theorem inGEk_of_each {W:World} {b:Nat} (l:Nat):∀ (o:Nat),(∀ i,i < l→∃ (p:PE) (kids alts:GE) (a1:Option Addr) (l1 c1:Nat) (a2:Option Addr) (l2 c2:Nat) (a3:Option Addr) (l3 c3:Nat) (a4:Option Addr) (l4 c4:Nat) (a5:Option Addr) (l5 c5:Nat),CelE W b (o+i * 7) (.int .i64 p.k) (.int .i64 p.n) (.slice a1 l1 c1) (.slice a2 l2 c2) (.slice a3 l3 c3) (.slice a4 l4 c4) (.slice a5 l5 c5)∧NdE W p kids alts a1 l1 c1 a2 l2 c2 a3 l3 c3 a4 l4 c4 a5 l5 c5)→∃ g:GE,g.len=l∧InGE W W false g b o:=by
 induction l with
 | zero=>intro o _;exact ⟨.nil,rfl,trivial⟩
 | succ l ih =>
  intro o h;obtain ⟨p,kids,alts,a1,l1,c1,a2,l2,c2,a3,l3,c3,a4,l4,c4,a5,l5,c5,h0,h1⟩:=h 0 (by omega)
  obtain ⟨g,hl,hin⟩:=ih (o+7) (fun i hi=>by
   have:=h (i+1) (by omega)
   have e:o+(i+1) * 7=o+7+i * 7:=by omega
   rw[e] at this;exact this)
  have h0':CelE W b o (.int .i64 p.k) (.int .i64 p.n) (.slice a1 l1 c1) (.slice a2 l2 c2) (.slice a3 l3 c3) (.slice a4 l4 c4) (.slice a5 l5 c5):=by simpa using h0
  exact ⟨.cons [] [] p kids alts g,by simp [GE.len,hl],.inl ⟨rfl,rfl,rfl⟩,⟨a1,l1,c1,a2,l2,c2,a3,l3,c3,a4,l4,c4,a5,l5,c5,h0',h1⟩,hin⟩
theorem inGEa_of_each {W:World} {b:Nat} (l:Nat):∀ (o:Nat),(∀ i,i < l→∃ (hc:List Int) (hv:List (List Int)) (e0:Option Addr) (q0 d0:Nat) (e1:Option Addr) (q1 d1:Nat),HedE W b (o+i * 9) (.slice e0 q0 d0) (.slice e1 q1 d1)∧(RdB W e0 q0 hc∧SlSC W e1 q1 d1 hv)∧∃ (p:PE) (kids alts:GE) (a1:Option Addr) (l1 c1:Nat) (a2:Option Addr) (l2 c2:Nat) (a3:Option Addr) (l3 c3:Nat) (a4:Option Addr) (l4 c4:Nat) (a5:Option Addr) (l5 c5:Nat),CelE W b (o+i * 9+2) (.int .i64 p.k) (.int .i64 p.n) (.slice a1 l1 c1) (.slice a2 l2 c2) (.slice a3 l3 c3) (.slice a4 l4 c4) (.slice a5 l5 c5)∧NdE W p kids alts a1 l1 c1 a2 l2 c2 a3 l3 c3 a4 l4 c4 a5 l5 c5)→∃ g:GE,g.len=l∧InGE W W true g b o:=by
 induction l with
 | zero=>intro o _;exact ⟨.nil,rfl,trivial⟩
 | succ l ih =>
  intro o h;obtain ⟨hc,hv,e0,q0,d0,e1,q1,d1,k0,k1,p,kids,alts,a1,l1,c1,a2,l2,c2,a3,l3,c3,a4,l4,c4,a5,l5,c5,h0,h1⟩:=h 0 (by omega)
  obtain ⟨g,hl,hin⟩:=ih (o+9) (fun i hi=>by
   have:=h (i+1) (by omega)
   have e:o+(i+1) * 9=o+9+i * 9:=by omega
   rw[e] at this;exact this)
  have h0':CelE W b (o+2) (.int .i64 p.k) (.int .i64 p.n) (.slice a1 l1 c1) (.slice a2 l2 c2) (.slice a3 l3 c3) (.slice a4 l4 c4) (.slice a5 l5 c5):=by simpa using h0
  have k0':HedE W b o (.slice e0 q0 d0) (.slice e1 q1 d1):=by simpa using k0
  exact ⟨.cons hc hv p kids alts g,by simp [GE.len,hl],.inr ⟨rfl,e0,q0,d0,e1,q1,d1,k0',k1⟩,⟨a1,l1,c1,a2,l2,c2,a3,l3,c3,a4,l4,c4,a5,l5,c5,h0',h1⟩,hin⟩
section
variable {H:Type} {enc:TypeId × Value→H} {W:World} {base:Nat} {spare:Nat→Bool} {held:Bool}
theorem openWS (fuel:Nat) (v:Value) (x:DataW H × List MemPlace) (h:DataW.trod enc Tryz.prog W base spare held fuel 85 [v]=some x):∃ a l c xs,v = .slice a l c∧SlSC W a l c xs:=by
 rcases DataW.trod_slice Tryz.underlying85 h with ⟨hcs,_⟩|⟨y,l,c,elems,rest,n',hn',hcs,_,hb,hl,hm,hlen,hel,_,_⟩
 ·
  simp at hcs;exact ⟨none,0,0,[],hcs,⟨rfl,by omega,.inl rfl⟩,by omega⟩
 ·
  simp at hcs
  have hm':c≤9223372036854775807:=by simpa [maxLen] using hm
  have hC:Tryz.prog.cellsOf 23=1:=by kernel_rfl
  rw[hC] at hel
  have hel2:∀ i,i < l→∃ (zs:List Int) (a:Option Addr) (n c:Nat),W.cell? (y.add (i * 1))=some (.slice a n c)∧RdB W a n zs:=by
   intro i hi;have h1:=hel i hi;rw[List.getElem?_eq_getElem (by omega),Option.bind_eq_some_iff] at h1;obtain ⟨cs',h1,h2⟩:=h1;obtain ⟨_,hlen',hcell⟩:=World.cells?_some h1
   match cs',hlen' with
   | [v0],_ =>
    obtain ⟨a,n,c,zs,rfl,hz⟩:=openByS _ v0 _ h2;have k0:=hcell 0 (by omega);exact ⟨zs,a,n,c,by simpa [Addr.add] using k0,hz⟩
  by_cases h0:l=0
  ·
   subst h0;exact ⟨some y,0,c,[],hcs,⟨rfl,by omega,.inl rfl⟩,by omega⟩
  obtain ⟨_,_,_,_,hz0,_⟩:=hel2 0 (by omega);have e:=plain_at (by simpa [Addr.add] using hz0)
  obtain ⟨f,hf,hin⟩:=inSS_of_each (W:=W) (b:=y.block) l y.off (fun i hi=>by
   obtain ⟨zs,a,n,c,q0,hz⟩:=hel2 i hi;rw[e,add_plain] at q0
   exact ⟨zs,a,n,c,by simpa using q0,hz⟩)
  exact ⟨some y,l,c,f,hcs,⟨hf,by omega,.inr ⟨y.block,y.off,by rw[← e],hin⟩⟩,by omega⟩
theorem openExpr (fuel:Nat):(∀ (v0 v1 v2 v3 v4 v5 v6:Value) (x:DataW H × List MemPlace),DataW.trod enc Tryz.prog W base spare held fuel 27 [v0,v1,v2,v3,v4,v5,v6]=some x→∃ (p:PE) (kids alts:GE) (a1:Option Addr) (l1 c1:Nat) (a2:Option Addr) (l2 c2:Nat) (a3:Option Addr) (l3 c3:Nat) (a4:Option Addr) (l4 c4:Nat) (a5:Option Addr) (l5 c5:Nat),(v0 = .int .i64 p.k∧v1 = .int .i64 p.n∧v2 = .slice a1 l1 c1∧v3 = .slice a2 l2 c2∧v4 = .slice a3 l3 c3∧v5 = .slice a4 l4 c4∧v6 = .slice a5 l5 c5)∧NdE W p kids alts a1 l1 c1 a2 l2 c2 a3 l3 c3 a4 l4 c4 a5 l5 c5) ∧
  (∀ (r0 r1 v0 v1 v2 v3 v4 v5 v6:Value) (x:DataW H × List MemPlace),DataW.trod enc Tryz.prog W base spare held fuel 116 [r0,r1,v0,v1,v2,v3,v4,v5,v6]=some x→∃ (hc:List Int) (hv:List (List Int)) (e0:Option Addr) (q0 d0:Nat) (e1:Option Addr) (q1 d1:Nat),r0 = .slice e0 q0 d0∧r1 = .slice e1 q1 d1∧(RdB W e0 q0 hc∧SlSC W e1 q1 d1 hv)∧∃ (p:PE) (kids alts:GE) (a1:Option Addr) (l1 c1:Nat) (a2:Option Addr) (l2 c2:Nat) (a3:Option Addr) (l3 c3:Nat) (a4:Option Addr) (l4 c4:Nat) (a5:Option Addr) (l5 c5:Nat),(v0 = .int .i64 p.k∧v1 = .int .i64 p.n∧v2 = .slice a1 l1 c1∧v3 = .slice a2 l2 c2∧v4 = .slice a3 l3 c3∧v5 = .slice a4 l4 c4∧v6 = .slice a5 l5 c5)∧NdE W p kids alts a1 l1 c1 a2 l2 c2 a3 l3 c3 a4 l4 c4 a5 l5 c5) ∧
  (∀ (v:Value) (x:DataW H × List MemPlace),DataW.trod enc Tryz.prog W base spare held fuel 24 [v]=some x→∃ a l c g,v = .slice a l c∧SlGE W false a l c g) ∧
  (∀ (v:Value) (x:DataW H × List MemPlace),DataW.trod enc Tryz.prog W base spare held fuel 25 [v]=some x→∃ a l c g,v = .slice a l c∧SlGE W true a l c g):=by
 induction fuel with
 | zero=>exact ⟨fun v0 v1 v2 v3 v4 v5 v6 x h=>by simp [DataW.trod] at h,fun r0 r1 v0 v1 v2 v3 v4 v5 v6 x h=>by simp [DataW.trod] at h,fun v x h=>by simp [DataW.trod] at h,fun v x h=>by simp [DataW.trod] at h⟩
 | succ fuel ih =>
  have c3:Tryz.prog.cellsOf 3=1:=by kernel_rfl
  have cB:Tryz.prog.cellsOf 23=1:=by kernel_rfl
  have cW:Tryz.prog.cellsOf 85=1:=by kernel_rfl
  have cK:Tryz.prog.cellsOf 24=1:=by kernel_rfl
  have cA:Tryz.prog.cellsOf 25=1:=by kernel_rfl
  have cL:Tryz.prog.cellsOf 27=7:=by kernel_rfl
  refine ⟨?_,?_,?_,?_⟩
  ·
   intro v0 v1 v2 v3 v4 v5 v6 x h;obtain ⟨xs,n',hn',_,_,hxl,hf⟩:=DataW.trod_struct Tryz.underlying27 h
   obtain rfl:fuel=n':=by omega
   have f0:DataW.trod enc Tryz.prog W base spare held fuel 3 (([v0,v1,v2,v3,v4,v5,v6].drop 0).take (Tryz.prog.cellsOf 3))=xs[0]?:=hf 0 _ rfl;rw[c3] at f0;have f1:DataW.trod enc Tryz.prog W base spare held fuel 3 (([v0,v1,v2,v3,v4,v5,v6].drop 1).take (Tryz.prog.cellsOf 3))=xs[1]?:=hf 1 _ rfl;rw[c3] at f1;have f2:DataW.trod enc Tryz.prog W base spare held fuel 23 (([v0,v1,v2,v3,v4,v5,v6].drop 2).take (Tryz.prog.cellsOf 23))=xs[2]?:=hf 2 _ rfl;rw[cB] at f2;have f3:DataW.trod enc Tryz.prog W base spare held fuel 23 (([v0,v1,v2,v3,v4,v5,v6].drop 3).take (Tryz.prog.cellsOf 23))=xs[3]?:=hf 3 _ rfl;rw[cB] at f3;have f4:DataW.trod enc Tryz.prog W base spare held fuel 23 (([v0,v1,v2,v3,v4,v5,v6].drop 4).take (Tryz.prog.cellsOf 23))=xs[4]?:=hf 4 _ rfl;rw[cB] at f4;have f5:DataW.trod enc Tryz.prog W base spare held fuel 24 (([v0,v1,v2,v3,v4,v5,v6].drop 5).take (Tryz.prog.cellsOf 24))=xs[5]?:=hf 5 _ rfl
   rw[cK] at f5;have f6:DataW.trod enc Tryz.prog W base spare held fuel 25 (([v0,v1,v2,v3,v4,v5,v6].drop 6).take (Tryz.prog.cellsOf 25))=xs[6]?:=hf 6 _ rfl;rw[cA] at f6;have hx7:xs.length=7:=hxl;rw[List.getElem?_eq_getElem (by omega)] at f0 f1 f2 f3 f4 f5 f6;obtain ⟨k,rfl,_⟩:=openInt (v:=v0) (by simpa using f0);obtain ⟨n,rfl,_⟩:=openInt (v:=v1) (by simpa using f1);obtain ⟨a1,l1,c1,z1,rfl,h1⟩:=openByS fuel v2 _ (by simpa using f2);obtain ⟨a2,l2,c2,z2,rfl,h2⟩:=openByS fuel v3 _ (by simpa using f3);obtain ⟨a3,l3,c3',z3,rfl,h3⟩:=openByS fuel v4 _ (by simpa using f4);obtain ⟨a4,l4,c4,kids,rfl,hk⟩:=ih.2.2.1 v5 _ (by simpa using f5);obtain ⟨a5,l5,c5,alts,rfl,ha⟩:=ih.2.2.2 v6 _ (by simpa using f6);exact ⟨⟨k,n,z1,z2,z3⟩,kids,alts,a1,l1,c1,a2,l2,c2,a3,l3,c3',a4,l4,c4,a5,l5,c5,⟨rfl,rfl,rfl,rfl,rfl,rfl,rfl⟩,h1,h2,h3,hk,ha⟩
  ·
   intro r0 r1 v0 v1 v2 v3 v4 v5 v6 x h;obtain ⟨xs,n',hn',_,_,hxl,hf⟩:=DataW.trod_struct Tryz.underlying116 h
   obtain rfl:fuel=n':=by omega
   have f0:DataW.trod enc Tryz.prog W base spare held fuel 23 (([r0,r1,v0,v1,v2,v3,v4,v5,v6].drop 0).take (Tryz.prog.cellsOf 23))=xs[0]?:=hf 0 _ rfl;have f1:DataW.trod enc Tryz.prog W base spare held fuel 85 (([r0,r1,v0,v1,v2,v3,v4,v5,v6].drop 1).take (Tryz.prog.cellsOf 85))=xs[1]?:=hf 1 _ rfl;have f2:DataW.trod enc Tryz.prog W base spare held fuel 27 (([r0,r1,v0,v1,v2,v3,v4,v5,v6].drop 2).take (Tryz.prog.cellsOf 27))=xs[2]?:=hf 2 _ rfl;rw[cB] at f0;rw[cW] at f1;rw[cL] at f2;have hx3:xs.length=3:=hxl;rw[List.getElem?_eq_getElem (by omega)] at f0 f1 f2;obtain ⟨e0,q0,d0,hc,rfl,hhc⟩:=openByS fuel r0 _ (by simpa using f0);obtain ⟨e1,q1,d1,hv,rfl,hhv⟩:=openWS fuel r1 _ (by simpa using f1);obtain ⟨p,kids,alts,a1,l1,c1,a2,l2,c2,a3,l3,c3,a4,l4,c4,a5,l5,c5,he,hnd⟩:=ih.1 v0 v1 v2 v3 v4 v5 v6 _ (by simpa using f2);exact ⟨hc,hv,e0,q0,d0,e1,q1,d1,rfl,rfl,⟨hhc,hhv⟩,p,kids,alts,a1,l1,c1,a2,l2,c2,a3,l3,c3,a4,l4,c4,a5,l5,c5,he,hnd⟩
  ·
   intro v x h;rcases DataW.trod_slice Tryz.underlying24 h with ⟨hcs,_⟩|⟨y,l,c,elems,rest,n',hn',hcs,_,hb,hl,hm,hlen,hel,_,_⟩
   ·
    simp at hcs;exact ⟨none,0,0,.nil,hcs,rfl,by omega,⟨Nat.le_refl _,fun _=>rfl⟩,.inl rfl⟩
   ·
    simp at hcs
    obtain rfl:fuel=n':=by omega
    have hm':c≤9223372036854775807:=by simpa [maxLen] using hm
    have hC:Tryz.prog.cellsOf 27=7:=by kernel_rfl
    rw[hC] at hel
    have hel2:∀ i,i < l→∃ (p:PE) (kids alts:GE) (a1:Option Addr) (l1 c1:Nat) (a2:Option Addr) (l2 c2:Nat) (a3:Option Addr) (l3 c3:Nat) (a4:Option Addr) (l4 c4:Nat) (a5:Option Addr) (l5 c5:Nat),(W.cell? (y.add (i * 7))=some (.int .i64 p.k)∧W.cell? ((y.add (i * 7)).add 1)=some (.int .i64 p.n)∧W.cell? ((y.add (i * 7)).add 2)=some (.slice a1 l1 c1)∧W.cell? ((y.add (i * 7)).add 3)=some (.slice a2 l2 c2)∧W.cell? ((y.add (i * 7)).add 4)=some (.slice a3 l3 c3)∧W.cell? ((y.add (i * 7)).add 5)=some (.slice a4 l4 c4)∧W.cell? ((y.add (i * 7)).add 6)=some (.slice a5 l5 c5))∧NdE W p kids alts a1 l1 c1 a2 l2 c2 a3 l3 c3 a4 l4 c4 a5 l5 c5:=by
     intro i hi;have h1:=hel i hi;rw[List.getElem?_eq_getElem (by omega),Option.bind_eq_some_iff] at h1;obtain ⟨cs',h1,h2⟩:=h1;obtain ⟨_,hlen',hcell⟩:=World.cells?_some h1
     match cs',hlen' with
     | [v0,v1,v2,v3,v4,v5,v6],_ =>
      obtain ⟨p,kids,alts,a1,l1,c1,a2,l2,c2,a3,l3,c3,a4,l4,c4,a5,l5,c5,⟨rfl,rfl,rfl,rfl,rfl,rfl,rfl⟩,hnd⟩:=ih.1 v0 v1 v2 v3 v4 v5 v6 _ h2;have k0:=hcell 0 (by omega);have k1:=hcell 1 (by omega);have k2:=hcell 2 (by omega);have k3:=hcell 3 (by omega);have k4:=hcell 4 (by omega);have k5:=hcell 5 (by omega);have k6:=hcell 6 (by omega);exact ⟨p,kids,alts,a1,l1,c1,a2,l2,c2,a3,l3,c3,a4,l4,c4,a5,l5,c5,⟨by simpa [Addr.add] using k0,by simpa using k1,by simpa using k2,by simpa using k3,by simpa using k4,by simpa using k5,by simpa using k6⟩,hnd⟩
    by_cases h0:l=0
    ·
     subst h0;exact ⟨some y,0,c,.nil,hcs,rfl,by omega,⟨by omega,fun e=>by cases e⟩,.inl rfl⟩
    obtain ⟨_,_,_,_,_,_,_,_,_,_,_,_,_,_,_,_,_,_,⟨hz0,_⟩,_⟩:=hel2 0 (by omega);have e:=plain_at (by simpa [Addr.add] using hz0)
    obtain ⟨f,hf,hin⟩:=inGEk_of_each (W:=W) (b:=y.block) l y.off (fun i hi=>by
     obtain ⟨p,kids,alts,a1,l1,c1,a2,l2,c2,a3,l3,c3,a4,l4,c4,a5,l5,c5,⟨q0_,q1_,q2_,q3_,q4_,q5_,q6_⟩,hnd⟩:=hel2 i hi;rw[e,add_plain] at q0_ q1_ q2_ q3_ q4_ q5_ q6_;rw[add_plain] at q1_ q2_ q3_ q4_ q5_ q6_
     exact ⟨p,kids,alts,a1,l1,c1,a2,l2,c2,a3,l3,c3,a4,l4,c4,a5,l5,c5,⟨q0_,q1_,q2_,q3_,q4_,q5_,q6_⟩,hnd⟩)
    exact ⟨some y,l,c,f,hcs,hf,by omega,⟨by omega,fun e=>by cases e⟩,.inr ⟨y.block,y.off,by rw[← e],hin⟩⟩
  ·
   intro v x h;rcases DataW.trod_slice Tryz.underlying25 h with ⟨hcs,_⟩|⟨y,l,c,elems,rest,n',hn',hcs,_,hb,hl,hm,hlen,hel,_,_⟩
   ·
    simp at hcs;exact ⟨none,0,0,.nil,hcs,rfl,by omega,⟨Nat.le_refl _,fun _=>rfl⟩,.inl rfl⟩
   ·
    simp at hcs
    obtain rfl:fuel=n':=by omega
    have hm':c≤9223372036854775807:=by simpa [maxLen] using hm
    have hC:Tryz.prog.cellsOf 116=9:=by kernel_rfl
    rw[hC] at hel
    have hel2:∀ i,i < l→∃ (hc:List Int) (hv:List (List Int)) (e0:Option Addr) (q0 d0:Nat) (e1:Option Addr) (q1 d1:Nat),W.cell? (y.add (i * 9))=some (.slice e0 q0 d0)∧W.cell? ((y.add (i * 9)).add 1)=some (.slice e1 q1 d1)∧(RdB W e0 q0 hc∧SlSC W e1 q1 d1 hv)∧∃ (p:PE) (kids alts:GE) (a1:Option Addr) (l1 c1:Nat) (a2:Option Addr) (l2 c2:Nat) (a3:Option Addr) (l3 c3:Nat) (a4:Option Addr) (l4 c4:Nat) (a5:Option Addr) (l5 c5:Nat),(W.cell? ((y.add (i * 9)).add 2)=some (.int .i64 p.k)∧W.cell? ((y.add (i * 9)).add 3)=some (.int .i64 p.n)∧W.cell? ((y.add (i * 9)).add 4)=some (.slice a1 l1 c1)∧W.cell? ((y.add (i * 9)).add 5)=some (.slice a2 l2 c2)∧W.cell? ((y.add (i * 9)).add 6)=some (.slice a3 l3 c3)∧W.cell? ((y.add (i * 9)).add 7)=some (.slice a4 l4 c4)∧W.cell? ((y.add (i * 9)).add 8)=some (.slice a5 l5 c5))∧NdE W p kids alts a1 l1 c1 a2 l2 c2 a3 l3 c3 a4 l4 c4 a5 l5 c5:=by
     intro i hi;have h1:=hel i hi;rw[List.getElem?_eq_getElem (by omega),Option.bind_eq_some_iff] at h1;obtain ⟨cs',h1,h2⟩:=h1;obtain ⟨_,hlen',hcell⟩:=World.cells?_some h1
     match cs',hlen' with
     | [r0,r1,v0,v1,v2,v3,v4,v5,v6],_ =>
      obtain ⟨hc,hv,e0,q0,d0,e1,q1,d1,rfl,rfl,hhd,p,kids,alts,a1,l1,c1,a2,l2,c2,a3,l3,c3,a4,l4,c4,a5,l5,c5,⟨rfl,rfl,rfl,rfl,rfl,rfl,rfl⟩,hnd⟩:=ih.2.1 r0 r1 v0 v1 v2 v3 v4 v5 v6 _ h2;have k0:=hcell 0 (by omega);have k1:=hcell 1 (by omega);have k2:=hcell 2 (by omega);have k3:=hcell 3 (by omega);have k4:=hcell 4 (by omega);have k5:=hcell 5 (by omega);have k6:=hcell 6 (by omega);have k7:=hcell 7 (by omega);have k8:=hcell 8 (by omega);exact ⟨hc,hv,e0,q0,d0,e1,q1,d1,by simpa [Addr.add] using k0,by simpa using k1,hhd,p,kids,alts,a1,l1,c1,a2,l2,c2,a3,l3,c3,a4,l4,c4,a5,l5,c5,⟨by simpa using k2,by simpa using k3,by simpa using k4,by simpa using k5,by simpa using k6,by simpa using k7,by simpa using k8⟩,hnd⟩
    by_cases h0:l=0
    ·
     subst h0;exact ⟨some y,0,c,.nil,hcs,rfl,by omega,⟨by omega,fun e=>by cases e⟩,.inl rfl⟩
    obtain ⟨_,_,_,_,_,_,_,_,hz0,_⟩:=hel2 0 (by omega);have e:=plain_at (by simpa [Addr.add] using hz0)
    obtain ⟨f,hf,hin⟩:=inGEa_of_each (W:=W) (b:=y.block) l y.off (fun i hi=>by
     obtain ⟨hc,hv,e0,q0,d0,e1,q1,d1,s0,s1,hhd,p,kids,alts,a1,l1,c1,a2,l2,c2,a3,l3,c3,a4,l4,c4,a5,l5,c5,⟨q0_,q1_,q2_,q3_,q4_,q5_,q6_⟩,hnd⟩:=hel2 i hi;rw[e,add_plain] at s0 s1 q0_ q1_ q2_ q3_ q4_ q5_ q6_;rw[add_plain] at s1 q0_ q1_ q2_ q3_ q4_ q5_ q6_
     exact ⟨hc,hv,e0,q0,d0,e1,q1,d1,⟨s0,s1⟩,hhd,p,kids,alts,a1,l1,c1,a2,l2,c2,a3,l3,c3,a4,l4,c4,a5,l5,c5,⟨q0_,q1_,q2_,q3_,q4_,q5_,q6_⟩,hnd⟩)
    exact ⟨some y,l,c,f,hcs,hf,by omega,⟨by omega,fun e=>by cases e⟩,.inr ⟨y.block,y.off,by rw[← e],hin⟩⟩
end
end Go.Proofs.YtblbnillilbacaaGreatDoor.By
