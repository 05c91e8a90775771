/-
  No statement is proved here.
-/
import Derived.Test.YtblbnillilbacaaGreatDoorEObAlsoa
namespace Go.Proofs.YtblbnillilbacaaGreatDoor.By
open Go.ChangeShapes Go.WideShapes Go.ChangeAt Go.RowKit Go.Deep
set_option linter.unusedVariables false
set_option maxRecDepth 100000
theorem inCo_of_each {W:World} {b:Nat} (l:Nat):∀ (o:Nat),(∀ i,i < l→∃ (x:Co) (a:Option Addr) (n c:Nat) (a':Option Addr) (l' c':Nat),W.cell? ⟨b,o+i * 2,none⟩=some (.slice a n c)∧W.cell? ⟨b,o+i * 2+1,none⟩=some (.slice a' l' c')∧RdB W a n x.name∧SlF W a' l' x.flds)→∃ cs:List Co,cs.length=l∧InCo W W cs b o:=by
 induction l with
 | zero=>intro o _;exact ⟨[],rfl,trivial⟩
 | succ l ih =>
  intro o h;obtain ⟨x,a,n,c,a',l',c',h0,h1,h2,h3⟩:=h 0 (by omega)
  obtain ⟨cs,hl,hin⟩:=ih (o+2) (fun i hi=>by
   have:=h (i+1) (by omega)
   have e:o+(i+1) * 2=o+2+i * 2:=by omega
   rw[e] at this;exact this)
  exact ⟨x::cs,by simp [hl],⟨a,n,c,a',l',c',by simpa using h0,by simpa using h1,h2,h3⟩,hin⟩
theorem inDa_of_each {W:World} {b:Nat} (l:Nat):∀ (o:Nat),(∀ i,i < l→∃ (x:Da) (a:Option Addr) (n c:Nat) (a':Option Addr) (l' c':Nat),W.cell? ⟨b,o+i * 3,none⟩=some (.slice a n c)∧W.cell? ⟨b,o+i * 3+1,none⟩=some (.int .i64 x.vars)∧W.cell? ⟨b,o+i * 3+2,none⟩=some (.slice a' l' c')∧RdB W a n x.name∧SlCo W a' l' x.cons)→∃ ds:List Da,ds.length=l∧InDa W W ds b o:=by
 induction l with
 | zero=>intro o _;exact ⟨[],rfl,trivial⟩
 | succ l ih =>
  intro o h;obtain ⟨x,a,n,c,a',l',c',h0,h1,h2,h3,h4⟩:=h 0 (by omega)
  obtain ⟨ds,hl,hin⟩:=ih (o+3) (fun i hi=>by
   have:=h (i+1) (by omega)
   have e:o+(i+1) * 3=o+3+i * 3:=by omega
   rw[e] at this;exact this)
  exact ⟨x::ds,by simp [hl],⟨a,n,c,a',l',c',by simpa using h0,by simpa using h1,by simpa using h2,h3,h4⟩,hin⟩
section
variable {H:Type} {enc:TypeId × Value→H} {W:World} {base:Nat} {spare:Nat→Bool} {held:Bool}
theorem openCo (fuel:Nat) (v0 v1:Value) (x:DataW H × List MemPlace) (h:DataW.trod enc Tryz.prog W base spare held fuel 155 [v0,v1]=some x):∃ (co:Co) (a:Option Addr) (n c:Nat) (a':Option Addr) (l' c':Nat),v0 = .slice a n c∧v1 = .slice a' l' c'∧RdB W a n co.name∧SlF W a' l' co.flds:=by
 cases fuel with
 | zero=>simp [DataW.trod] at h
 | succ fuel =>
  obtain ⟨xs,n',hn',_,_,hxl,hf⟩:=DataW.trod_struct Tryz.underlying155 h
  obtain rfl:fuel=n':=by omega
  have c3:Tryz.prog.cellsOf 23=1:=by kernel_rfl
  have c37:Tryz.prog.cellsOf 153=1:=by kernel_rfl
  have f0:DataW.trod enc Tryz.prog W base spare held fuel 23 (([v0,v1].drop 0).take (Tryz.prog.cellsOf 23))=xs[0]?:=hf 0 _ rfl;have f1:DataW.trod enc Tryz.prog W base spare held fuel 153 (([v0,v1].drop 1).take (Tryz.prog.cellsOf 153))=xs[1]?:=hf 1 _ rfl;rw[c3] at f0;rw[c37] at f1;have hx2:xs.length=2:=hxl;rw[List.getElem?_eq_getElem (by omega)] at f0 f1;obtain ⟨a,n,c,zs,rfl,hz⟩:=openByS fuel v0 _ (by simpa using f0);obtain ⟨a',l',c',d,rfl,hd⟩:=(openTree (enc:=enc) (W:=W) (base:=base) (spare:=spare) (held:=held) fuel).2 v1 _ (by simpa using f1);exact ⟨⟨zs,d⟩,a,n,c,a',l',c',rfl,rfl,hz,hd⟩
theorem openCoS (fuel:Nat) (v:Value) (x:DataW H × List MemPlace) (h:DataW.trod enc Tryz.prog W base spare held fuel 61 [v]=some x):∃ a l c cs,v = .slice a l c∧SlCo W a l cs:=by
 rcases DataW.trod_slice Tryz.underlying61 h with ⟨hcs,_⟩|⟨y,l,c,elems,rest,n',hn',hcs,_,hb,hl,hm,hlen,hel,_,_⟩
 ·
  simp at hcs;exact ⟨none,0,0,[],hcs,rfl,by omega,.inl rfl⟩
 ·
  simp at hcs
  have hm':c≤9223372036854775807:=by simpa [maxLen] using hm
  have hC:Tryz.prog.cellsOf 155=2:=by kernel_rfl
  rw[hC] at hel
  have hel2:∀ i,i < l→∃ (co:Co) (a:Option Addr) (n c:Nat) (a':Option Addr) (l' c':Nat),W.cell? (y.add (i * 2))=some (.slice a n c)∧W.cell? ((y.add (i * 2)).add 1)=some (.slice a' l' c')∧RdB W a n co.name∧SlF W a' l' co.flds:=by
   intro i hi;have h1:=hel i hi;rw[List.getElem?_eq_getElem (by omega),Option.bind_eq_some_iff] at h1;obtain ⟨cs',h1,h2⟩:=h1;obtain ⟨_,hlen',hcell⟩:=World.cells?_some h1
   match cs',hlen' with
   | [v0,v1],_ =>
    obtain ⟨co,a,n,c,a',l',c',rfl,rfl,hz,hd⟩:=openCo _ v0 v1 _ h2;have k0:=hcell 0 (by omega);have k1:=hcell 1 (by omega);exact ⟨co,a,n,c,a',l',c',by simpa [Addr.add] using k0,by simpa using k1,hz,hd⟩
  by_cases h0:l=0
  ·
   subst h0;exact ⟨some y,0,c,[],hcs,rfl,by omega,.inl rfl⟩
  obtain ⟨_,_,_,_,_,_,_,hz0,_⟩:=hel2 0 (by omega);have e:=plain_at (by simpa [Addr.add] using hz0)
  obtain ⟨f,hf,hin⟩:=inCo_of_each (W:=W) (b:=y.block) l y.off (fun i hi=>by
   obtain ⟨co,a,n,c,a',l',c',q0,q1,hz,hd⟩:=hel2 i hi;rw[e,add_plain] at q0 q1;rw[add_plain] at q1
   exact ⟨co,a,n,c,a',l',c',q0,q1,hz,hd⟩)
  exact ⟨some y,l,c,f,hcs,hf,by omega,.inr ⟨y.block,y.off,by rw[← e],hin⟩⟩
theorem openDa (fuel:Nat) (v0 v1 v2:Value) (x:DataW H × List MemPlace) (h:DataW.trod enc Tryz.prog W base spare held fuel 63 [v0,v1,v2]=some x):∃ (da:Da) (a:Option Addr) (n c:Nat) (a':Option Addr) (l' c':Nat),v0 = .slice a n c∧v1 = .int .i64 da.vars∧v2 = .slice a' l' c'∧RdB W a n da.name∧SlCo W a' l' da.cons:=by
 cases fuel with
 | zero=>simp [DataW.trod] at h
 | succ fuel =>
  obtain ⟨xs,n',hn',_,_,hxl,hf⟩:=DataW.trod_struct Tryz.underlying63 h
  obtain rfl:fuel=n':=by omega
  have c3:Tryz.prog.cellsOf 23=1:=by kernel_rfl
  have c4:Tryz.prog.cellsOf 3=1:=by kernel_rfl
  have c37:Tryz.prog.cellsOf 61=1:=by kernel_rfl
  have f0:DataW.trod enc Tryz.prog W base spare held fuel 23 (([v0,v1,v2].drop 0).take (Tryz.prog.cellsOf 23))=xs[0]?:=hf 0 _ rfl;have f1:DataW.trod enc Tryz.prog W base spare held fuel 3 (([v0,v1,v2].drop 1).take (Tryz.prog.cellsOf 3))=xs[1]?:=hf 1 _ rfl;have f2:DataW.trod enc Tryz.prog W base spare held fuel 61 (([v0,v1,v2].drop 2).take (Tryz.prog.cellsOf 61))=xs[2]?:=hf 2 _ rfl;rw[c3] at f0;rw[c4] at f1;rw[c37] at f2;have hx3:xs.length=3:=hxl;rw[List.getElem?_eq_getElem (by omega)] at f0 f1 f2;obtain ⟨a,n,c,zs,rfl,hz⟩:=openByS fuel v0 _ (by simpa using f0);obtain ⟨k,rfl,_⟩:=openInt (v:=v1) (by simpa using f1);obtain ⟨a',l',c',cs,rfl,hd⟩:=openCoS fuel v2 _ (by simpa using f2);exact ⟨⟨zs,k,cs⟩,a,n,c,a',l',c',rfl,rfl,rfl,hz,hd⟩
end
open Go.RowKit
def InSS (w wp:World):List (List Int)→Nat→Nat→Prop
 | [],_,_=>True
 | x::r,b,off=>(∃ a n c,w.cell? ⟨b,off,none⟩=some (.slice a n c)∧RdB wp a n x)∧InSS w wp r b (off+1)
def SlSS (w:World) (a:Option Addr) (l:Nat) (xs:List (List Int)):Prop :=
 xs.length=l∧l≤9223372036854775807∧(l=0∨∃ b o,a=some ⟨b,o,none⟩∧InSS w w xs b o)
theorem InSS.move {w wp u up:World} {xs:List (List Int)} {b off b' off':Nat} (h:InSS w wp xs b off) (hc:∀ i v,i < xs.length→w.cell? ⟨b,off+i,none⟩=some v→u.cell? ⟨b',off' + i,none⟩=some v) (k:CLe wp up):InSS u up xs b' off':=by
 induction xs generalizing off off' with
 | nil=>trivial
 | cons x r ih =>
  obtain ⟨⟨a,n,c,h0,h2⟩,hr⟩:=h;refine ⟨⟨a,n,c,by simpa using hc 0 _ (by simp) h0,h2.le k⟩,ih hr (fun i v hi hv=>?_)⟩;have:=hc (i+1) v (by simp;omega) (by rw[show off+(i+1)=off+1+i by omega];exact hv);rw[show off' + 1+i=off' + (i+1) by omega];exact this
theorem InSS.le {w wp u up:World} {xs:List (List Int)} {b off:Nat} (h:InSS w wp xs b off) (k:CLe w u) (k2:CLe wp up):InSS u up xs b off:=h.move (fun i v _ hv=>k _ _ hv) k2
theorem InSS.app {w wp:World} {P Q:List (List Int)} {b off:Nat} (h:InSS w wp P b off) (k:InSS w wp Q b (off+P.length)):InSS w wp (P++Q) b off:=by
 induction P generalizing off with
 | nil=>simpa using k
 | cons x r ih =>
  refine ⟨h.1,ih h.2 ?_⟩;rw[show off+1+r.length=off+(x::r).length by simp;omega];exact k
theorem InSS.fst {w wp:World} {P Q:List (List Int)} {b off:Nat} (h:InSS w wp (P++Q) b off):InSS w wp P b off:=by
 induction P generalizing off with
 | nil=>trivial
 | cons x r ih=>exact ⟨h.1,ih h.2⟩
theorem InSS.snd {w wp:World} {P Q:List (List Int)} {b off:Nat} (h:InSS w wp (P++Q) b off):InSS w wp Q b (off+P.length):=by
 induction P generalizing off with
 | nil=>simpa using h
 | cons x r ih =>
  rw[show off+(x::r).length=off+1+r.length by simp;omega];exact ih h.2
theorem SlSS.le {w u:World} {a:Option Addr} {l:Nat} {xs:List (List Int)} (h:SlSS w a l xs) (k:CLe w u):SlSS u a l xs:=by
 obtain ⟨h1,h2,h3⟩:=h;refine ⟨h1,h2,?_⟩;rcases h3 with h3|⟨b,o,e,h3⟩
 ·
  exact .inl h3
 ·
  exact .inr ⟨b,o,e,h3.le k k⟩
theorem SlSS.cases {w:World} {a:Option Addr} {l:Nat} {xs:List (List Int)} (h:SlSS w a l xs):(l=0∧xs=[])∨∃ b o,a=some ⟨b,o,Option.none⟩∧InSS w w xs b o∧0 < l:=by
 obtain ⟨h1,h2,h3⟩:=h;by_cases h0:l=0
 ·
  exact .inl ⟨h0,List.eq_nil_of_length_eq_zero (by omega)⟩
 ·
  rcases h3 with h3|⟨b,o,e,h3⟩
  ·
   exact absurd h3 h0
  ·
   exact .inr ⟨b,o,e,h3,by omega⟩
def szW:List (List Int)→Nat
 | []=>0
 | x::r=>1+x.length+szW r
theorem szW_len:∀ xs:List (List Int),xs.length≤szW xs
 | []=>Nat.le_refl _
 | x::r=>by have:=szW_len r;simp only[lB,szW];omega
def SlSC (w:World) (a:Option Addr) (l c:Nat) (xs:List (List Int)):Prop:=SlSS w a l xs∧l≤c
theorem SlSC.le {w u:World} {a:Option Addr} {l c:Nat} {xs:List (List Int)} (h:SlSC w a l c xs) (k:CLe w u):SlSC u a l c xs:=⟨h.1.le k,h.2⟩
theorem SlSC.none {w u:World} {a:Option Addr} {l c:Nat} {xs:List (List Int)} (h:SlSC w a l c xs) (k:w.grownBy u Option.none):SlSC u a l c xs:=h.le (CLe.grown k)
structure PE where
 k:Int
 n:Int
 name:List Int
 arg:List Int
 lit:List Int
inductive GE:Type
 | nil:GE
 | cons (hc:List Int) (hv:List (List Int)) (p:PE) (kids alts rest:GE):GE
def GE.len:GE→Nat
 | .nil=>0
 | .cons _ _ _ _ _ r=>r.len+1
def GE.cnt:GE→Nat
 | .nil=>0
 | .cons _ _ _ k a r=>1+k.cnt+a.cnt+r.cnt
def szPE (p:PE):Nat:=p.name.length+p.arg.length+p.lit.length
def GE.size:GE→Nat
 | .nil=>0
 | .cons hc hv p k a r=>1+(hc.length+szW hv)+szPE p+k.size+a.size+r.size
def GE.app:GE→GE→GE
 | .nil,g=>g
 | .cons hc hv p k a r,g=>.cons hc hv p k a (r.app g)
theorem GE.app_nil (f:GE):f.app .nil=f:=by
 induction f with
 | nil=>rfl
 | cons hc hv p k a r _ _ ih=>simp [GE.app,ih]
theorem GE.app_assoc (f g h:GE):(f.app g).app h=f.app (g.app h):=by
 induction f with
 | nil=>rfl
 | cons hc hv p k a r _ _ ih=>simp [GE.app,ih]
theorem GE.app_len (f g:GE):(f.app g).len=f.len+g.len:=by
 induction f with
 | nil=>simp [GE.app,GE.len]
 | cons hc hv p k a r _ _ ih=>simp [GE.app,GE.len,ih];omega
theorem GE.len_le (f:GE):f.len≤f.size:=by
 induction f with
 | nil=>simp [GE.len,GE.size]
 | cons hc hv p k a r _ _ ih=>simp [GE.len,GE.size];omega
theorem GE.nil_of_len {f:GE} (h:f.len=0):f = .nil:=by
 cases f with
 | nil=>rfl
 | cons hc hv p k a r=>simp [GE.len] at h
theorem GE.cons_of_len {f:GE} {m:Nat} (h:f.len=m+1):∃ hc hv p k a r,f = .cons hc hv p k a r∧r.len=m:=by
 cases f with
 | nil=>simp [GE.len] at h
 | cons hc hv p k a r=>exact ⟨hc,hv,p,k,a,r,rfl,by simpa [GE.len] using h⟩
def CelE (w:World) (b off:Nat) (v0 v1 v2 v3 v4 v5 v6:Value):Prop:=w.cell? ⟨b,off,none⟩=some (v0)∧w.cell? ⟨b,off+1,none⟩=some (v1)∧w.cell? ⟨b,off+2,none⟩=some (v2)∧w.cell? ⟨b,off+3,none⟩=some (v3)∧w.cell? ⟨b,off+4,none⟩=some (v4)∧w.cell? ⟨b,off+5,none⟩=some (v5)∧w.cell? ⟨b,off+6,none⟩=some (v6)
theorem CelE.le {w u:World} {b off:Nat} {v0 v1 v2 v3 v4 v5 v6:Value} (h:CelE w b off v0 v1 v2 v3 v4 v5 v6) (k:CLe w u):CelE u b off v0 v1 v2 v3 v4 v5 v6 :=
 ⟨k _ _ h.1,k _ _ h.2.1,k _ _ h.2.2.1,k _ _ h.2.2.2.1,k _ _ h.2.2.2.2.1,k _ _ h.2.2.2.2.2.1,k _ _ h.2.2.2.2.2.2⟩
def HedE (w:World) (b off:Nat) (v0 v1:Value):Prop:=w.cell? ⟨b,off,none⟩=some (v0)∧w.cell? ⟨b,off+1,none⟩=some (v1)
theorem HedE.le {w u:World} {b off:Nat} {v0 v1:Value} (h:HedE w b off v0 v1) (k:CLe w u):HedE u b off v0 v1 :=
 ⟨k _ _ h.1,k _ _ h.2⟩
def hdE:Bool→Nat
 | false=>0
 | true=>2
def wdE:Bool→Nat
 | false=>7
 | true=>9
def InGE (w wp:World):Bool→GE→Nat→Nat→Prop
 | _,.nil,_,_=>True
 | al,.cons hc hv p kids alts rest,b,off =>
  ((al=false∧hc=[]∧hv=[])∨(al=true∧∃ (e0:Option Addr) (q0 d0:Nat) (e1:Option Addr) (q1 d1:Nat),HedE w b off (.slice e0 q0 d0) (.slice e1 q1 d1)∧RdB wp e0 q0 hc∧SlSC wp e1 q1 d1 hv)) ∧
  (∃ (a1:Option Addr) (l1 c1:Nat) (a2:Option Addr) (l2 c2:Nat) (a3:Option Addr) (l3 c3:Nat) (a4:Option Addr) (l4 c4:Nat) (a5:Option Addr) (l5 c5:Nat),CelE w b (off+hdE al) (.int .i64 p.k) (.int .i64 p.n) (.slice a1 l1 c1) (.slice a2 l2 c2) (.slice a3 l3 c3) (.slice a4 l4 c4) (.slice a5 l5 c5)∧RdB wp a1 l1 p.name∧RdB wp a2 l2 p.arg∧RdB wp a3 l3 p.lit∧(kids.len=l4∧l4≤9223372036854775807∧(l4≤c4∧(a4=none→c4=0))∧(l4=0∨∃ b' o',a4=some ⟨b',o',none⟩∧InGE wp wp false kids b' o'))∧(alts.len=l5∧l5≤9223372036854775807∧(l5≤c5∧(a5=none→c5=0))∧(l5=0∨∃ b' o',a5=some ⟨b',o',none⟩∧InGE wp wp true alts b' o'))) ∧
  InGE w wp al rest b (off+wdE al)
def SlGE (w:World) (al:Bool) (a:Option Addr) (l c:Nat) (g:GE):Prop :=
 g.len=l∧l≤9223372036854775807∧(l≤c∧(a=none→c=0))∧(l=0∨∃ b o,a=some ⟨b,o,none⟩∧InGE w w al g b o)
def NdE (w:World) (p:PE) (kids alts:GE) (a1:Option Addr) (l1 c1:Nat) (a2:Option Addr) (l2 c2:Nat) (a3:Option Addr) (l3 c3:Nat) (a4:Option Addr) (l4 c4:Nat) (a5:Option Addr) (l5 c5:Nat):Prop:=RdB w a1 l1 p.name∧RdB w a2 l2 p.arg∧RdB w a3 l3 p.lit∧SlGE w false a4 l4 c4 kids∧SlGE w true a5 l5 c5 alts
theorem InGE.parts {wp up:World} (k:CLe wp up):∀ (g:GE) {w u:World} {al:Bool} {b off b' off':Nat},InGE w wp al g b off→(∀ i v,i < g.len * wdE al→w.cell? ⟨b,off+i,none⟩=some v→u.cell? ⟨b',off' + i,none⟩=some v)→InGE u up al g b' off':=by
 intro g
 induction g with
 | nil=>intros;trivial
 | cons hc hv p kids alts rest ihk iha ihr =>
  intro w u al b off b' off' h hc;obtain ⟨h1,⟨a1,l1,c1,a2,l2,c2,a3,l3,c3,a4,l4,c4,a5,l5,c5,h2,h31,h32,h33,⟨h4,h5,h45,h6⟩,h7,h8,h85,h9⟩,hr⟩:=h
  have hw:wdE al=hdE al+7:=by cases al <;> rfl
  refine ⟨?_,⟨a1,l1,c1,a2,l2,c2,a3,l3,c3,a4,l4,c4,a5,l5,c5,?_,h31.le k,h32.le k,h33.le k,⟨h4,h5,h45,?_⟩,h7,h8,h85,?_⟩,ihr hr (fun i v hi hv=>?_)⟩
  ·
   rcases h1 with h1|⟨e,e0,q0,d0,e1,q1,d1,h1,g0,g1⟩
   ·
    exact .inl h1
   ·
    subst e;exact .inr ⟨rfl,e0,q0,d0,e1,q1,d1,⟨hc 0 _ (by simp only[GE.len,wdE];omega) h1.1,hc 1 _ (by simp only[GE.len,wdE];omega) h1.2⟩,g0.le k,g1.le k⟩
  ·
   have key:∀ i,i < 7→∀ v,w.cell? ⟨b,off+hdE al+i,none⟩=some v→u.cell? ⟨b',off' + hdE al+i,none⟩=some v:=fun i hi v hv=>by
    have:=hc (hdE al+i) v (by simp only[GE.len];rw[hw,Nat.add_mul,Nat.one_mul];omega) (by rw[← Nat.add_assoc];exact hv);rw[← Nat.add_assoc] at this;exact this
   exact ⟨key 0 (by omega) _ h2.1,key 1 (by omega) _ h2.2.1,key 2 (by omega) _ h2.2.2.1,key 3 (by omega) _ h2.2.2.2.1,key 4 (by omega) _ h2.2.2.2.2.1,key 5 (by omega) _ h2.2.2.2.2.2.1,key 6 (by omega) _ h2.2.2.2.2.2.2⟩
  ·
   rcases h6 with h6|⟨b2,o2,e,h6⟩
   ·
    exact .inl h6
   ·
    exact .inr ⟨b2,o2,e,ihk h6 (fun i v _ hv=>k _ _ hv)⟩
  ·
   rcases h9 with h9|⟨b2,o2,e,h9⟩
   ·
    exact .inl h9
   ·
    exact .inr ⟨b2,o2,e,iha h9 (fun i v _ hv=>k _ _ hv)⟩
  ·
   have:=hc (wdE al+i) v (by simp only[GE.len];rw[Nat.add_mul,Nat.one_mul];omega) (by rw[← Nat.add_assoc];exact hv);rw[← Nat.add_assoc] at this;exact this
theorem InGE.move {w wp u up:World} {al:Bool} {g:GE} {b off b' off':Nat} (h:InGE w wp al g b off) (hc:∀ i v,i < g.len * wdE al→w.cell? ⟨b,off+i,none⟩=some v→u.cell? ⟨b',off' + i,none⟩=some v) (k:CLe wp up):InGE u up al g b' off':=InGE.parts k g h hc
theorem InGE.le {w wp u up:World} {al:Bool} {g:GE} {b off:Nat} (h:InGE w wp al g b off) (k:CLe w u) (k2:CLe wp up):InGE u up al g b off:=h.move (fun i v _ hv=>k _ _ hv) k2
theorem InGE.app {w wp:World} {al:Bool} {P Q:GE} {b off:Nat} (h:InGE w wp al P b off) (k:InGE w wp al Q b (off+P.len * wdE al)):InGE w wp al (P.app Q) b off:=by
 induction P generalizing off with
 | nil=>simpa [GE.app,GE.len] using k
 | cons hc hv p kids alts rest _ _ ih =>
  refine ⟨h.1,h.2.1,ih h.2.2 ?_⟩
  have e:off+wdE al+rest.len * wdE al=off+(GE.cons hc hv p kids alts rest).len * wdE al:=by simp only[GE.len,Nat.add_mul,Nat.one_mul];omega
  rw[e];exact k
theorem SlGE.le {w u:World} {al:Bool} {a:Option Addr} {l c:Nat} {g:GE} (h:SlGE w al a l c g) (k:CLe w u):SlGE u al a l c g:=by
 obtain ⟨h1,h2,h25,h3⟩:=h;refine ⟨h1,h2,h25,?_⟩;rcases h3 with h3|⟨b,o,e,h3⟩
 ·
  exact .inl h3
 ·
  exact .inr ⟨b,o,e,h3.le k k⟩
theorem SlGE.none {w u:World} {al:Bool} {a:Option Addr} {l c:Nat} {g:GE} (h:SlGE w al a l c g) (k:w.grownBy u Option.none):SlGE u al a l c g:=h.le (CLe.grown k)
theorem SlGE.cases {w:World} {al:Bool} {a:Option Addr} {l c:Nat} {g:GE} (h:SlGE w al a l c g):(l=0∧g = .nil)∨∃ b o,a=some ⟨b,o,Option.none⟩∧InGE w w al g b o∧0 < l:=by
 obtain ⟨h1,h2,h25,h3⟩:=h;by_cases h0:l=0
 ·
  exact .inl ⟨h0,GE.nil_of_len (by omega)⟩
 ·
  rcases h3 with h3|⟨b,o,e,h3⟩
  ·
   exact absurd h3 h0
  ·
   exact .inr ⟨b,o,e,h3,by omega⟩
theorem NdE.le {w u:World} {p:PE} {kids alts:GE} {a1:Option Addr} {l1 c1:Nat} {a2:Option Addr} {l2 c2:Nat} {a3:Option Addr} {l3 c3:Nat} {a4:Option Addr} {l4 c4:Nat} {a5:Option Addr} {l5 c5:Nat} (h:NdE w p kids alts a1 l1 c1 a2 l2 c2 a3 l3 c3 a4 l4 c4 a5 l5 c5) (k:CLe w u):NdE u p kids alts a1 l1 c1 a2 l2 c2 a3 l3 c3 a4 l4 c4 a5 l5 c5 :=
 ⟨h.1.le k,h.2.1.le k,h.2.2.1.le k,h.2.2.2.1.le k,h.2.2.2.2.le k⟩
theorem NdE.none {w u:World} {p:PE} {kids alts:GE} {a1:Option Addr} {l1 c1:Nat} {a2:Option Addr} {l2 c2:Nat} {a3:Option Addr} {l3 c3:Nat} {a4:Option Addr} {l4 c4:Nat} {a5:Option Addr} {l5 c5:Nat} (h:NdE w p kids alts a1 l1 c1 a2 l2 c2 a3 l3 c3 a4 l4 c4 a5 l5 c5) (k:w.grownBy u Option.none):NdE u p kids alts a1 l1 c1 a2 l2 c2 a3 l3 c3 a4 l4 c4 a5 l5 c5:=h.le (CLe.grown k)
theorem InGE.kid {w wp:World} {hc hv} {p:PE} {kids alts rest:GE} {b off:Nat} (h:InGE w wp false (.cons hc hv p kids alts rest) b off) :
  (hc=[]∧hv=[])∧∃ (a1:Option Addr) (l1 c1:Nat) (a2:Option Addr) (l2 c2:Nat) (a3:Option Addr) (l3 c3:Nat) (a4:Option Addr) (l4 c4:Nat) (a5:Option Addr) (l5 c5:Nat),CelE w b off (.int .i64 p.k) (.int .i64 p.n) (.slice a1 l1 c1) (.slice a2 l2 c2) (.slice a3 l3 c3) (.slice a4 l4 c4) (.slice a5 l5 c5)∧NdE wp p kids alts a1 l1 c1 a2 l2 c2 a3 l3 c3 a4 l4 c4 a5 l5 c5∧InGE w wp false rest b (off+7):=by
 obtain ⟨h1,⟨a1,l1,c1,a2,l2,c2,a3,l3,c3,a4,l4,c4,a5,l5,c5,h2,h3⟩,hr⟩:=h;refine ⟨?_,a1,l1,c1,a2,l2,c2,a3,l3,c3,a4,l4,c4,a5,l5,c5,h2,h3,hr⟩;rcases h1 with h1|h1
 ·
  exact h1.2
 ·
  exact absurd h1.1 (by decide)
theorem InGE.alt {w wp:World} {hc hv} {p:PE} {kids alts rest:GE} {b off:Nat} (h:InGE w wp true (.cons hc hv p kids alts rest) b off) :
  ∃ (e0:Option Addr) (q0 d0:Nat) (e1:Option Addr) (q1 d1:Nat) (a1:Option Addr) (l1 c1:Nat) (a2:Option Addr) (l2 c2:Nat) (a3:Option Addr) (l3 c3:Nat) (a4:Option Addr) (l4 c4:Nat) (a5:Option Addr) (l5 c5:Nat),HedE w b off (.slice e0 q0 d0) (.slice e1 q1 d1)∧(RdB wp e0 q0 hc∧SlSC wp e1 q1 d1 hv)∧CelE w b (off+2) (.int .i64 p.k) (.int .i64 p.n) (.slice a1 l1 c1) (.slice a2 l2 c2) (.slice a3 l3 c3) (.slice a4 l4 c4) (.slice a5 l5 c5)∧NdE wp p kids alts a1 l1 c1 a2 l2 c2 a3 l3 c3 a4 l4 c4 a5 l5 c5∧InGE w wp true rest b (off+9):=by
 obtain ⟨h1,⟨a1,l1,c1,a2,l2,c2,a3,l3,c3,a4,l4,c4,a5,l5,c5,h2,h3⟩,hr⟩:=h;rcases h1 with h1|⟨-,e0,q0,d0,e1,q1,d1,h1,g0⟩
 ·
  exact absurd h1.1 (by decide)
 ·
  exact ⟨e0,q0,d0,e1,q1,d1,a1,l1,c1,a2,l2,c2,a3,l3,c3,a4,l4,c4,a5,l5,c5,h1,g0,h2,h3,hr⟩
theorem InGE.mkKid {w wp:World} {p:PE} {kids alts:GE} {b off:Nat} {a1:Option Addr} {l1 c1:Nat} {a2:Option Addr} {l2 c2:Nat} {a3:Option Addr} {l3 c3:Nat} {a4:Option Addr} {l4 c4:Nat} {a5:Option Addr} {l5 c5:Nat} (h2:CelE w b off (.int .i64 p.k) (.int .i64 p.n) (.slice a1 l1 c1) (.slice a2 l2 c2) (.slice a3 l3 c3) (.slice a4 l4 c4) (.slice a5 l5 c5)) (h3:NdE wp p kids alts a1 l1 c1 a2 l2 c2 a3 l3 c3 a4 l4 c4 a5 l5 c5):InGE w wp false (.cons [] [] p kids alts .nil) b off :=
 ⟨.inl ⟨rfl,rfl,rfl⟩,⟨a1,l1,c1,a2,l2,c2,a3,l3,c3,a4,l4,c4,a5,l5,c5,h2,h3⟩,trivial⟩
theorem InGE.mkAlt {w wp:World} {hc:List Int} {hv:List (List Int)} {p:PE} {kids alts:GE} {b off:Nat} {e0:Option Addr} {q0 d0:Nat} {e1:Option Addr} {q1 d1:Nat} {a1:Option Addr} {l1 c1:Nat} {a2:Option Addr} {l2 c2:Nat} {a3:Option Addr} {l3 c3:Nat} {a4:Option Addr} {l4 c4:Nat} {a5:Option Addr} {l5 c5:Nat} (h1:HedE w b off (.slice e0 q0 d0) (.slice e1 q1 d1)) (g0:RdB wp e0 q0 hc∧SlSC wp e1 q1 d1 hv) (h2:CelE w b (off+2) (.int .i64 p.k) (.int .i64 p.n) (.slice a1 l1 c1) (.slice a2 l2 c2) (.slice a3 l3 c3) (.slice a4 l4 c4) (.slice a5 l5 c5)) (h3:NdE wp p kids alts a1 l1 c1 a2 l2 c2 a3 l3 c3 a4 l4 c4 a5 l5 c5):InGE w wp true (.cons hc hv p kids alts .nil) b off :=
 ⟨.inr ⟨rfl,e0,q0,d0,e1,q1,d1,h1,g0⟩,⟨a1,l1,c1,a2,l2,c2,a3,l3,c3,a4,l4,c4,a5,l5,c5,h2,h3⟩,trivial⟩
end Go.Proofs.YtblbnillilbacaaGreatDoor.By
