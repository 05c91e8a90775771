/-
  No statement is proved here.
-/
import Derived.Test.YtblbnillilbacaaGreatDoorHBaseAlsoa
import Derived.Test.YtblbnillilbacaaGreatDoorRows
import Derived.Deep.Slices
namespace Go.Proofs.YtblbnillilbacaaGreatDoor.By
open Go.RowKit
inductive F:Type
 | nil:F
 | cons (k n:Int) (kids rest:F):F
def F.len:F→Nat
 | .nil=>0
 | .cons _ _ _ r=>r.len+1
def F.size:F→Nat
 | .nil=>0
 | .cons _ _ d r=>1+d.size+r.size
def F.app:F→F→F
 | .nil,g=>g
 | .cons k n d r,g=>.cons k n d (r.app g)
theorem F.app_nil (f:F):f.app .nil=f:=by
 induction f with
 | nil=>rfl
 | cons k n d r _ ih=>simp [F.app,ih]
theorem F.app_assoc (f g h:F):(f.app g).app h=f.app (g.app h):=by
 induction f with
 | nil=>rfl
 | cons k n d r _ ih=>simp [F.app,ih]
theorem F.app_len (f g:F):(f.app g).len=f.len+g.len:=by
 induction f with
 | nil=>simp [F.app,F.len]
 | cons k n d r _ ih=>simp [F.app,F.len,ih];omega
theorem F.len_le (f:F):f.len≤f.size:=by
 induction f with
 | nil=>simp [F.len,F.size]
 | cons k n d r _ ih=>simp [F.len,F.size];omega
theorem F.nil_of_len {f:F} (h:f.len=0):f = .nil:=by
 cases f with
 | nil=>rfl
 | cons k n d r=>simp [F.len] at h
theorem F.cons_of_len {f:F} {m:Nat} (h:f.len=m+1):∃ k n d r,f = .cons k n d r∧r.len=m:=by
 cases f with
 | nil=>simp [F.len] at h
 | cons k n d r=>exact ⟨k,n,d,r,rfl,by simpa [F.len] using h⟩
def InF (w:World):F→Nat→Nat→Prop
 | .nil,_,_=>True
 | .cons k n d r,b,off=>(∃ a l c,w.cell? ⟨b,off,none⟩=some (.int .i64 k)∧w.cell? ⟨b,off+1,none⟩=some (.int .i64 n)∧w.cell? ⟨b,off+2,none⟩=some (.slice a l c)∧d.len=l∧l≤9223372036854775807∧(l=0∨∃ b' o',a=some ⟨b',o',none⟩∧InF w d b' o'))∧InF w r b (off+3)
def SlF (w:World) (a:Option Addr) (l:Nat) (f:F):Prop :=
 f.len=l∧l≤9223372036854775807∧(l=0∨∃ b o,a=some ⟨b,o,none⟩∧InF w f b o)
theorem InF.out {w:World} {k n:Int} {d r:F} {b off:Nat} (h:InF w (.cons k n d r) b off) :
  ∃ a l c,w.cell? ⟨b,off,none⟩=some (.int .i64 k)∧w.cell? ⟨b,off+1,none⟩=some (.int .i64 n)∧w.cell? ⟨b,off+2,none⟩=some (.slice a l c)∧SlF w a l d∧InF w r b (off+3):=by
 obtain ⟨⟨a,l,c,h0,h1,h2,h3⟩,hr⟩:=h;exact ⟨a,l,c,h0,h1,h2,h3,hr⟩
theorem InF.mk {w:World} {k n:Int} {d r:F} {b off:Nat} {a:Option Addr} {l c:Nat} (h0:w.cell? ⟨b,off,none⟩=some (.int .i64 k)) (h1:w.cell? ⟨b,off+1,none⟩=some (.int .i64 n)) (h2:w.cell? ⟨b,off+2,none⟩=some (.slice a l c)) (h3:SlF w a l d) (h4:InF w r b (off+3)):InF w (.cons k n d r) b off :=
 ⟨⟨a,l,c,h0,h1,h2,h3⟩,h4⟩
theorem InF.cells {w w':World} {f:F} {b off:Nat} (h:InF w f b off) (hc:∀ p v,w.cell? p=some v→w'.cell? p=some v):InF w' f b off:=by
 induction f generalizing b off with
 | nil=>trivial
 | cons k n d r ihd ihr =>
  obtain ⟨⟨a,l,c,h0,h1,h2,h3,h4,h5⟩,hr⟩:=h;refine ⟨⟨a,l,c,hc _ _ h0,hc _ _ h1,hc _ _ h2,h3,h4,?_⟩,ihr hr⟩;rcases h5 with h5|⟨b',o',e,h5⟩
  ·
   exact .inl h5
  ·
   exact .inr ⟨b',o',e,ihd h5⟩
theorem InF.none {w w':World} {f:F} {b off:Nat} (h:InF w f b off) (hg:w.grownBy w' Option.none):InF w' f b off :=
 h.cells fun _ _ hv=>hg.cell hv (by simp)
theorem SlF.none {w w':World} {f:F} {a:Option Addr} {l:Nat} (h:SlF w a l f) (hg:w.grownBy w' Option.none):SlF w' a l f:=by
 obtain ⟨h1,h2,h3⟩:=h;refine ⟨h1,h2,?_⟩;rcases h3 with h3|⟨b,o,e,h3⟩
 ·
  exact .inl h3
 ·
  exact .inr ⟨b,o,e,h3.none hg⟩
theorem SlF.cases {w:World} {f:F} {a:Option Addr} {l:Nat} (h:SlF w a l f):(l=0∧f = .nil)∨∃ b o,a=some ⟨b,o,Option.none⟩∧InF w f b o∧f.len=l∧0 < l:=by
 obtain ⟨h1,h2,h3⟩:=h;by_cases h0:l=0
 ·
  subst h0;exact .inl ⟨rfl,F.nil_of_len h1⟩
 ·
  rcases h3 with h3|⟨b,o,e,h3⟩
  ·
   exact absurd h3 h0
  ·
   exact .inr ⟨b,o,e,h3,h1,by omega⟩
theorem three {w:World} {g:Nat} {t:TypeId} {c0 c1 c2:Value} (h:w.heap[g]? = some (.cells #[c0,c1,c2] t (0,0))) :
  (w.cell? ⟨g,0,none⟩=some c0∧w.cell? ⟨g,1,none⟩=some c1∧w.cell? ⟨g,2,none⟩=some c2)∧(w.frozen? ⟨g,0,none⟩=false∧w.frozen? ⟨g,1,none⟩=false∧w.frozen? ⟨g,2,none⟩=false):=by
 refine ⟨⟨?_,?_,?_⟩,frozen_of_row w g _ _ t h,frozen_of_row w g _ _ t h,frozen_of_row w g _ _ t h⟩ <;> (rw[cell_of_row w g _ _ t (0,0) h];rfl)
theorem alloc2_blocks (w:World) (A B:Obj):((w.alloc A).alloc B).heap[w.heap.size]? = some A∧((w.alloc A).alloc B).heap[w.heap.size+1]? = some B∧((w.alloc A).alloc B).heap.size=w.heap.size+1+1:=by
 have e1:(w.alloc A).heap.size=w.heap.size+1:=by simp
 refine ⟨?_,?_,by simp⟩
 ·
  rw[heap_alloc_old _ _ (by omega)];exact heap_alloc_new w A
 ·
  have:=heap_alloc_new (w.alloc A) B;rw[e1] at this;exact this
theorem fill3 {w:World} {p:Nat} {t:TypeId} {c0 c1 c2:Value} (v0 v1 v2:Value) (h:w.heap[p]? = some (.cells #[c0,c1,c2] t (0,0))) :
  (((w.setCell ⟨p,0,none⟩ v0).setCell ⟨p,1,none⟩ v1).setCell ⟨p,2,none⟩ v2).heap[p]? = some (.cells #[v0,v1,v2] t (0,0))∧w.grownBy (((w.setCell ⟨p,0,none⟩ v0).setCell ⟨p,1,none⟩ v1).setCell ⟨p,2,none⟩ v2) (some p) :=
 ⟨heap_setCell_same _ p 2 _ t _ (heap_setCell_same _ p 1 _ t _ (heap_setCell_same w p 0 _ t _ h)),gtr (gtr (gsc _ _ _ _) (gsc _ _ _ _)) (gsc _ _ _ _)⟩
open Go.ChangeShapes Go.WideShapes Go.ChangeAt Go.RowKit Go.Deep
set_option linter.unusedVariables false
set_option maxRecDepth 100000
theorem plain_at {x:Addr} {w:World} {v:Value} (h:w.cell? x=some v):x=⟨x.block,x.off,none⟩:=by
 obtain ⟨b,o,s⟩:=x;have:s=none:=World.cell?_spot h;subst this;rfl
theorem inF_of_each {W:World} {b:Nat} (l:Nat):∀ (o:Nat),(∀ i,i < l→∃ (k n:Int) (a:Option Addr) (l' c:Nat) (d:F),W.cell? ⟨b,o+i * 3,none⟩=some (.int .i64 k)∧W.cell? ⟨b,o+i * 3+1,none⟩=some (.int .i64 n)∧W.cell? ⟨b,o+i * 3+2,none⟩=some (.slice a l' c)∧SlF W a l' d)→∃ f:F,f.len=l∧InF W f b o:=by
 induction l with
 | zero=>intro o _;exact ⟨.nil,rfl,trivial⟩
 | succ l ih =>
  intro o h;obtain ⟨k,n,a,l',c,d,h0,h1,h2,h3⟩:=h 0 (by omega)
  obtain ⟨f,hf,hin⟩:=ih (o+3) (fun i hi=>by
   have:=h (i+1) (by omega)
   have e:o+(i+1) * 3=o+3+i * 3:=by omega
   rw[e] at this;exact this)
  exact ⟨.cons k n d f,by simp [F.len,hf],InF.mk (by simpa using h0) (by simpa using h1) (by simpa using h2) h3 hin⟩
section
variable {H:Type} {enc:TypeId × Value→H} {W:World} {base:Nat} {spare:Nat→Bool} {held:Bool}
theorem openInt {fuel:Nat} {v:Value} {x:DataW H × List MemPlace} (h:DataW.trod enc Tryz.prog W base spare held fuel 3 [v]=some x):∃ z,v = .int .i64 z∧(Lit.int .i64 z).wf=true:=by
 obtain ⟨z,e,_,hw⟩:=DataW.trod_int Tryz.underlying3 h;simp at e;exact ⟨z,e,hw⟩
theorem openTree (fuel:Nat):(∀ (v0 v1 v2:Value) (x:DataW H × List MemPlace),DataW.trod enc Tryz.prog W base spare held fuel 192 [v0,v1,v2]=some x→∃ k n a l c d,v0 = .int .i64 k∧v1 = .int .i64 n∧v2 = .slice a l c∧SlF W a l d) ∧
  (∀ (v:Value) (x:DataW H × List MemPlace),DataW.trod enc Tryz.prog W base spare held fuel 153 [v]=some x→∃ a l c d,v = .slice a l c∧SlF W a l d):=by
 induction fuel with
 | zero=>exact ⟨fun v0 v1 v2 x h=>by simp [DataW.trod] at h,fun v x h=>by simp [DataW.trod] at h⟩
 | succ fuel ih =>
  constructor
  ·
   intro v0 v1 v2 x h;obtain ⟨xs,n',hn',_,_,hxl,hf⟩:=DataW.trod_struct Tryz.underlying192 h
   obtain rfl:fuel=n':=by omega
   have c3:Tryz.prog.cellsOf 3=1:=by kernel_rfl
   have c37:Tryz.prog.cellsOf 153=1:=by kernel_rfl
   have f0:DataW.trod enc Tryz.prog W base spare held fuel 3 (([v0,v1,v2].drop 0).take (Tryz.prog.cellsOf 3))=xs[0]?:=hf 0 _ rfl;have f1:DataW.trod enc Tryz.prog W base spare held fuel 3 (([v0,v1,v2].drop 1).take (Tryz.prog.cellsOf 3))=xs[1]?:=hf 1 _ rfl;have f2:DataW.trod enc Tryz.prog W base spare held fuel 153 (([v0,v1,v2].drop 2).take (Tryz.prog.cellsOf 153))=xs[2]?:=hf 2 _ rfl;rw[c3] at f0 f1;rw[c37] at f2;have hx3:xs.length=3:=hxl;rw[List.getElem?_eq_getElem (by omega)] at f0 f1 f2;obtain ⟨k,rfl,_⟩:=openInt (v:=v0) (by simpa using f0);obtain ⟨n,rfl,_⟩:=openInt (v:=v1) (by simpa using f1);obtain ⟨a,l,c,d,rfl,hd⟩:=ih.2 v2 _ (by simpa using f2);exact ⟨k,n,a,l,c,d,rfl,rfl,rfl,hd⟩
  ·
   intro v x h;rcases DataW.trod_slice Tryz.underlying153 h with ⟨hcs,_⟩|⟨y,l,c,elems,rest,n',hn',hcs,_,hb,hl,hm,hlen,hel,_,_⟩
   ·
    simp at hcs;exact ⟨none,0,0,.nil,hcs,rfl,by omega,.inl rfl⟩
   ·
    simp at hcs
    obtain rfl:fuel=n':=by omega
    have hm':c≤9223372036854775807:=by simpa [maxLen] using hm
    have hC:Tryz.prog.cellsOf 192=3:=by kernel_rfl
    rw[hC] at hel
    have hel2:∀ i,i < l→∃ (k n:Int) (a:Option Addr) (l' c:Nat) (d:F),W.cell? (y.add (i * 3))=some (.int .i64 k)∧W.cell? ((y.add (i * 3)).add 1)=some (.int .i64 n)∧W.cell? ((y.add (i * 3)).add 2)=some (.slice a l' c)∧SlF W a l' d:=by
     intro i hi;have h1:=hel i hi;rw[List.getElem?_eq_getElem (by omega),Option.bind_eq_some_iff] at h1;obtain ⟨cs',h1,h2⟩:=h1;obtain ⟨_,hlen',hcell⟩:=World.cells?_some h1
     match cs',hlen' with
     | [v0,v1,v2],_ =>
      obtain ⟨k,n,a,l',c',d,rfl,rfl,rfl,hd⟩:=ih.1 v0 v1 v2 _ h2;have k0:=hcell 0 (by omega);have k1:=hcell 1 (by omega);have k2:=hcell 2 (by omega);exact ⟨k,n,a,l',c',d,by simpa [Addr.add] using k0,by simpa using k1,by simpa using k2,hd⟩
    by_cases h0:l=0
    ·
     subst h0;exact ⟨some y,0,c,.nil,hcs,rfl,by omega,.inl rfl⟩
    obtain ⟨_,_,_,_,_,_,hz0,_⟩:=hel2 0 (by omega);have e:=plain_at (by simpa [Addr.add] using hz0)
    obtain ⟨f,hf,hin⟩:=inF_of_each (W:=W) (b:=y.block) l y.off (fun i hi=>by
     obtain ⟨k,n,a,l',c',d,q0,q1,q2,hd⟩:=hel2 i hi;rw[e,add_plain] at q0 q1 q2;rw[add_plain] at q1 q2
     exact ⟨k,n,a,l',c',d,q0,q1,q2,hd⟩)
    exact ⟨some y,l,c,f,hcs,hf,by omega,.inr ⟨y.block,y.off,by rw[← e],hin⟩⟩
end
def Blk (w:World) (t:TypeId) (g c:Nat):Prop:=∃ cur,w.heap[g]? = some (.cells cur t (0,0))∧cur.size=c * 3
theorem Blk.lt {w:World} {t:TypeId} {g c:Nat} (h:Blk w t g c):g < w.heap.size:=by
 obtain ⟨cur,hc,_⟩:=h;exact lt_of_block hc
theorem Blk.of {w w':World} {t:TypeId} {g c:Nat} (h:Blk w t g c) (e:w'.heap[g]? = w.heap[g]?):Blk w' t g c:=by
 obtain ⟨cur,hc,r⟩:=h;exact ⟨cur,by rw[e];exact hc,r⟩
theorem Blk.free {w:World} {t:TypeId} {g c:Nat} (h:Blk w t g c) (j:Nat):w.frozen? ⟨g,j,none⟩=false:=by
 obtain ⟨cur,hc,_⟩:=h;exact frozen_of_row w g j cur t hc
theorem Blk.has {w:World} {t:TypeId} {g c:Nat} (h:Blk w t g c) (j:Nat) (hj:j < c * 3):∃ v,w.cell? ⟨g,j,none⟩=some v:=by
 obtain ⟨cur,hc,hs⟩:=h;rw[cell_of_row w g j cur t (0,0) hc];exact ⟨_,Array.getElem?_eq_getElem (by omega)⟩
theorem cell_of_heap {w w':World} {g j:Nat} (e:w'.heap[g]? = w.heap[g]?):w'.cell? ⟨g,j,none⟩=w.cell? ⟨g,j,none⟩:=by
 unfold World.cell?;simp only[e]
theorem Blk.put3 {u:World} {t:TypeId} {g c:Nat} (h:Blk u t g c) (p:Nat) (hp:p+2 < c * 3) (v0 v1 v2:Value) :
  Blk (((u.setCell ⟨g,p,none⟩ v0).setCell ⟨g,p+1,none⟩ v1).setCell ⟨g,p+2,none⟩ v2) t g c∧u.grownBy (((u.setCell ⟨g,p,none⟩ v0).setCell ⟨g,p+1,none⟩ v1).setCell ⟨g,p+2,none⟩ v2) (some g) ∧
  ((((u.setCell ⟨g,p,none⟩ v0).setCell ⟨g,p+1,none⟩ v1).setCell ⟨g,p+2,none⟩ v2).cell? ⟨g,p,none⟩=some v0∧(((u.setCell ⟨g,p,none⟩ v0).setCell ⟨g,p+1,none⟩ v1).setCell ⟨g,p+2,none⟩ v2).cell? ⟨g,p+1,none⟩=some v1∧(((u.setCell ⟨g,p,none⟩ v0).setCell ⟨g,p+1,none⟩ v1).setCell ⟨g,p+2,none⟩ v2).cell? ⟨g,p+2,none⟩=some v2) ∧
  ∀ q,(q < p∨p+2 < q)→(((u.setCell ⟨g,p,none⟩ v0).setCell ⟨g,p+1,none⟩ v1).setCell ⟨g,p+2,none⟩ v2).cell? ⟨g,q,none⟩=u.cell? ⟨g,q,none⟩:=by
 obtain ⟨cur,hc,hs⟩:=h;have h1:=heap_setCell_same u g p cur t v0 hc;have h2:=heap_setCell_same _ g (p+1) _ t v1 h1;have h3:=heap_setCell_same _ g (p+2) _ t v2 h2;refine ⟨⟨_,h3,by simpa using hs⟩,gtr (gtr (gsc _ _ _ _) (gsc _ _ _ _)) (gsc _ _ _ _),⟨?_,?_,?_⟩,fun q hq=>?_⟩
 ·
  rw[cell_of_row _ g _ _ t (0,0) h3];simp [show p < cur.size by omega]
 ·
  rw[cell_of_row _ g _ _ t (0,0) h3];simp [show p+1 < cur.size by omega]
 ·
  rw[cell_of_row _ g _ _ t (0,0) h3];simp [show p+2 < cur.size by omega]
 ·
  rw[cell_of_row _ g _ _ t (0,0) h3,cell_of_row _ g _ _ t (0,0) hc];rw[Array.getElem?_setIfInBounds_ne (by omega),Array.getElem?_setIfInBounds_ne (by omega),Array.getElem?_setIfInBounds_ne (by omega)]
def OwnF (w:World) (t:TypeId):F→Nat→Nat→List Nat→Prop
 | .nil,_,_,bs=>bs=[]
 | .cons k n d r,b,off,bs=>∃ bs1 bs2,bs=bs1++bs2∧(∃ a l c,w.cell? ⟨b,off,none⟩=some (.int .i64 k)∧w.cell? ⟨b,off+1,none⟩=some (.int .i64 n)∧w.cell? ⟨b,off+2,none⟩=some (.slice a l c)∧d.len=l∧l≤9223372036854775807∧l≤c∧((c=0∧bs1=[])∨∃ g bs',0 < l∧a=some ⟨g,0,none⟩∧bs1=g::bs'∧Blk w t g c∧OwnF w t d g 0 bs'))∧OwnF w t r b (off+3) bs2
def SlO (w:World) (t:TypeId) (a:Option Addr) (l c:Nat) (f:F) (bs:List Nat):Prop :=
 f.len=l∧l≤9223372036854775807∧l≤c∧((c=0∧bs=[])∨∃ g bs',0 < l∧a=some ⟨g,0,none⟩∧bs=g::bs'∧Blk w t g c∧OwnF w t f g 0 bs')
theorem OwnF.mk {w:World} {t:TypeId} {k n:Int} {d r:F} {b off:Nat} {bs1 bs2:List Nat} {a:Option Addr} {l c:Nat} (h0:w.cell? ⟨b,off,none⟩=some (.int .i64 k)) (h1:w.cell? ⟨b,off+1,none⟩=some (.int .i64 n)) (h2:w.cell? ⟨b,off+2,none⟩=some (.slice a l c)) (h3:SlO w t a l c d bs1) (h4:OwnF w t r b (off+3) bs2):OwnF w t (.cons k n d r) b off (bs1++bs2) :=
 ⟨bs1,bs2,rfl,⟨a,l,c,h0,h1,h2,h3⟩,h4⟩
theorem OwnF.reads {w:World} {t:TypeId} {f:F} {b off:Nat} {bs:List Nat} (h:OwnF w t f b off bs):InF w f b off:=by
 induction f generalizing b off bs with
 | nil=>trivial
 | cons k n d r ihd ihr =>
  obtain ⟨bs1,bs2,e,⟨a,l,c,h0,h1,h2,h3,h4,h5,h6⟩,hr⟩:=h;refine ⟨⟨a,l,c,h0,h1,h2,h3,h4,?_⟩,ihr hr⟩;rcases h6 with ⟨h6,_⟩|⟨g,bs',_,e1,_,_,h6⟩
  ·
   exact .inl (by omega)
  ·
   exact .inr ⟨g,0,e1,ihd h6⟩
theorem SlO.reads {w:World} {t:TypeId} {f:F} {a:Option Addr} {l c:Nat} {bs:List Nat} (h:SlO w t a l c f bs):SlF w a l f:=by
 obtain ⟨h1,h2,h3,h4⟩:=h;refine ⟨h1,h2,?_⟩;rcases h4 with ⟨h4,_⟩|⟨g,bs',_,e1,_,_,h4⟩
 ·
  exact .inl (by omega)
 ·
  exact .inr ⟨g,0,e1,h4.reads⟩
theorem OwnF.lt {w:World} {t:TypeId} {f:F} {b off:Nat} {bs:List Nat} (h:OwnF w t f b off bs):∀ g ∈ bs,g < w.heap.size:=by
 induction f generalizing b off bs with
 | nil=>intro g hg;rw[show bs=[] from h] at hg;simp at hg
 | cons k n d r ihd ihr =>
  obtain ⟨bs1,bs2,rfl,⟨a,l,c,h0,h1,h2,h3,h4,h5,h6⟩,hr⟩:=h;intro g hg;rcases List.mem_append.1 hg with hg|hg
  ·
   rcases h6 with ⟨_,rfl⟩|⟨g',bs',_,_,rfl,hb,h6⟩
   ·
    simp at hg
   ·
    rcases List.mem_cons.1 hg with rfl|hg
    ·
     exact hb.lt
    ·
     exact ihd h6 g hg
  ·
   exact ihr hr g hg
theorem SlO.lt {w:World} {t:TypeId} {f:F} {a:Option Addr} {l c:Nat} {bs:List Nat} (h:SlO w t a l c f bs):∀ g ∈ bs,g < w.heap.size:=by
 obtain ⟨h1,h2,h3,h4⟩:=h;intro g hg;rcases h4 with ⟨_,rfl⟩|⟨g',bs',_,_,rfl,hb,h6⟩
 ·
  simp at hg
 ·
  rcases List.mem_cons.1 hg with rfl|hg
  ·
   exact hb.lt
  ·
   exact h6.lt g hg
theorem OwnF.move {w w':World} {t:TypeId} {f:F} {b off b' off':Nat} {bs:List Nat} (h:OwnF w t f b off bs) (hc:∀ i,i < f.len * 3→w'.cell? ⟨b',off' + i,none⟩=w.cell? ⟨b,off+i,none⟩) (hb:∀ g ∈ bs,w'.heap[g]? = w.heap[g]?):OwnF w' t f b' off' bs:=by
 induction f generalizing b off b' off' bs with
 | nil=>exact h
 | cons k n d r ihd ihr =>
  obtain ⟨bs1,bs2,rfl,⟨a,l,c,h0,h1,h2,h3,h4,h5,h6⟩,hr⟩:=h;simp only[F.len] at hc;have k0:=hc 0 (by omega);have k1:=hc 1 (by omega);have k2:=hc 2 (by omega);refine ⟨bs1,bs2,rfl,⟨a,l,c,by simpa using k0.trans h0,k1.trans h1,k2.trans h2,h3,h4,h5,?_⟩,ihr hr (fun i hi=>?_) (fun g hg=>hb g (List.mem_append_right _ hg))⟩
  ·
   rcases h6 with h6|⟨g,bs',hp,e1,rfl,hbk,h6⟩
   ·
    exact .inl h6
   ·
    have eg:=hb g (by simp);exact .inr ⟨g,bs',hp,e1,rfl,hbk.of eg,ihd h6 (fun i _=>cell_of_heap eg) (fun g' hg'=>hb g' (by simp [hg']))⟩
  ·
   have:=hc (3+i) (by omega);rw[Nat.add_assoc,Nat.add_assoc];exact this
theorem SlO.of {w w':World} {t:TypeId} {f:F} {a:Option Addr} {l c:Nat} {bs:List Nat} (h:SlO w t a l c f bs) (hb:∀ g ∈ bs,w'.heap[g]? = w.heap[g]?):SlO w' t a l c f bs:=by
 obtain ⟨h1,h2,h3,h4⟩:=h;refine ⟨h1,h2,h3,?_⟩;rcases h4 with h4|⟨g,bs',hp,e1,rfl,hbk,h4⟩
 ·
  exact .inl h4
 ·
  have eg:=hb g (by simp);exact .inr ⟨g,bs',hp,e1,rfl,hbk.of eg,h4.move (fun i _=>cell_of_heap eg) (fun g' hg'=>hb g' (by simp [hg']))⟩
theorem SlO.kept {w w':World} {t:TypeId} {f:F} {a:Option Addr} {l c:Nat} {bs:List Nat} {row:Option Nat} (h:SlO w t a l c f bs) (hg:w.grownBy w' row) (hne:∀ g ∈ bs,some g≠row):SlO w' t a l c f bs :=
 h.of fun g hm=>hg.block g (h.lt g hm) (hne g hm)
theorem OwnF.old {w w':World} {t:TypeId} {f:F} {b off:Nat} {bs:List Nat} (h:OwnF w t f b off bs) (hg:w.grownBy w' none) (hb:b < w.heap.size):OwnF w' t f b off bs :=
 h.move (fun i _=>cell_of_heap (hg.block b hb (by simp))) fun g hm=>hg.block g (h.lt g hm) (by simp)
theorem OwnF.app {w:World} {t:TypeId} {f g:F} {b off:Nat} {bs1 bs2:List Nat} (h:OwnF w t f b off bs1) (k:OwnF w t g b (off+f.len * 3) bs2):OwnF w t (f.app g) b off (bs1++bs2):=by
 induction f generalizing off bs1 with
 | nil=>rw[show bs1=[] from h];simpa [F.app,F.len] using k
 | cons kk n d r ihd ihr =>
  obtain ⟨c1,c2,rfl,hx,hr⟩:=h
  have e:off+(F.cons kk n d r).len * 3=off+3+r.len * 3:=by simp only[F.len];omega
  rw[e] at k;rw[List.append_assoc];exact ⟨c1,c2++bs2,rfl,hx,ihr hr k⟩
theorem OwnF.one {w:World} {t:TypeId} {k n:Int} {d:F} {b off:Nat} {bs:List Nat} {a:Option Addr} {l c:Nat} (h0:w.cell? ⟨b,off,none⟩=some (.int .i64 k)) (h1:w.cell? ⟨b,off+1,none⟩=some (.int .i64 n)) (h2:w.cell? ⟨b,off+2,none⟩=some (.slice a l c)) (h3:SlO w t a l c d bs):OwnF w t (.cons k n d .nil) b off bs:=by
 have:=OwnF.mk (r:=.nil) (bs2:=[]) h0 h1 h2 h3 rfl;simpa using this
def New (w u:World) (t:TypeId) (a:Option Addr) (l c:Nat) (f:F) (bs:List Nat):Prop :=
 SlO u t a l c f bs∧bs.Nodup∧∀ g ∈ bs,w.heap.size≤g
structure Co where
 name:List Int
 flds:F
structure Da where
 name:List Int
 vars:Int
 cons:List Co
def CLe (w u:World):Prop:=∀ p v,w.cell? p=some v→u.cell? p=some v
theorem CLe.grown {w u:World} (h:w.grownBy u none):CLe w u:=fun _ _ hv=>h.cell hv (by simp)
def RdB (w:World) (a:Option Addr) (n:Nat) (zs:List Int):Prop:=Reads w a n zs∧Byt zs∧n≤9223372036854775807
theorem RdB.le {w u:World} {a:Option Addr} {n:Nat} {zs:List Int} (h:RdB w a n zs) (k:CLe w u):RdB u a n zs:=by
 obtain ⟨⟨h1,h2⟩,h3⟩:=h;refine ⟨⟨h1,?_⟩,h3⟩;rcases h2 with h2|⟨b,o,e,h2⟩
 ·
  exact .inl h2
 ·
  exact .inr ⟨b,o,e,fun i hi=>k _ _ (h2 i hi)⟩
theorem RdB.none {w u:World} {a:Option Addr} {n:Nat} {zs:List Int} (h:RdB w a n zs) (k:w.grownBy u Option.none):RdB u a n zs:=h.le (CLe.grown k)
theorem SlF.le {w u:World} {a:Option Addr} {l:Nat} {f:F} (h:SlF w a l f) (k:CLe w u):SlF u a l f:=by
 obtain ⟨h1,h2,h3⟩:=h;refine ⟨h1,h2,?_⟩;rcases h3 with h3|⟨b,o,e,h3⟩
 ·
  exact .inl h3
 ·
  exact .inr ⟨b,o,e,h3.cells k⟩
def InCo (w wp:World):List Co→Nat→Nat→Prop
 | [],_,_=>True
 | x::r,b,off=>(∃ a n c a' l' c',w.cell? ⟨b,off,none⟩=some (.slice a n c)∧w.cell? ⟨b,off+1,none⟩=some (.slice a' l' c')∧RdB wp a n x.name∧SlF wp a' l' x.flds)∧InCo w wp r b (off+2)
def SlCo (w:World) (a:Option Addr) (l:Nat) (cs:List Co):Prop :=
 cs.length=l∧l≤9223372036854775807∧(l=0∨∃ b o,a=some ⟨b,o,none⟩∧InCo w w cs b o)
theorem InCo.move {w wp u up:World} {cs:List Co} {b off b' off':Nat} (h:InCo w wp cs b off) (hc:∀ i v,i < cs.length * 2→w.cell? ⟨b,off+i,none⟩=some v→u.cell? ⟨b',off' + i,none⟩=some v) (k:CLe wp up):InCo u up cs b' off':=by
 induction cs generalizing off off' with
 | nil=>trivial
 | cons x r ih =>
  obtain ⟨⟨a,n,c,a',l',c',h0,h1,h2,h3⟩,hr⟩:=h;refine ⟨⟨a,n,c,a',l',c',by simpa using hc 0 _ (by simp) h0,hc 1 _ (by simp;omega) h1,h2.le k,h3.le k⟩,ih hr (fun i v hi hv=>?_)⟩;have:=hc (i+2) v (by simp;omega) (by rw[show off+(i+2)=off+2+i by omega];exact hv);rw[show off' + 2+i=off' + (i+2) by omega];exact this
theorem InCo.le {w wp u up:World} {cs:List Co} {b off:Nat} (h:InCo w wp cs b off) (k:CLe w u) (k2:CLe wp up):InCo u up cs b off:=h.move (fun i v _ hv=>k _ _ hv) k2
theorem InCo.app {w wp:World} {P Q:List Co} {b off:Nat} (h:InCo w wp P b off) (k:InCo w wp Q b (off+P.length * 2)):InCo w wp (P++Q) b off:=by
 induction P generalizing off with
 | nil=>simpa using k
 | cons x r ih =>
  refine ⟨h.1,ih h.2 ?_⟩;rw[show off+2+r.length * 2=off+(x::r).length * 2 by simp;omega];exact k
theorem SlCo.le {w u:World} {a:Option Addr} {l:Nat} {cs:List Co} (h:SlCo w a l cs) (k:CLe w u):SlCo u a l cs:=by
 obtain ⟨h1,h2,h3⟩:=h;refine ⟨h1,h2,?_⟩;rcases h3 with h3|⟨b,o,e,h3⟩
 ·
  exact .inl h3
 ·
  exact .inr ⟨b,o,e,h3.le k k⟩
theorem SlCo.none {w u:World} {a:Option Addr} {l:Nat} {cs:List Co} (h:SlCo w a l cs) (k:w.grownBy u Option.none):SlCo u a l cs:=h.le (CLe.grown k)
theorem SlCo.cases {w:World} {a:Option Addr} {l:Nat} {cs:List Co} (h:SlCo w a l cs):(l=0∧cs=[])∨∃ b o,a=some ⟨b,o,Option.none⟩∧InCo w w cs b o∧0 < l:=by
 obtain ⟨h1,h2,h3⟩:=h;by_cases h0:l=0
 ·
  exact .inl ⟨h0,List.eq_nil_of_length_eq_zero (by omega)⟩
 ·
  rcases h3 with h3|⟨b,o,e,h3⟩
  ·
   exact absurd h3 h0
  ·
   exact .inr ⟨b,o,e,h3,by omega⟩
def InDa (w wp:World):List Da→Nat→Nat→Prop
 | [],_,_=>True
 | x::r,b,off=>(∃ a n c a' l' c',w.cell? ⟨b,off,none⟩=some (.slice a n c)∧w.cell? ⟨b,off+1,none⟩=some (.int .i64 x.vars)∧w.cell? ⟨b,off+2,none⟩=some (.slice a' l' c')∧RdB wp a n x.name∧SlCo wp a' l' x.cons)∧InDa w wp r b (off+3)
def SlDa (w:World) (a:Option Addr) (l:Nat) (ds:List Da):Prop :=
 ds.length=l∧l≤9223372036854775807∧(l=0∨∃ b o,a=some ⟨b,o,none⟩∧InDa w w ds b o)
theorem InDa.move {w wp u up:World} {ds:List Da} {b off b' off':Nat} (h:InDa w wp ds b off) (hc:∀ i v,i < ds.length * 3→w.cell? ⟨b,off+i,none⟩=some v→u.cell? ⟨b',off' + i,none⟩=some v) (k:CLe wp up):InDa u up ds b' off':=by
 induction ds generalizing off off' with
 | nil=>trivial
 | cons x r ih =>
  obtain ⟨⟨a,n,c,a',l',c',h0,h1,h2,h3,h4⟩,hr⟩:=h;refine ⟨⟨a,n,c,a',l',c',by simpa using hc 0 _ (by simp) h0,hc 1 _ (by simp;omega) h1,hc 2 _ (by simp;omega) h2,h3.le k,h4.le k⟩,ih hr (fun i v hi hv=>?_)⟩;have:=hc (i+3) v (by simp;omega) (by rw[show off+(i+3)=off+3+i by omega];exact hv);rw[show off' + 3+i=off' + (i+3) by omega];exact this
theorem InDa.le {w wp u up:World} {ds:List Da} {b off:Nat} (h:InDa w wp ds b off) (k:CLe w u) (k2:CLe wp up):InDa u up ds b off:=h.move (fun i v _ hv=>k _ _ hv) k2
theorem InDa.app {w wp:World} {P Q:List Da} {b off:Nat} (h:InDa w wp P b off) (k:InDa w wp Q b (off+P.length * 3)):InDa w wp (P++Q) b off:=by
 induction P generalizing off with
 | nil=>simpa using k
 | cons x r ih =>
  refine ⟨h.1,ih h.2 ?_⟩;rw[show off+3+r.length * 3=off+(x::r).length * 3 by simp;omega];exact k
theorem SlDa.le {w u:World} {a:Option Addr} {l:Nat} {ds:List Da} (h:SlDa w a l ds) (k:CLe w u):SlDa u a l ds:=by
 obtain ⟨h1,h2,h3⟩:=h;refine ⟨h1,h2,?_⟩;rcases h3 with h3|⟨b,o,e,h3⟩
 ·
  exact .inl h3
 ·
  exact .inr ⟨b,o,e,h3.le k k⟩
theorem SlDa.none {w u:World} {a:Option Addr} {l:Nat} {ds:List Da} (h:SlDa w a l ds) (k:w.grownBy u Option.none):SlDa u a l ds:=h.le (CLe.grown k)
theorem SlDa.cases {w:World} {a:Option Addr} {l:Nat} {ds:List Da} (h:SlDa w a l ds):(l=0∧ds=[])∨∃ b o,a=some ⟨b,o,Option.none⟩∧InDa w w ds b o∧0 < l:=by
 obtain ⟨h1,h2,h3⟩:=h;by_cases h0:l=0
 ·
  exact .inl ⟨h0,List.eq_nil_of_length_eq_zero (by omega)⟩
 ·
  rcases h3 with h3|⟨b,o,e,h3⟩
  ·
   exact absurd h3 h0
  ·
   exact .inr ⟨b,o,e,h3,by omega⟩
set_option maxRecDepth 100000
theorem bytes_of_each {W:World} {b:Nat} (l:Nat):∀ (o:Nat),(∀ i,i < l→∃ z:Int,W.cell? ⟨b,o+i,none⟩=some (.int .u8 z)∧0≤z∧z≤255)→∃ zs:List Int,zs.length=l∧Byt zs∧∀ i,i < l→W.cell? ⟨b,o+i,none⟩=some (.int .u8 (zs.getD i 0)):=by
 induction l with
 | zero=>intro o _;exact ⟨[],rfl,fun z hz=>by simp at hz,fun i hi=>by omega⟩
 | succ l ih =>
  intro o h;obtain ⟨z,h0,hz⟩:=h 0 (by omega)
  obtain ⟨zs,hl,hb,hc⟩:=ih (o+1) (fun i hi=>by
   have:=h (i+1) (by omega)
   have e:o+(i+1)=o+1+i:=by omega
   rw[e] at this;exact this)
  refine ⟨z::zs,by simp [hl],?_,?_⟩
  ·
   intro y hy;rcases List.mem_cons.1 hy with rfl|hy
   ·
    exact hz
   ·
    exact hb y hy
  ·
   intro i hi
   cases i with
   | zero=>simpa using h0
   | succ i =>
    have:=hc i (by omega);rw[show o+(i+1)=o+1+i by omega];simpa using this
section
variable {H:Type} {enc:TypeId × Value→H} {W:World} {base:Nat} {spare:Nat→Bool} {held:Bool}
theorem openU8 {fuel:Nat} {v:Value} {x:DataW H × List MemPlace} (h:DataW.trod enc Tryz.prog W base spare held fuel 5 [v]=some x):∃ z,v = .int .u8 z∧0≤z∧z≤255:=by
 obtain ⟨z,e,_,hw⟩:=DataW.trod_int Tryz.underlying5 h;simp at e;refine ⟨z,e,?_⟩;have:=hw
 have e1:IntKind.u8.min=0:=by decide
 have e2:IntKind.u8.max=255:=by decide
 simp [Lit.wf] at this;omega
theorem openByS (fuel:Nat) (v:Value) (x:DataW H × List MemPlace) (h:DataW.trod enc Tryz.prog W base spare held fuel 23 [v]=some x):∃ a l c zs,v = .slice a l c∧RdB W a l zs:=by
 rcases DataW.trod_slice Tryz.underlying23 h with ⟨hcs,_⟩|⟨y,l,c,elems,rest,n',hn',hcs,_,hb,hl,hm,hlen,hel,_,_⟩
 ·
  simp at hcs;exact ⟨none,0,0,[],hcs,⟨rfl,.inl rfl⟩,fun z hz=>by simp at hz,by omega⟩
 ·
  simp at hcs
  have hm':c≤9223372036854775807:=by simpa [maxLen] using hm
  have hC:Tryz.prog.cellsOf 5=1:=by kernel_rfl
  rw[hC] at hel
  have hel2:∀ i,i < l→∃ z:Int,W.cell? (y.add (i * 1))=some (.int .u8 z)∧0≤z∧z≤255:=by
   intro i hi;have h1:=hel i hi;rw[List.getElem?_eq_getElem (by omega),Option.bind_eq_some_iff] at h1;obtain ⟨cs',h1,h2⟩:=h1;obtain ⟨_,hlen',hcell⟩:=World.cells?_some h1
   match cs',hlen' with
   | [v0],_ =>
    obtain ⟨z,rfl,hz⟩:=openU8 h2;have k0:=hcell 0 (by omega);exact ⟨z,by simpa [Addr.add] using k0,hz⟩
  by_cases h0:l=0
  ·
   subst h0;exact ⟨some y,0,c,[],hcs,⟨rfl,.inl rfl⟩,fun z hz=>by simp at hz,by omega⟩
  obtain ⟨_,hz0,_⟩:=hel2 0 (by omega);have e:=plain_at (by simpa [Addr.add] using hz0)
  obtain ⟨zs,hzl,hzb,hin⟩:=bytes_of_each (W:=W) (b:=y.block) l y.off (fun i hi=>by
   obtain ⟨z,q0,hz⟩:=hel2 i hi;rw[e,add_plain] at q0
   exact ⟨z,by simpa using q0,hz⟩)
  exact ⟨some y,l,c,zs,hcs,⟨hzl,.inr ⟨y.block,y.off,by rw[← e],hin⟩⟩,hzb,by omega⟩
end
end Go.Proofs.YtblbnillilbacaaGreatDoor.By
