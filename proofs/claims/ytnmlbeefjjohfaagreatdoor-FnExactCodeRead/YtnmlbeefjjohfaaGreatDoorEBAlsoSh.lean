/-
  No statement is proved here.
-/
import Derived.Test.YtnmlbeefjjohfaaGreatDoorZ0Sh
import Derived.ProofKit
import Derived.WalkSpells
import Derived.WalkSmall
import Derived.OpenShut
namespace Go.Proofs.YtnmlbeefjjohfaaGreatDoor.By
open Go.RowKit
def vals (zs:List Int):List Value:=zs.map (Value.int .u8)
def Byt (zs:List Int):Prop:=∀ z ∈ zs,0≤z∧z≤255
def Reads (w:World) (a:Option Addr) (n:Nat) (zs:List Int):Prop :=
 zs.length=n∧(n=0∨∃ b off,a=some ⟨b,off,none⟩∧∀ i,i < n→w.cell? ⟨b,off+i,none⟩=some (.int .u8 (zs.getD i 0)))
def Row (w:World) (g cap:Nat) (zs:List Int):Prop :=
 ∃ cur,w.heap[g]? = some (.cells cur 5 (0,0))∧cur.size=cap∧cur.toList.take zs.length=vals zs∧zs.length≤cap
theorem byt_get {zs:List Int} (h:Byt zs) (k:Nat):0≤zs[k]?.getD 0∧zs[k]?.getD 0≤255:=by
 by_cases hk:k < zs.length
 ·
  rw[List.getElem?_eq_getElem hk];exact h _ (List.getElem_mem hk)
 ·
  rw[List.getElem?_eq_none (by omega)];exact ⟨by decide,by decide⟩
theorem Row.lt {w:World} {g cap:Nat} {zs:List Int} (h:Row w g cap zs):g < w.heap.size:=by
 obtain ⟨cur,hc,_⟩:=h;exact lbk hc
theorem Row.len {w:World} {g cap:Nat} {zs:List Int} (h:Row w g cap zs):zs.length≤cap:=by
 obtain ⟨cur,hc,_,_,h⟩:=h;exact h
theorem Row.of_block {w w':World} {g cap:Nat} {zs:List Int} (h:Row w g cap zs) (e:w'.heap[g]? = w.heap[g]?):Row w' g cap zs:=by
 obtain ⟨cur,hc,r⟩:=h;exact ⟨cur,by rw[e];exact hc,r⟩
theorem Row.kept {w w':World} {g cap:Nat} {zs:List Int} {row:Option Nat} (h:Row w g cap zs) (hg:w.grownBy w' row) (hne:some g≠row):Row w' g cap zs :=
 h.of_block (hg.block g h.lt hne)
theorem Row.free {w:World} {g cap:Nat} {zs:List Int} (h:Row w g cap zs) (j:Nat):w.frozen? ⟨g,j,none⟩=false:=by
 obtain ⟨cur,hc,_⟩:=h;exact frozen_of_row w g j cur 5 hc
theorem Row.cell {w:World} {g cap:Nat} {zs:List Int} (h:Row w g cap zs) (j:Nat) (hj:j < zs.length):w.cell? ⟨g,j,none⟩=some (.int .u8 (zs.getD j 0)):=by
 obtain ⟨cur,hc,_,ht,_⟩:=h;rw[cell_of_row w g j cur 5 (0,0) hc]
 have h1:(cur.toList.take zs.length)[j]? = cur.toList[j]?:=by rw[List.getElem?_take];simp [hj]
 rw[ht] at h1;rw[← Array.getElem?_toList,← h1];simp [vals,hj]
theorem Row.reads {w:World} {g cap:Nat} {zs:List Int} (h:Row w g cap zs):Reads w (some ⟨g,0,none⟩) zs.length zs :=
 ⟨rfl,.inr ⟨g,0,rfl,fun i hi=>by simpa using h.cell i hi⟩⟩
theorem Row.reads' {w:World} {g cap n:Nat} {zs:List Int} (h:Row w g cap zs) (hn:zs.length=n):Reads w (some ⟨g,0,none⟩) n zs:=by subst hn;exact h.reads
theorem Reads.kept {w w':World} {a:Option Addr} {n:Nat} {zs:List Int} {row:Option Nat} (h:Reads w a n zs) (hg:w.grownBy w' row) (hne:∀ x,a=some x→x.block < w.heap.size→some x.block≠row):Reads w' a n zs:=by
 refine ⟨h.1,?_⟩;rcases h.2 with h0|⟨b,off,rfl,hc⟩
 ·
  exact .inl h0
 ·
  by_cases hn:n=0
  ·
   exact .inl hn
  ·
   refine .inr ⟨b,off,rfl,fun i hi=>hg.cell (hc i hi) (hne ⟨b,off,Option.none⟩ rfl (by have:=block_lt_of_cell (hc i hi);exact this))⟩
theorem Reads.none {w w':World} {a:Option Addr} {n:Nat} {zs:List Int} (h:Reads w a n zs) (hg:w.grownBy w' Option.none):Reads w' a n zs:=h.kept hg (fun _ _ _=>by simp)
theorem Reads.below {w w':World} {a:Option Addr} {n:Nat} {zs:List Int} (h:Reads w a n zs) (hb:Below w.heap.size w w'):Reads w' a n zs:=by
 refine ⟨h.1,?_⟩;rcases h.2 with h0|⟨b,off,rfl,hc⟩
 ·
  exact .inl h0
 ·
  refine .inr ⟨b,off,rfl,fun i hi=>?_⟩;rw[hb.cell (p:=⟨b,off+i,Option.none⟩) (block_lt_of_cell (hc i hi))];exact hc i hi
theorem Row.store {w:World} {g cap:Nat} {zs:List Int} (h:Row w g cap zs) (j:Nat) (x:Int):Row (w.setCell ⟨g,j,none⟩ (.int .u8 x)) g cap (zs.set j x):=by
 obtain ⟨cur,hc,hs,ht,hl⟩:=h;refine ⟨cur.set! j (.int .u8 x),hsm w g j cur 5 _ hc,by simp [hs],?_,by simpa using hl⟩;simp only[List.length_set,vals,List.map_set,Array.set!_eq_setIfInBounds,Array.toList_setIfInBounds];rw[List.take_set,ht];rfl
theorem gsc (w:World) (g j:Nat) (v:Value):w.grownBy (w.setCell ⟨g,j,none⟩ v) (some g) :=
 ⟨rfl,rfl,rfl,by simp [World.setCell],fun k _ hk=>heap_setCell_other w _ k v (by simpa using hk)⟩
theorem gtr {a b c:World} {row:Option Nat} (h:a.grownBy b row) (k:b.grownBy c row):a.grownBy c row :=
 ⟨k.os.trans h.os,k.tape.trans h.tape,k.output.trans h.output,Nat.le_trans h.size k.size,fun i hi hr=>(k.block i (Nat.lt_of_lt_of_le hi h.size) hr).trans (h.block i hi hr)⟩
theorem grown_drewN (w:World) (n:Nat) (row:Option Nat):w.grownBy (w.drewN n) row:=⟨rfl,rfl,rfl,Nat.le_refl _,fun _ _ _=>rfl⟩
theorem grown_none {a b:World} (h:a.grownBy b Option.none) (row:Option Nat):a.grownBy b row:=⟨h.os,h.tape,h.output,h.size,fun i hi _=>h.block i hi (by simp)⟩
theorem grown_own {a w:World} (h:a.grownBy w Option.none) (g:Nat) (hg:a.heap.size≤g) (j:Nat) (v:Value):a.grownBy (w.setCell ⟨g,j,Option.none⟩ v) Option.none :=
 ⟨h.os,h.tape,h.output,by simpa [World.setCell] using h.size,fun k hk _=>(heap_setCell_other w _ k v (by simp;omega)).trans (h.block k hk (by simp))⟩
theorem set_step (zs:List Int) (n k:Nat) (hl:zs.length=n) (hk:k < n):(zs.take k++List.replicate (n - k) 0).set k (zs.getD k 0)=zs.take (k+1)++List.replicate (n - (k+1)) 0:=by
 have h1:(zs.take k).length=k:=by simp;omega
 rw[List.set_append_right k _ (by omega),h1,Nat.sub_self]
 have h2:n - k=(n - (k+1))+1:=by omega
 have h3:zs.getD k 0=zs[k]'(by omega):=by rw[List.getD_eq_getElem?_getD,List.getElem?_eq_getElem (by omega)];rfl
 rw[h2,List.replicate_succ,List.set_cons_zero,List.take_succ_eq_append_getElem (by omega),h3,lD9,List.singleton_append]
theorem made_row (w:World) (n:Nat):Row (w.alloc (.cells (madeCells #[.int .u8 0] n) 5)) w.heap.size n (List.replicate n 0):=by
 refine ⟨_,hnw w _,?_,?_,by simp⟩
 ·
  have:=congrArg List.length (toList_madeCells_one (.int .u8 0) n);simpa using this
 ·
  rw[toList_madeCells_one];simp [vals]
def marks (k:Int) (n:Nat):List Int:=(List.range n).map (fun (i:Nat)=>(k+(i:Int)) % 256)
theorem marks_len (k:Int) (n:Nat):(marks k n).length=n:=by simp [marks]
def half (zs:List Int) (k:Int) (j:Nat):List Int:=marks k j++zs.drop j
theorem half_len (zs:List Int) (k:Int) (j:Nat) (h:j≤zs.length):(half zs k j).length=zs.length:=by simp [half,marks_len];omega
theorem half_zero (zs:List Int) (k:Int):half zs k 0=zs:=by simp [half,marks]
theorem half_all (zs:List Int) (k:Int):half zs k zs.length=marks k zs.length:=by simp [half]
theorem half_step (zs:List Int) (k:Int) (j:Nat) (h:j < zs.length):(half zs k j).set j ((k+(j:Int)) % 256)=half zs k (j+1):=by
 have h1:(marks k j).length=j:=marks_len k j;unfold half;rw[List.set_append_right j _ (by omega),h1,Nat.sub_self,List.drop_eq_getElem_cons h,List.set_cons_zero]
 have h2:marks k (j+1)=marks k j++[(k+(j:Int)) % 256]:=by simp [marks,List.range_succ]
 rw[h2,lD9,List.singleton_append]
theorem quiet {w w':World} (h:∃ m,w' = w.drewN m):w.grownBy w' Option.none:=by
 obtain ⟨m,rfl⟩:=h;exact grown_drewN _ _ _
theorem reads_of {w:World} {a:Option Addr} {len cap:Nat} {zs:List Int}
  (h:(a=Option.none∧len=0∧cap=0∧zs=[])∨∃ x,a=some x∧len≤cap∧cap≤maxLen∧zs.length=cap∧(∀ i,i < zs.length→w.cell? (x.add i)=some (.int .u8 (zs.getD i 0)))∧∀ n ∈ zs,(Lit.int .u8 n).wf=true) :
  ∃ ys,Reads w a len ys∧Byt ys:=by
 rcases h with ⟨rfl,rfl,rfl,rfl⟩|⟨x,rfl,hl,hm,hz,hcell,hwz⟩
 ·
  exact ⟨[],⟨rfl,.inl rfl⟩,fun z hz=>by simp at hz⟩
 ·
  refine ⟨zs.take len,⟨by simp;omega,?_⟩,?_⟩
  ·
   by_cases h0:len=0
   ·
    exact .inl h0
   ·
    obtain ⟨b,off,spot⟩:=x;have hc0:=hcell 0 (by omega)
    have hspot:spot=Option.none:=by simpa [Addr.add] using World.cell?_spot hc0
    subst hspot;refine .inr ⟨b,off,rfl,fun i hi=>?_⟩;have:=hcell i (by omega);rw[List.getD_eq_getElem?_getD,List.getElem?_take_of_lt hi,← List.getD_eq_getElem?_getD];by_cases h0':i=0
    ·
     subst h0';simpa [Addr.add] using this
    ·
     simpa [Addr.add,h0'] using this
  ·
   intro z hz';exact bounds_u8 (hwz z (List.mem_of_mem_take hz'))
def ReadsI (w:World) (a:Option Addr) (k:Nat) (zs:List Int):Prop :=
 zs.length=k∧(k=0∨∃ b off,a=some ⟨b,off,none⟩∧∀ i,i < k→w.cell? ⟨b,off+i,none⟩=some (.int .i64 (zs.getD i 0)))
theorem grown_alloc {a w:World} (h:a.grownBy w Option.none) (o:Obj):a.grownBy (w.alloc o) Option.none:=gtr h (gal _ _ _)
theorem grown_drew {a w:World} (h:a.grownBy w Option.none):a.grownBy w.drew Option.none:=gtr h (grown_drewN w 1 _)
theorem alloc3_blocks (w:World) (A B C:Obj):(((w.alloc A).alloc B).alloc C).heap[w.heap.size]? = some A∧(((w.alloc A).alloc B).alloc C).heap[w.heap.size+1]? = some B∧(((w.alloc A).alloc B).alloc C).heap[w.heap.size+1+1]? = some C∧(((w.alloc A).alloc B).alloc C).heap.size=w.heap.size+1+1+1:=by
 have e1:(w.alloc A).heap.size=w.heap.size+1:=by simp
 have e2:((w.alloc A).alloc B).heap.size=w.heap.size+1+1:=by simp
 refine ⟨?_,?_,?_,by simp⟩
 ·
  rw[heap_alloc_old _ _ (by omega),heap_alloc_old _ _ (by omega)];exact hnw w A
 ·
  rw[heap_alloc_old _ _ (by omega)];have:=hnw (w.alloc A) B;rw[e1] at this;exact this
 ·
  have:=hnw ((w.alloc A).alloc B) C;rw[e2] at this;exact this
theorem five {w:World} {g:Nat} {t:TypeId} {c0 c1 c2 c3 c4:Value} (h:w.heap[g]? = some (.cells #[c0,c1,c2,c3,c4] t (0,0))) :
  (w.cell? ⟨g,0,none⟩=some c0∧w.cell? ⟨g,1,none⟩=some c1∧w.cell? ⟨g,2,none⟩=some c2∧w.cell? ⟨g,3,none⟩=some c3∧w.cell? ⟨g,4,none⟩=some c4)∧(w.frozen? ⟨g,0,none⟩=false∧w.frozen? ⟨g,1,none⟩=false∧w.frozen? ⟨g,2,none⟩=false∧w.frozen? ⟨g,3,none⟩=false∧w.frozen? ⟨g,4,none⟩=false):=by
 refine ⟨⟨?_,?_,?_,?_,?_⟩,frozen_of_row w g _ _ t h,frozen_of_row w g _ _ t h,frozen_of_row w g _ _ t h,frozen_of_row w g _ _ t h,frozen_of_row w g _ _ t h⟩ <;> (rw[cell_of_row w g _ _ t (0,0) h];rfl)
theorem grown_into {a w w':World} {p:Nat} (h:a.grownBy w Option.none) (k:w.grownBy w' (some p)) (hp:a.heap.size≤p):a.grownBy w' Option.none :=
 ⟨k.os.trans h.os,k.tape.trans h.tape,k.output.trans h.output,Nat.le_trans h.size k.size,fun i hi _=>(k.block i (Nat.lt_of_lt_of_le hi h.size) (by simp;omega)).trans (h.block i hi (by simp))⟩
theorem fill4 {w:World} {p:Nat} {t:TypeId} {c0 c1 c2 c3 c4:Value} (v0 v1 v2 v3:Value) (h:w.heap[p]? = some (.cells #[c0,c1,c2,c3,c4] t (0,0))) :
  ((((w.setCell ⟨p,0,none⟩ v0).setCell ⟨p,1,none⟩ v1).setCell ⟨p,2,none⟩ v2).setCell ⟨p,3,none⟩ v3).heap[p]? = some (.cells #[v0,v1,v2,v3,c4] t (0,0))∧w.grownBy ((((w.setCell ⟨p,0,none⟩ v0).setCell ⟨p,1,none⟩ v1).setCell ⟨p,2,none⟩ v2).setCell ⟨p,3,none⟩ v3) (some p) :=
 ⟨hsm _ p 3 _ t _ (hsm _ p 2 _ t _ (hsm _ p 1 _ t _ (hsm w p 0 _ t _ h))),gtr (gtr (gtr (gsc _ _ _ _) (gsc _ _ _ _)) (gsc _ _ _ _)) (gsc _ _ _ _)⟩
theorem fill5 {w:World} {p:Nat} {t:TypeId} {c0 c1 c2 c3 c4:Value} (v0 v1 v2 v3 v4:Value) (h:w.heap[p]? = some (.cells #[c0,c1,c2,c3,c4] t (0,0))) :
  (((((w.setCell ⟨p,0,none⟩ v0).setCell ⟨p,1,none⟩ v1).setCell ⟨p,2,none⟩ v2).setCell ⟨p,3,none⟩ v3).setCell ⟨p,4,none⟩ v4).heap[p]? = some (.cells #[v0,v1,v2,v3,v4] t (0,0))∧w.grownBy (((((w.setCell ⟨p,0,none⟩ v0).setCell ⟨p,1,none⟩ v1).setCell ⟨p,2,none⟩ v2).setCell ⟨p,3,none⟩ v3).setCell ⟨p,4,none⟩ v4) (some p) :=
 ⟨hsm _ p 4 _ t _ (fill4 v0 v1 v2 v3 h).1,gtr (fill4 v0 v1 v2 v3 h).2 (gsc _ _ _ _)⟩
inductive F:Type
 | nil:F
 | cons (k n:Int) (kids rest:F):F
def F.len:F→Nat
 | .nil=>0
 | .cons _ _ _ r=>r.len+1
def F.size:F→Nat
 | .nil=>0
 | .cons _ _ d r=>1+d.size+r.size
def F.app:F→F→F
 | .nil,g=>g
 | .cons k n d r,g=>.cons k n d (r.app g)
theorem F.app_nil (f:F):f.app .nil=f:=by
 induction f with
 | nil=>rfl
 | cons k n d r _ ih=>simp [F.app,ih]
theorem F.app_assoc (f g h:F):(f.app g).app h=f.app (g.app h):=by
 induction f with
 | nil=>rfl
 | cons k n d r _ ih=>simp [F.app,ih]
theorem F.app_len (f g:F):(f.app g).len=f.len+g.len:=by
 induction f with
 | nil=>simp [F.app,F.len]
 | cons k n d r _ ih=>simp [F.app,F.len,ih];omega
theorem F.len_le (f:F):f.len≤f.size:=by
 induction f with
 | nil=>simp [F.len,F.size]
 | cons k n d r _ ih=>simp [F.len,F.size];omega
theorem F.nil_of_len {f:F} (h:f.len=0):f = .nil:=by
 cases f with
 | nil=>rfl
 | cons k n d r=>simp [F.len] at h
theorem F.cons_of_len {f:F} {m:Nat} (h:f.len=m+1):∃ k n d r,f = .cons k n d r∧r.len=m:=by
 cases f with
 | nil=>simp [F.len] at h
 | cons k n d r=>exact ⟨k,n,d,r,rfl,by simpa [F.len] using h⟩
def InF (w:World):F→Nat→Nat→Prop
 | .nil,_,_=>True
 | .cons k n d r,b,off=>(∃ a l c,w.cell? ⟨b,off,none⟩=some (.int .i64 k)∧w.cell? ⟨b,off+1,none⟩=some (.int .i64 n)∧w.cell? ⟨b,off+2,none⟩=some (.slice a l c)∧d.len=l∧l≤9223372036854775807∧(l=0∨∃ b' o',a=some ⟨b',o',none⟩∧InF w d b' o'))∧InF w r b (off+3)
def SlF (w:World) (a:Option Addr) (l:Nat) (f:F):Prop :=
 f.len=l∧l≤9223372036854775807∧(l=0∨∃ b o,a=some ⟨b,o,none⟩∧InF w f b o)
theorem InF.out {w:World} {k n:Int} {d r:F} {b off:Nat} (h:InF w (.cons k n d r) b off) :
  ∃ a l c,w.cell? ⟨b,off,none⟩=some (.int .i64 k)∧w.cell? ⟨b,off+1,none⟩=some (.int .i64 n)∧w.cell? ⟨b,off+2,none⟩=some (.slice a l c)∧SlF w a l d∧InF w r b (off+3):=by
 obtain ⟨⟨a,l,c,h0,h1,h2,h3⟩,hr⟩:=h;exact ⟨a,l,c,h0,h1,h2,h3,hr⟩
theorem InF.mk {w:World} {k n:Int} {d r:F} {b off:Nat} {a:Option Addr} {l c:Nat} (h0:w.cell? ⟨b,off,none⟩=some (.int .i64 k)) (h1:w.cell? ⟨b,off+1,none⟩=some (.int .i64 n)) (h2:w.cell? ⟨b,off+2,none⟩=some (.slice a l c)) (h3:SlF w a l d) (h4:InF w r b (off+3)):InF w (.cons k n d r) b off :=
 ⟨⟨a,l,c,h0,h1,h2,h3⟩,h4⟩
theorem InF.cells {w w':World} {f:F} {b off:Nat} (h:InF w f b off) (hc:∀ p v,w.cell? p=some v→w'.cell? p=some v):InF w' f b off:=by
 induction f generalizing b off with
 | nil=>trivial
 | cons k n d r ihd ihr =>
  obtain ⟨⟨a,l,c,h0,h1,h2,h3,h4,h5⟩,hr⟩:=h;refine ⟨⟨a,l,c,hc _ _ h0,hc _ _ h1,hc _ _ h2,h3,h4,?_⟩,ihr hr⟩;rcases h5 with h5|⟨b',o',e,h5⟩
  ·
   exact .inl h5
  ·
   exact .inr ⟨b',o',e,ihd h5⟩
theorem InF.none {w w':World} {f:F} {b off:Nat} (h:InF w f b off) (hg:w.grownBy w' Option.none):InF w' f b off :=
 h.cells fun _ _ hv=>hg.cell hv (by simp)
theorem SlF.none {w w':World} {f:F} {a:Option Addr} {l:Nat} (h:SlF w a l f) (hg:w.grownBy w' Option.none):SlF w' a l f:=by
 obtain ⟨h1,h2,h3⟩:=h;refine ⟨h1,h2,?_⟩;rcases h3 with h3|⟨b,o,e,h3⟩
 ·
  exact .inl h3
 ·
  exact .inr ⟨b,o,e,h3.none hg⟩
theorem SlF.cases {w:World} {f:F} {a:Option Addr} {l:Nat} (h:SlF w a l f):(l=0∧f = .nil)∨∃ b o,a=some ⟨b,o,Option.none⟩∧InF w f b o∧f.len=l∧0 < l:=by
 obtain ⟨h1,h2,h3⟩:=h;by_cases h0:l=0
 ·
  subst h0;exact .inl ⟨rfl,F.nil_of_len h1⟩
 ·
  rcases h3 with h3|⟨b,o,e,h3⟩
  ·
   exact absurd h3 h0
  ·
   exact .inr ⟨b,o,e,h3,h1,by omega⟩
theorem three {w:World} {g:Nat} {t:TypeId} {c0 c1 c2:Value} (h:w.heap[g]? = some (.cells #[c0,c1,c2] t (0,0))) :
  (w.cell? ⟨g,0,none⟩=some c0∧w.cell? ⟨g,1,none⟩=some c1∧w.cell? ⟨g,2,none⟩=some c2)∧(w.frozen? ⟨g,0,none⟩=false∧w.frozen? ⟨g,1,none⟩=false∧w.frozen? ⟨g,2,none⟩=false):=by
 refine ⟨⟨?_,?_,?_⟩,frozen_of_row w g _ _ t h,frozen_of_row w g _ _ t h,frozen_of_row w g _ _ t h⟩ <;> (rw[cell_of_row w g _ _ t (0,0) h];rfl)
theorem alloc2_blocks (w:World) (A B:Obj):((w.alloc A).alloc B).heap[w.heap.size]? = some A∧((w.alloc A).alloc B).heap[w.heap.size+1]? = some B∧((w.alloc A).alloc B).heap.size=w.heap.size+1+1:=by
 have e1:(w.alloc A).heap.size=w.heap.size+1:=by simp
 refine ⟨?_,?_,by simp⟩
 ·
  rw[heap_alloc_old _ _ (by omega)];exact hnw w A
 ·
  have:=hnw (w.alloc A) B;rw[e1] at this;exact this
theorem fill3 {w:World} {p:Nat} {t:TypeId} {c0 c1 c2:Value} (v0 v1 v2:Value) (h:w.heap[p]? = some (.cells #[c0,c1,c2] t (0,0))) :
  (((w.setCell ⟨p,0,none⟩ v0).setCell ⟨p,1,none⟩ v1).setCell ⟨p,2,none⟩ v2).heap[p]? = some (.cells #[v0,v1,v2] t (0,0))∧w.grownBy (((w.setCell ⟨p,0,none⟩ v0).setCell ⟨p,1,none⟩ v1).setCell ⟨p,2,none⟩ v2) (some p) :=
 ⟨hsm _ p 2 _ t _ (hsm _ p 1 _ t _ (hsm w p 0 _ t _ h)),gtr (gtr (gsc _ _ _ _) (gsc _ _ _ _)) (gsc _ _ _ _)⟩
set_option linter.unusedVariables false
def Blk (w:World) (t:TypeId) (g c:Nat):Prop:=∃ cur,w.heap[g]? = some (.cells cur t (0,0))∧cur.size=c * 3
theorem Blk.lt {w:World} {t:TypeId} {g c:Nat} (h:Blk w t g c):g < w.heap.size:=by
 obtain ⟨cur,hc,_⟩:=h;exact lbk hc
theorem Blk.of {w w':World} {t:TypeId} {g c:Nat} (h:Blk w t g c) (e:w'.heap[g]? = w.heap[g]?):Blk w' t g c:=by
 obtain ⟨cur,hc,r⟩:=h;exact ⟨cur,by rw[e];exact hc,r⟩
theorem Blk.free {w:World} {t:TypeId} {g c:Nat} (h:Blk w t g c) (j:Nat):w.frozen? ⟨g,j,none⟩=false:=by
 obtain ⟨cur,hc,_⟩:=h;exact frozen_of_row w g j cur t hc
theorem Blk.has {w:World} {t:TypeId} {g c:Nat} (h:Blk w t g c) (j:Nat) (hj:j < c * 3):∃ v,w.cell? ⟨g,j,none⟩=some v:=by
 obtain ⟨cur,hc,hs⟩:=h;rw[cell_of_row w g j cur t (0,0) hc];exact ⟨_,Array.getElem?_eq_getElem (by omega)⟩
theorem cell_of_heap {w w':World} {g j:Nat} (e:w'.heap[g]? = w.heap[g]?):w'.cell? ⟨g,j,none⟩=w.cell? ⟨g,j,none⟩:=by
 unfold World.cell?;simp only[e]
theorem Blk.put3 {u:World} {t:TypeId} {g c:Nat} (h:Blk u t g c) (p:Nat) (hp:p+2 < c * 3) (v0 v1 v2:Value) :
  Blk (((u.setCell ⟨g,p,none⟩ v0).setCell ⟨g,p+1,none⟩ v1).setCell ⟨g,p+2,none⟩ v2) t g c∧u.grownBy (((u.setCell ⟨g,p,none⟩ v0).setCell ⟨g,p+1,none⟩ v1).setCell ⟨g,p+2,none⟩ v2) (some g) ∧
  ((((u.setCell ⟨g,p,none⟩ v0).setCell ⟨g,p+1,none⟩ v1).setCell ⟨g,p+2,none⟩ v2).cell? ⟨g,p,none⟩=some v0∧(((u.setCell ⟨g,p,none⟩ v0).setCell ⟨g,p+1,none⟩ v1).setCell ⟨g,p+2,none⟩ v2).cell? ⟨g,p+1,none⟩=some v1∧(((u.setCell ⟨g,p,none⟩ v0).setCell ⟨g,p+1,none⟩ v1).setCell ⟨g,p+2,none⟩ v2).cell? ⟨g,p+2,none⟩=some v2) ∧
  ∀ q,(q < p∨p+2 < q)→(((u.setCell ⟨g,p,none⟩ v0).setCell ⟨g,p+1,none⟩ v1).setCell ⟨g,p+2,none⟩ v2).cell? ⟨g,q,none⟩=u.cell? ⟨g,q,none⟩:=by
 obtain ⟨cur,hc,hs⟩:=h;have h1:=hsm u g p cur t v0 hc;have h2:=hsm _ g (p+1) _ t v1 h1;have h3:=hsm _ g (p+2) _ t v2 h2;refine ⟨⟨_,h3,by simpa using hs⟩,gtr (gtr (gsc _ _ _ _) (gsc _ _ _ _)) (gsc _ _ _ _),⟨?_,?_,?_⟩,fun q hq=>?_⟩
 ·
  rw[cell_of_row _ g _ _ t (0,0) h3];simp [show p < cur.size by omega]
 ·
  rw[cell_of_row _ g _ _ t (0,0) h3];simp [show p+1 < cur.size by omega]
 ·
  rw[cell_of_row _ g _ _ t (0,0) h3];simp [show p+2 < cur.size by omega]
 ·
  rw[cell_of_row _ g _ _ t (0,0) h3,cell_of_row _ g _ _ t (0,0) hc];rw[Array.getElem?_setIfInBounds_ne (by omega),Array.getElem?_setIfInBounds_ne (by omega),Array.getElem?_setIfInBounds_ne (by omega)]
def OwnF (w:World) (t:TypeId):F→Nat→Nat→List Nat→Prop
 | .nil,_,_,bs=>bs=[]
 | .cons k n d r,b,off,bs=>∃ bs1 bs2,bs=bs1++bs2∧(∃ a l c,w.cell? ⟨b,off,none⟩=some (.int .i64 k)∧w.cell? ⟨b,off+1,none⟩=some (.int .i64 n)∧w.cell? ⟨b,off+2,none⟩=some (.slice a l c)∧d.len=l∧l≤9223372036854775807∧l≤c∧((c=0∧bs1=[])∨∃ g bs',0 < l∧a=some ⟨g,0,none⟩∧bs1=g::bs'∧Blk w t g c∧OwnF w t d g 0 bs'))∧OwnF w t r b (off+3) bs2
def SlO (w:World) (t:TypeId) (a:Option Addr) (l c:Nat) (f:F) (bs:List Nat):Prop :=
 f.len=l∧l≤9223372036854775807∧l≤c∧((c=0∧bs=[])∨∃ g bs',0 < l∧a=some ⟨g,0,none⟩∧bs=g::bs'∧Blk w t g c∧OwnF w t f g 0 bs')
theorem OwnF.mk {w:World} {t:TypeId} {k n:Int} {d r:F} {b off:Nat} {bs1 bs2:List Nat} {a:Option Addr} {l c:Nat} (h0:w.cell? ⟨b,off,none⟩=some (.int .i64 k)) (h1:w.cell? ⟨b,off+1,none⟩=some (.int .i64 n)) (h2:w.cell? ⟨b,off+2,none⟩=some (.slice a l c)) (h3:SlO w t a l c d bs1) (h4:OwnF w t r b (off+3) bs2):OwnF w t (.cons k n d r) b off (bs1++bs2) :=
 ⟨bs1,bs2,rfl,⟨a,l,c,h0,h1,h2,h3⟩,h4⟩
theorem OwnF.reads {w:World} {t:TypeId} {f:F} {b off:Nat} {bs:List Nat} (h:OwnF w t f b off bs):InF w f b off:=by
 induction f generalizing b off bs with
 | nil=>trivial
 | cons k n d r ihd ihr =>
  obtain ⟨bs1,bs2,e,⟨a,l,c,h0,h1,h2,h3,h4,h5,h6⟩,hr⟩:=h;refine ⟨⟨a,l,c,h0,h1,h2,h3,h4,?_⟩,ihr hr⟩;rcases h6 with ⟨h6,_⟩|⟨g,bs',_,e1,_,_,h6⟩
  ·
   exact .inl (by omega)
  ·
   exact .inr ⟨g,0,e1,ihd h6⟩
theorem SlO.reads {w:World} {t:TypeId} {f:F} {a:Option Addr} {l c:Nat} {bs:List Nat} (h:SlO w t a l c f bs):SlF w a l f:=by
 obtain ⟨h1,h2,h3,h4⟩:=h;refine ⟨h1,h2,?_⟩;rcases h4 with ⟨h4,_⟩|⟨g,bs',_,e1,_,_,h4⟩
 ·
  exact .inl (by omega)
 ·
  exact .inr ⟨g,0,e1,h4.reads⟩
theorem OwnF.lt {w:World} {t:TypeId} {f:F} {b off:Nat} {bs:List Nat} (h:OwnF w t f b off bs):∀ g ∈ bs,g < w.heap.size:=by
 induction f generalizing b off bs with
 | nil=>intro g hg;rw[show bs=[] from h] at hg;simp at hg
 | cons k n d r ihd ihr =>
  obtain ⟨bs1,bs2,rfl,⟨a,l,c,h0,h1,h2,h3,h4,h5,h6⟩,hr⟩:=h;intro g hg;rcases List.mem_append.1 hg with hg|hg
  ·
   rcases h6 with ⟨_,rfl⟩|⟨g',bs',_,_,rfl,hb,h6⟩
   ·
    simp at hg
   ·
    rcases List.mem_cons.1 hg with rfl|hg
    ·
     exact hb.lt
    ·
     exact ihd h6 g hg
  ·
   exact ihr hr g hg
theorem SlO.lt {w:World} {t:TypeId} {f:F} {a:Option Addr} {l c:Nat} {bs:List Nat} (h:SlO w t a l c f bs):∀ g ∈ bs,g < w.heap.size:=by
 obtain ⟨h1,h2,h3,h4⟩:=h;intro g hg;rcases h4 with ⟨_,rfl⟩|⟨g',bs',_,_,rfl,hb,h6⟩
 ·
  simp at hg
 ·
  rcases List.mem_cons.1 hg with rfl|hg
  ·
   exact hb.lt
  ·
   exact h6.lt g hg
theorem OwnF.move {w w':World} {t:TypeId} {f:F} {b off b' off':Nat} {bs:List Nat} (h:OwnF w t f b off bs) (hc:∀ i,i < f.len * 3→w'.cell? ⟨b',off' + i,none⟩=w.cell? ⟨b,off+i,none⟩) (hb:∀ g ∈ bs,w'.heap[g]? = w.heap[g]?):OwnF w' t f b' off' bs:=by
 induction f generalizing b off b' off' bs with
 | nil=>exact h
 | cons k n d r ihd ihr =>
  obtain ⟨bs1,bs2,rfl,⟨a,l,c,h0,h1,h2,h3,h4,h5,h6⟩,hr⟩:=h;simp only[F.len] at hc;have k0:=hc 0 (by omega);have k1:=hc 1 (by omega);have k2:=hc 2 (by omega);refine ⟨bs1,bs2,rfl,⟨a,l,c,by simpa using k0.trans h0,k1.trans h1,k2.trans h2,h3,h4,h5,?_⟩,ihr hr (fun i hi=>?_) (fun g hg=>hb g (List.mem_append_right _ hg))⟩
  ·
   rcases h6 with h6|⟨g,bs',hp,e1,rfl,hbk,h6⟩
   ·
    exact .inl h6
   ·
    have eg:=hb g (by simp);exact .inr ⟨g,bs',hp,e1,rfl,hbk.of eg,ihd h6 (fun i _=>cell_of_heap eg) (fun g' hg'=>hb g' (by simp [hg']))⟩
  ·
   have:=hc (3+i) (by omega);rw[Nat.add_assoc,Nat.add_assoc];exact this
theorem SlO.of {w w':World} {t:TypeId} {f:F} {a:Option Addr} {l c:Nat} {bs:List Nat} (h:SlO w t a l c f bs) (hb:∀ g ∈ bs,w'.heap[g]? = w.heap[g]?):SlO w' t a l c f bs:=by
 obtain ⟨h1,h2,h3,h4⟩:=h;refine ⟨h1,h2,h3,?_⟩;rcases h4 with h4|⟨g,bs',hp,e1,rfl,hbk,h4⟩
 ·
  exact .inl h4
 ·
  have eg:=hb g (by simp);exact .inr ⟨g,bs',hp,e1,rfl,hbk.of eg,h4.move (fun i _=>cell_of_heap eg) (fun g' hg'=>hb g' (by simp [hg']))⟩
theorem SlO.kept {w w':World} {t:TypeId} {f:F} {a:Option Addr} {l c:Nat} {bs:List Nat} {row:Option Nat} (h:SlO w t a l c f bs) (hg:w.grownBy w' row) (hne:∀ g ∈ bs,some g≠row):SlO w' t a l c f bs :=
 h.of fun g hm=>hg.block g (h.lt g hm) (hne g hm)
theorem SlO.old {w w':World} {t:TypeId} {f:F} {a:Option Addr} {l c:Nat} {bs:List Nat} (h:SlO w t a l c f bs) (hg:w.grownBy w' none):SlO w' t a l c f bs :=
 h.kept hg fun _ _=>by simp
theorem OwnF.app {w:World} {t:TypeId} {f g:F} {b off:Nat} {bs1 bs2:List Nat} (h:OwnF w t f b off bs1) (k:OwnF w t g b (off+f.len * 3) bs2):OwnF w t (f.app g) b off (bs1++bs2):=by
 induction f generalizing off bs1 with
 | nil=>rw[show bs1=[] from h];simpa [F.app,F.len] using k
 | cons kk n d r ihd ihr =>
  obtain ⟨c1,c2,rfl,hx,hr⟩:=h
  have e:off+(F.cons kk n d r).len * 3=off+3+r.len * 3:=by simp only[F.len];omega
  rw[e] at k;rw[lD9];exact ⟨c1,c2++bs2,rfl,hx,ihr hr k⟩
theorem OwnF.one {w:World} {t:TypeId} {k n:Int} {d:F} {b off:Nat} {bs:List Nat} {a:Option Addr} {l c:Nat} (h0:w.cell? ⟨b,off,none⟩=some (.int .i64 k)) (h1:w.cell? ⟨b,off+1,none⟩=some (.int .i64 n)) (h2:w.cell? ⟨b,off+2,none⟩=some (.slice a l c)) (h3:SlO w t a l c d bs):OwnF w t (.cons k n d .nil) b off bs:=by
 have:=OwnF.mk (r:=.nil) (bs2:=[]) h0 h1 h2 h3 rfl;simpa using this
def New (w u:World) (t:TypeId) (a:Option Addr) (l c:Nat) (f:F) (bs:List Nat):Prop :=
 SlO u t a l c f bs∧bs.Nodup∧∀ g ∈ bs,w.heap.size≤g
def CLe (w u:World):Prop:=∀ p v,w.cell? p=some v→u.cell? p=some v
theorem CLe.grown {w u:World} (h:w.grownBy u none):CLe w u:=fun _ _ hv=>h.cell hv (by simp)
def RdB (w:World) (a:Option Addr) (n:Nat) (zs:List Int):Prop:=Reads w a n zs∧Byt zs∧n≤9223372036854775807
theorem RdB.le {w u:World} {a:Option Addr} {n:Nat} {zs:List Int} (h:RdB w a n zs) (k:CLe w u):RdB u a n zs:=by
 obtain ⟨⟨h1,h2⟩,h3⟩:=h;refine ⟨⟨h1,?_⟩,h3⟩;rcases h2 with h2|⟨b,o,e,h2⟩
 ·
  exact .inl h2
 ·
  exact .inr ⟨b,o,e,fun i hi=>k _ _ (h2 i hi)⟩
theorem RdB.none {w u:World} {a:Option Addr} {n:Nat} {zs:List Int} (h:RdB w a n zs) (k:w.grownBy u Option.none):RdB u a n zs:=h.le (CLe.grown k)
theorem SlF.le {w u:World} {a:Option Addr} {l:Nat} {f:F} (h:SlF w a l f) (k:CLe w u):SlF u a l f:=by
 obtain ⟨h1,h2,h3⟩:=h;refine ⟨h1,h2,?_⟩;rcases h3 with h3|⟨b,o,e,h3⟩
 ·
  exact .inl h3
 ·
  exact .inr ⟨b,o,e,h3.cells k⟩
end Go.Proofs.YtnmlbeefjjohfaaGreatDoor.By
