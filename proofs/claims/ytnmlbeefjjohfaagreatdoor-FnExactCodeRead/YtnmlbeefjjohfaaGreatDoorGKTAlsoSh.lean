/-
  No statement is proved here.
-/
import Derived.Test.YtnmlbeefjjohfaaGreatDoorCRqAlsoSh
namespace Go.Proofs.YtnmlbeefjjohfaaGreatDoor.By
open Go.IntKind (i64)
set_option maxRecDepth 100000
set_option maxHeartbeats 16000000
open Go.RowKit
set_option linter.unusedVariables false
set_option linter.unusedSimpArgs false
theorem capsR_le:∀ (zs:List Int) (f:Bool) (p:Int),capsR f p zs=true→∀ c ∈ zs,c≤4
 | [],_,_,_,c,hc=>by simp at hc
 | z::r,f,p,h,c,hc=>by
  simp only[capsR,bA9,dE9] at h;rcases List.mem_cons.1 hc with rfl|hc
  ·
   exact h.1.1.2
  ·
   exact capsR_le r _ _ h.2 c hc
theorem insV_lim {x:RIns} (h:insV x=true):limIns x:=by
 unfold insV at h;simp only[bA9] at h;refine ⟨by have:=h.1.1.1.1;simp only[opOk,bA9,dE9] at this;exact this.2,?_⟩;have ht:=h.2;unfold tV at ht
 split at ht
 ·
  unfold toV at ht;simp only[bA9,dE9] at ht;exact ht.1.2
 ·
  simp only[dE9] at ht;omega
theorem blockV_lim {M:Nat} {x:RBlock} (h:blockV M x=true):limBlk x:=by
 unfold blockV at h;simp only[bA9,dE9,Bool.not_eq_true'] at h;refine ⟨h.1.1.1.1,h.1.1.1.2,h.1.2,fun i hi=>?_⟩;have ha:=h.2.2;rw[List.any_eq_false] at ha;have:=ha i hi;exact insV_lim (by simpa using this)
theorem stands_lim {x:RProg} (h:standsV x=true):limProg x:=by
 unfold standsV laysV at h;simp only[bA9,dE9,Bool.not_eq_true'] at h;obtain ⟨⟨n1,n2⟩,⟨⟨n3,hlay⟩,hcap⟩,hblk⟩:=h;refine ⟨n3,fun l hl=>?_,capsV_len hcap,fun c hc=>capsR_le _ _ _ hcap c hc,n2,fun b hb=>?_⟩
 ·
  have:=List.all_eq_true.1 hlay l hl;unfold layV at this;simp only[bA9,dE9] at this;refine ⟨this.1.2,fun f hf=>?_⟩;have h9:=List.all_eq_true.1 this.2 f hf;unfold conV at h9;simp only[bA9,dE9] at h9;exact h9.1
 ·
  rw[List.any_eq_false] at hblk;exact blockV_lim (by simpa using hblk b hb)
theorem rd_one {P Q:Par} (hP:Good P Q) {zs:List Int} (h:rdOk P zs=true):rdOk Q zs=true∧progP Q 2=progP P 2:=by
 unfold rdOk at h ⊢;simp only[bA9,dE9] at h ⊢;obtain ⟨h1,h2,h3,h4⟩:=h
 have hs:standsV (progP P 2).1=true:=by
  unfold okP at h4;simp only[bA9] at h4;exact h4.1
 have e:=progP_rel hP 2 (by omega) (by omega) (stands_lim hs);rw[e];exact ⟨⟨h1,h2,h3,h4⟩,rfl⟩
theorem rd_eq {zs:List Int} (hz:Byt zs):rdOk (parS zs) zs=rdOk (parI zs) zs∧rdX (parS zs) zs=rdX (parI zs) zs:=by
 cases hI:rdOk (parI zs) zs with
 | true =>
  obtain ⟨h1,h2⟩:=rd_one (parI_good hz) hI;refine ⟨h1,?_⟩;unfold rdX;rw[if_pos h1,if_pos hI,h2]
 | false =>
  have hS:rdOk (parS zs) zs=false:=by
   cases hS:rdOk (parS zs) zs with
   | false=>rfl
   | true=>rw[(rd_one (parS_good hz) hS).1] at hI;cases hI
  refine ⟨hS,?_⟩;unfold rdX;rw[hS,hI];simp
theorem rd_size {zs:List Int} (hz:Byt zs):szProg (rdX (parI zs) zs)≤30000:=by
 unfold rdX
 split
 ·
  rename_i h
  unfold rdOk at h;simp only[bA9,dE9] at h
  have h2:2≤zs.length:=by
   have:=congrArg List.length h.2.1;simp at this;omega
  have:=progP_size hz rfl 2 (by omega) (by omega) (by omega);omega
 ·
  simp [prog0,szProg,szLayouts,szBlocks]
abbrev Adr:Type:=Nat × Nat × IntKind
def Pl (w:World) (g:Nat):Prop:=∃ cur t,w.heap[g]? = some (.cells cur t (0,0))
theorem Pl.free {w:World} {g:Nat} (h:Pl w g) (j:Nat):w.frozen? ⟨g,j,none⟩=false:=by
 obtain ⟨cur,t,hc⟩:=h;exact frozen_of_row w g j cur t hc
theorem Pl.set {w:World} {g:Nat} (h:Pl w g) (b o:Nat) (v:Value):Pl (w.setCell ⟨b,o,none⟩ v) g:=by
 obtain ⟨cur,t,hc⟩:=h;obtain ⟨cur',t',h',-⟩:=Plc.set (m:=cur.size) ⟨cur,t,hc,rfl⟩ b o v;exact ⟨cur',t',h'⟩
def ShG (w:World):G→Nat→Nat→List Adr→Prop
 | .nil,_,_,L=>L=[]
 | .num k _ r,b,off,L=>∃ L',L=(b,off,k)::L'∧(∃ n,w.cell? ⟨b,off,none⟩=some (.int k n))∧ShG w r b (off+1) L'
 | .sl s d r,b,off,L=>∃ L1 L2,L=L1++L2∧(∃ a l c,w.cell? ⟨b,off,none⟩=some (.slice a l c)∧d.len=l * s∧l≤9223372036854775807∧((l=0∧d = .nil∧L1=[])∨∃ g,0 < l∧a=some ⟨g,0,none⟩∧Pl w g∧ShG w d g 0 L1))∧ShG w r b (off+1) L2
def ShS (w:World) (s:Nat) (a:Option Addr) (l:Nat) (d:G) (L:List Adr):Prop :=
 d.len=l * s∧l≤9223372036854775807∧((l=0∧d = .nil∧L=[])∨∃ g,0 < l∧a=some ⟨g,0,none⟩∧Pl w g∧ShG w d g 0 L)
theorem ShG.outS {w:World} {s:Nat} {d r:G} {b off:Nat} {L:List Adr} (h:ShG w (.sl s d r) b off L) :
  ∃ L1 L2 a l c,L=L1++L2∧w.cell? ⟨b,off,none⟩=some (.slice a l c)∧ShS w s a l d L1∧ShG w r b (off+1) L2:=by
 obtain ⟨L1,L2,e,⟨a,l,c,h0,h1⟩,hr⟩:=h;exact ⟨L1,L2,a,l,c,e,h0,h1,hr⟩
structure Lk (w u:World):Prop where
 sl:∀ b o a l c,w.cell? ⟨b,o,none⟩=some (.slice a l c)→u.cell? ⟨b,o,none⟩=some (.slice a l c)
 num:∀ b o k n,w.cell? ⟨b,o,none⟩=some (.int k n)→∃ n',u.cell? ⟨b,o,none⟩=some (.int k n')
 pl:∀ g,Pl w g→Pl u g
theorem Lk.trans {a b c:World} (h:Lk a b) (k:Lk b c):Lk a c :=
 ⟨fun p o x l y hx=>k.sl _ _ _ _ _ (h.sl _ _ _ _ _ hx),fun p o x n hx=>by obtain ⟨n',h'⟩:=h.num _ _ _ _ hx;exact k.num _ _ _ _ h',fun g hg=>k.pl g (h.pl g hg)⟩
theorem Lk.quiet {w u:World} (h:w.grownBy u Option.none):Lk w u :=
 ⟨fun p o x l y hx=>h.cell hx (by simp),fun p o x n hx=>⟨n,h.cell hx (by simp)⟩,fun g ⟨cur,t,hc⟩=>⟨cur,t,(h.block g (lbk hc) (by simp)).trans hc⟩⟩
theorem ShG.lk {w u:World} (k:Lk w u) {f:G}:∀ {b off:Nat} {L:List Adr},ShG w f b off L→ShG u f b off L:=by
 induction f with
 | nil=>intro b off L h;exact h
 | num kk n r ih =>
  intro b off L h;obtain ⟨L',e,⟨m,hm⟩,hr⟩:=h;exact ⟨L',e,k.num _ _ _ _ hm,ih hr⟩
 | sl s d r ihd ihr =>
  intro b off L h;obtain ⟨L1,L2,e,⟨a,l,c,h0,h1,h2,h3⟩,hr⟩:=h;refine ⟨L1,L2,e,⟨a,l,c,k.sl _ _ _ _ _ h0,h1,h2,?_⟩,ihr hr⟩;rcases h3 with h3|⟨g,hp,e1,hg,h3⟩
  ·
   exact .inl h3
  ·
   exact .inr ⟨g,hp,e1,k.pl g hg,ihd h3⟩
theorem ShS.lk {w u:World} {s:Nat} {a:Option Addr} {l:Nat} {d:G} {L:List Adr} (h:ShS w s a l d L) (k:Lk w u):ShS u s a l d L:=by
 obtain ⟨h1,h2,h3⟩:=h;refine ⟨h1,h2,?_⟩;rcases h3 with h3|⟨g,hp,e1,hg,h3⟩
 ·
  exact .inl h3
 ·
  exact .inr ⟨g,hp,e1,k.pl g hg,h3.lk k⟩
structure Wr (w u:World) (L:List Adr) (k:Int):Prop where
 os:u.os=w.os
 tape:u.tape=w.tape
 output:u.output=w.output
 size:w.heap.size≤u.heap.size
 block:∀ i,i < w.heap.size→(∀ x ∈ L,x.1≠i)→u.heap[i]? = w.heap[i]?
 cell:∀ b o v,w.cell? ⟨b,o,none⟩=some v→(∀ x ∈ L,(x.1,x.2.1)≠(b,o))→u.cell? ⟨b,o,none⟩=some v
 lk:Lk w u
 val:∀ (i:Nat) (x:Adr),L[i]? = some x→u.cell? ⟨x.1,x.2.1,none⟩=some (.int x.2.2 (x.2.2.wrap (k+i)))
theorem Wr.quiet {w u:World} (h:w.grownBy u Option.none) (k:Int):Wr w u [] k :=
 ⟨h.os,h.tape,h.output,h.size,fun i hi _=>h.block i hi (by simp),fun b o v hv _=>h.cell hv (by simp),Lk.quiet h,fun i x hx=>by simp at hx⟩
theorem Wr.one {w:World} {b o:Nat} {K:IntKind} {n:Int} (hp:Pl w b) (h:w.cell? ⟨b,o,none⟩=some (.int K n)) (k:Int) (v:Value) (hv:v = .int K (K.wrap k)):Wr w (w.setCell ⟨b,o,none⟩ v) [(b,o,K)] k:=by
 obtain ⟨cur,t,hc⟩:=hp;have hs:=hsm w b o cur t v hc;have hg:=gsc w b o v
 have ho:o < cur.size:=by
  rw[cell_of_row w b o cur t (0,0) hc] at h;exact (Array.getElem?_eq_some_iff.1 h).1
 have hsame:(w.setCell ⟨b,o,none⟩ v).cell? ⟨b,o,none⟩=some v:=by
  rw[cell_of_row _ b o _ t (0,0) hs];simp [ho]
 have hoth:∀ b' o' x,w.cell? ⟨b',o',none⟩=some x→(b,o)≠(b',o')→(w.setCell ⟨b,o,none⟩ v).cell? ⟨b',o',none⟩=some x:=by
  intro b' o' x hx hne;by_cases e:b' = b
  ·
   subst e;rw[cell_of_row _ b' o' _ t (0,0) hs,Array.getElem?_setIfInBounds_ne (fun e=>hne (by rw[e])),← cell_of_row w b' o' cur t (0,0) hc];exact hx
  ·
   exact hg.cell hx (by simpa using fun e'=>e e')
 subst hv;refine ⟨hg.os,hg.tape,hg.output,hg.size,fun i hi hx=>hg.block i hi (by simpa using fun e=>hx _ (List.mem_singleton.2 rfl) e.symm),fun b' o' x hx hm=>hoth b' o' x hx (hm _ (List.mem_singleton.2 rfl)),⟨fun b' o' a l c hx=>hoth _ _ _ hx (fun e=>?_),fun b' o' kk m hx=>?_,fun g hg'=>hg'.set b o _⟩,fun i x hx=>?_⟩
 ·
  injection e with e1 e2;subst e1 e2;rw[h] at hx;simp at hx
 ·
  by_cases e:(b,o)=(b',o')
  ·
   injection e with e1 e2;subst e1 e2;rw[h] at hx;injection hx with hx;injection hx with e3 e4;subst e3;exact ⟨_,hsame⟩
  ·
   exact ⟨m,hoth _ _ _ hx e⟩
 ·
  cases i with
  | zero =>
   simp only[List.getElem?_cons_zero,Option.some.injEq] at hx;subst hx;simpa using hsame
  | succ i=>simp at hx
def Uni (L:List Adr):Prop:=(L.map fun x=>(x.1,x.2.1)).Nodup
theorem Wr.app {w u v:World} {L1 L2:List Adr} {k k2:Int} (h:Wr w u L1 k) (g:Wr u v L2 k2) (hk:k2=k+L1.length) (hn:Uni (L1++L2)):Wr w v (L1++L2) k:=by
 have hd:∀ x ∈ L1,∀ y ∈ L2,(y.1,y.2.1)≠(x.1,x.2.1):=by
  intro x hx y hy e;unfold Uni at hn;rw[List.map_append,List.nodup_append] at hn;exact hn.2.2 _ (List.mem_map_of_mem hx) _ (List.mem_map_of_mem hy) e.symm
 refine ⟨g.os.trans h.os,g.tape.trans h.tape,g.output.trans h.output,Nat.le_trans h.size g.size,fun i hi hx=>?_,fun b o x hx hm=>?_,h.lk.trans g.lk,fun i x hx=>?_⟩
 ·
  exact (g.block i (Nat.lt_of_lt_of_le hi h.size) fun y hy=>hx y (List.mem_append_right _ hy)).trans (h.block i hi fun y hy=>hx y (List.mem_append_left _ hy))
 ·
  exact g.cell b o x (h.cell b o x hx fun y hy=>hm y (List.mem_append_left _ hy)) fun y hy=>hm y (List.mem_append_right _ hy)
 ·
  by_cases hi:i < L1.length
  ·
   rw[List.getElem?_append_left hi] at hx;have hxm:=List.mem_of_getElem? hx
   exact g.cell _ _ _ (h.val i x hx) fun y hy=>hd x hxm y hy
  ·
   rw[List.getElem?_append_right (by omega)] at hx;have:=g.val _ x hx;rw[this,hk]
   congr 3
   omega
theorem Uni.left {L1 L2:List Adr} (h:Uni (L1++L2)):Uni L1:=by
 unfold Uni at h ⊢;rw[List.map_append,List.nodup_append] at h;exact h.1
theorem Uni.right {L1 L2:List Adr} (h:Uni (L1++L2)):Uni L2:=by
 unfold Uni at h ⊢;rw[List.map_append,List.nodup_append] at h;exact h.2.1
def Hl (w:World) (L:List Adr) (k:Int):Prop:=∀ (i:Nat) (x:Adr),L[i]? = some x→w.cell? ⟨x.1,x.2.1,none⟩=some (.int x.2.2 (x.2.2.wrap (k+i)))
theorem Hl.old {w u:World} {L:List Adr} {k:Int} (h:Hl w L k) (g:w.grownBy u Option.none):Hl u L k:=fun i x hx=>g.cell (h i x hx) (by simp)
theorem Hl.left {w:World} {L1 L2:List Adr} {k:Int} (h:Hl w (L1++L2) k):Hl w L1 k:=fun i x hx=>h i x (by rw[List.getElem?_append_left (List.getElem?_eq_some_iff.1 hx).1];exact hx)
theorem Hl.right {w:World} {L1 L2:List Adr} {k:Int} (h:Hl w (L1++L2) k):Hl w L2 (k+L1.length):=fun i x hx=>by
 have:=h (L1.length+i) x (by rw[List.getElem?_append_right (by omega)];simpa using hx);rw[this];congr 3;omega
theorem Hl.head {w:World} {x:Adr} {L:List Adr} {k:Int} (h:Hl w (x::L) k):w.cell? ⟨x.1,x.2.1,none⟩=some (.int x.2.2 (x.2.2.wrap k)):=by simpa using h 0 x rfl
theorem OwnG.sh {w:World} {f:G}:∀ {b off:Nat} {bs:List Nat},OwnG w f b off bs→bs.Nodup→b ∉ bs→∃ L,ShG w f b off L∧Uni L∧∀ x ∈ L,(x.1=b∧off≤x.2.1)∨x.1 ∈ bs:=by
 induction f with
 | nil=>intro b off bs h _ _;exact ⟨[],rfl,List.nodup_nil,fun x hx=>by simp at hx⟩
 | num k n r ih =>
  intro b off bs h hn hb;obtain ⟨L,h1,h2,h3⟩:=ih h.2 hn hb;refine ⟨(b,off,k)::L,⟨L,rfl,⟨n,h.1⟩,h1⟩,?_,fun x hx=>?_⟩
  ·
   unfold Uni at h2 ⊢;rw[List.map_cons,List.nodup_cons];refine ⟨fun hm=>?_,h2⟩;obtain ⟨x,hx,e⟩:=List.mem_map.1 hm;injection e with e1 e2;simp only at e1 e2;rcases h3 x hx with ⟨_,h4⟩|h4
   ·
    omega
   ·
    rw[e1] at h4;exact hb h4
  ·
   rcases List.mem_cons.1 hx with rfl|hx
   ·
    exact .inl ⟨rfl,Nat.le_refl _⟩
   ·
    rcases h3 x hx with ⟨h4,h5⟩|h4
    ·
     exact .inl ⟨h4,by omega⟩
    ·
     exact .inr h4
 | sl s d r ihd ihr =>
  intro b off bs h hn hb;obtain ⟨bs1,bs2,rfl,⟨a,l,c,h0,h1,h2,h3,h6⟩,hr⟩:=h;obtain ⟨n1,n2,n3⟩:=List.nodup_append.1 hn;obtain ⟨L2,g1,g2,g3⟩:=ihr hr n2 (fun hx=>hb (List.mem_append_right _ hx))
  obtain ⟨L1,f1,f2,f3⟩:∃ L1,((l=0∧d = .nil∧L1=[])∨∃ g,0 < l∧a=some ⟨g,0,none⟩∧Pl w g∧ShG w d g 0 L1)∧Uni L1∧∀ x ∈ L1,x.1 ∈ bs1:=by
   rcases h6 with ⟨e1,e2,e3⟩|⟨g,bs',hp,e1,rfl,hbk,h6⟩
   ·
    exact ⟨[],.inl ⟨e1,e2,rfl⟩,List.nodup_nil,fun x hx=>by simp at hx⟩
   ·
    obtain ⟨hg,hn'⟩:=List.nodup_cons.1 n1;obtain ⟨L1,f1,f2,f3⟩:=ihd h6 hn' hg;obtain ⟨cur,t,hc,_⟩:=hbk;refine ⟨L1,.inr ⟨g,hp,e1,⟨cur,t,hc⟩,f1⟩,f2,fun x hx=>?_⟩;rcases f3 x hx with ⟨h4,_⟩|h4
    ·
     rw[h4];simp
    ·
     exact List.mem_cons_of_mem _ h4
  refine ⟨L1++L2,⟨L1,L2,rfl,⟨a,l,c,h0,h1,h2,f1⟩,g1⟩,?_,fun x hx=>?_⟩
  ·
   unfold Uni at f2 g2 ⊢;rw[List.map_append,List.nodup_append];refine ⟨f2,g2,fun p hp q hq e=>?_⟩;subst e;obtain ⟨x,hx,e⟩:=List.mem_map.1 hp;obtain ⟨y,hy,e'⟩:=List.mem_map.1 hq;rw[← e'] at e;injection e with e1 e2;have hx1:=f3 x hx;rcases g3 y hy with ⟨h4,_⟩|h4
   ·
    exact hb (List.mem_append_left _ (by rw[← h4,← e1];exact hx1))
   ·
    exact n3 _ hx1 _ h4 e1
  ·
   rcases List.mem_append.1 hx with hx|hx
   ·
    exact .inr (List.mem_append_left _ (f3 x hx))
   ·
    rcases g3 x hx with ⟨h4,h5⟩|h4
    ·
     exact .inl ⟨h4,by omega⟩
    ·
     exact .inr (List.mem_append_right _ h4)
theorem SlG.sh {w:World} {s:Nat} {a:Option Addr} {l c:Nat} {d:G} {bs:List Nat} (h:SlG w s a l c d bs) (hn:bs.Nodup):∃ L,ShS w s a l d L∧Uni L∧∀ x ∈ L,x.1 ∈ bs:=by
 obtain ⟨h1,h2,h3,h6⟩:=h;rcases h6 with ⟨e1,e2,e3⟩|⟨g,bs',hp,e1,rfl,hbk,h6⟩
 ·
  exact ⟨[],⟨h1,h2,.inl ⟨e1,e2,rfl⟩⟩,List.nodup_nil,fun x hx=>by simp at hx⟩
 ·
  obtain ⟨hg,hn'⟩:=List.nodup_cons.1 hn;obtain ⟨L1,f1,f2,f3⟩:=h6.sh hn' hg;obtain ⟨cur,t,hc,_⟩:=hbk;refine ⟨L1,⟨h1,h2,.inr ⟨g,hp,e1,⟨cur,t,hc⟩,f1⟩⟩,f2,fun x hx=>?_⟩;rcases f3 x hx with ⟨h4,_⟩|h4
  ·
   rw[h4];simp
  ·
   exact List.mem_cons_of_mem _ h4
theorem wrap8 (k:Int):IntKind.u8.wrap k=k % 256:=by
 simp [IntKind.wrap,IntKind.bits,IntKind.signed]
theorem peelT {w:World} {g j:Nat} {LR:List Adr} {k n:Int} {d R':F} (h:ShG w (encF (.cons k n d R')) g (j * 3) LR) (hp:Pl w g) :
  ∃ (a2:Option Addr) (l2 c2:Nat) (M2:List Adr),∃ LR':List Adr,LR=[(g,j * 3,i64)]++([(g,j * 3+1,i64)]++(M2++LR'))∧∀ V,Lk w V→(∃ m,V.cell? ⟨g,j * 3,none⟩=some (.int .i64 m))∧(∃ m,V.cell? ⟨g,j * 3+1,none⟩=some (.int .i64 m))∧(V.cell? ⟨g,j * 3+2,none⟩=some (.slice a2 l2 c2)∧ShS V 3 a2 l2 (encF d) M2)∧ShG V (encF R') g ((j+1) * 3) LR'∧Pl V g:=by
 obtain ⟨K0,rfl,c0',h⟩:=h;obtain ⟨K1,rfl,c1',h⟩:=h;obtain ⟨M2,K2,a2,l2,c2,rfl,c2',s2',h⟩:=h.outS;refine ⟨a2,l2,c2,M2,K2,rfl,fun V hV=>?_⟩
 have hn:ShG w (encF R') g ((j+1) * 3) K2:=by
  rw[show (j+1) * 3=j * 3+1+1+1 by omega];exact h
 exact ⟨(by obtain ⟨m,hm⟩:=c0';exact hV.num _ _ _ _ hm),(by obtain ⟨m,hm⟩:=c1';exact hV.num _ _ _ _ hm),⟨hV.sl _ _ _ _ _ c2',s2'.lk hV⟩,hn.lk hV,hV.pl g hp⟩
theorem markGTm (m:Nat):∀ (xs:F),xs.size < m→∀ (a:Option Addr) (l c:Nat) (L:List Adr) (k0:Int) (w:World),ShS w 3 a l (encF xs) L→Uni L→0≤k0→k0+L.length≤4611686018427387904 →
  Calls Tryz.prog 47 #[.slice a l c,.int .i64 k0] w fun e u=>e = .returned (.int .i64 (k0+L.length))∧Wr w u L k0:=by
 induction m with
 | zero=>intro xs hm;exact absurd hm (Nat.not_lt_zero _)
 | succ m ih =>
  intro xs hm a l c L k0 w h hU hk0 hk1;obtain ⟨h1,h2,h3⟩:=h;rw[encF_len] at h1
  have hxl:xs.len=l:=by omega
  rcases h3 with ⟨rfl,hd,rfl⟩|⟨g,hp,rfl,hpl,hsh⟩
  ·
   go_enter Tryz.func47,Tryz.ntmps47;go_wp2;refine wp_loop_rounds 1 ?_;rw[rounds_succ];go_wp2;go_ret;exact ⟨by simp,Wr.quiet (grf _ _) _⟩
  have HU:Hid (Uni L):=hU;clear hU;have IH:Hid _:=ih;have H0:Hid (ShG w (encF xs) g 0 L∧Pl w g):=⟨hsh,hpl⟩;clear hsh hpl h1 ih;go_enter Tryz.func47,Tryz.ntmps47;go_wp2
  go_loopw [1,5] (fun v i wr=>∃ (j:Nat) (R:F) (LD LR:List Adr) (kj:Int),j≤l∧i = .int .i64 j∧v = .int .i64 kj∧0≤kj∧kj+LR.length=k0+L.length∧R.len+j=l∧R.size≤xs.size∧Hid (L=LD++LR∧kj=k0+LD.length∧Wr w wr LD k0∧ShG wr (encF R) g (j * 3) LR∧Pl wr g)) (fun _ i _=>l - (intOf i).toNat)
  case atStart=>exact ⟨0,xs,[],L,k0,Nat.zero_le _,rfl,rfl,hk0,rfl,by omega,Nat.le_refl _,⟨rfl,by simp,Wr.quiet (grf _ _) _,by simpa using H0.out.1,H0.out.2⟩⟩
  case round =>
   obtain ⟨j,R,LD,LR,kj,hj,rfl,rfl,hj0,hjk,hRl,hRs,HR⟩:=hrel;clear H0;by_cases hlt:j < l
   ·
    obtain ⟨k,n,d,R',rfl,-⟩:∃ k n d r,R = .cons k n d r∧True:=by
     cases R with
     | nil=>simp [F.len] at hRl;omega
     | cons k n d r=>exact ⟨k,n,d,r,rfl,trivial⟩
    obtain ⟨a2,l2,c2,M2,LR',hLR,hS⟩:=peelT HR.out.2.2.2.1 HR.out.2.2.2.2;have SH:Hid (∀ V,Lk wr V→(∃ m,V.cell? ⟨g,j * 3,none⟩=some (.int .i64 m))∧(∃ m,V.cell? ⟨g,j * 3+1,none⟩=some (.int .i64 m))∧(V.cell? ⟨g,j * 3+2,none⟩=some (.slice a2 l2 c2)∧ShS V 3 a2 l2 (encF d) M2)∧ShG V (encF R') g ((j+1) * 3) LR'∧Pl V g):=hS;have HL:Hid (LR=[(g,j * 3,i64)]++([(g,j * 3+1,i64)]++(M2++LR'))):=hLR;clear hS hLR
    have hlen:(LR.length:Int)=1+1+(M2.length:Int)+(LR'.length:Int):=by
     rw[HL.out];simp only[lA,lB,lC];(try push_cast);omega
    simp only[F.len] at hRl;simp only[F.size] at hRs;have PR:Hid (Wr w wr (LD) k0∧Lk wr wr):=⟨HR.out.2.2.1,⟨fun _ _ _ _ _ h=>h,fun _ _ _ n h=>⟨n,h⟩,fun _ h=>h⟩⟩;have KC:Hid (kj=k0+LD.length∧L=LD++LR):=⟨HR.out.2.1,HR.out.1⟩;clear HR;obtain ⟨m0,hm0⟩:=(SH.out wr PR.out.2).1;have fr0:wr.frozen? ⟨g,j * 3,none⟩=false:=((SH.out wr PR.out.2).2.2.2).2.free _;obtain ⟨m1,hm1⟩:=(SH.out wr PR.out.2).2.1;have fr1:wr.frozen? ⟨g,j * 3+1,none⟩=false:=((SH.out wr PR.out.2).2.2.2).2.free _;have O0:Wr wr (wr.setCell ⟨g,j * 3,none⟩ (.int .i64 (kj))) [(g,j * 3,i64)] (kj):=Wr.one ((SH.out wr PR.out.2).2.2.2).2 hm0 _ _ (by rw[IntWalk.i64_in _ (by omega)]);have PR2:Hid (Wr w (wr.setCell ⟨g,j * 3,none⟩ (.int .i64 (kj))) (LD++[(g,j * 3,i64)]) k0∧Lk wr (wr.setCell ⟨g,j * 3,none⟩ (.int .i64 (kj)))):=⟨Wr.app PR.out.1 O0 (by have:=KC.out.1;(try simp only[lA,lB,lC]);(try push_cast);omega) (Uni.left (L2:=[(g,j * 3+1,i64)]++M2++LR') (by have h9:=HU.out;rw[KC.out.2,HL.out] at h9;simpa using h9)),PR.out.2.trans O0.lk⟩
    clear PR O0;have PR:Hid _:=PR2.out;clear PR2;obtain ⟨x1,hx1⟩:=(SH.out (wr.setCell ⟨g,j * 3,none⟩ (.int .i64 (kj))) PR.out.2).2.1;have O1:Wr (wr.setCell ⟨g,j * 3,none⟩ (.int .i64 (kj))) ((wr.setCell ⟨g,j * 3,none⟩ (.int .i64 (kj))).setCell ⟨g,j * 3+1,none⟩ (.int .i64 (kj+1))) [(g,j * 3+1,i64)] (kj+1):=Wr.one ((SH.out (wr.setCell ⟨g,j * 3,none⟩ (.int .i64 (kj))) PR.out.2).2.2.2).2 hx1 _ _ (by rw[IntWalk.i64_in _ (by omega)]);have PR2:Hid (Wr w ((wr.setCell ⟨g,j * 3,none⟩ (.int .i64 (kj))).setCell ⟨g,j * 3+1,none⟩ (.int .i64 (kj+1))) (LD++[(g,j * 3,i64)]++[(g,j * 3+1,i64)]) k0∧Lk wr ((wr.setCell ⟨g,j * 3,none⟩ (.int .i64 (kj))).setCell ⟨g,j * 3+1,none⟩ (.int .i64 (kj+1)))):=⟨Wr.app PR.out.1 O1 (by have:=KC.out.1;(try simp only[lA,lB,lC]);(try push_cast);omega) (Uni.left (L2:=M2++LR') (by have h9:=HU.out;rw[KC.out.2,HL.out] at h9;simpa using h9)),PR.out.2.trans O1.lk⟩;clear PR O1 hx1;have PR:Hid _:=PR2.out
    clear PR2
    -- world ((wr.setCell ⟨g,j * 3,none⟩ (.int .i64 (kj))).setCell ⟨g,j * 3+1,none⟩ (.int .i64 (kj+1)))
    have hc2:=(SH.out ((wr.setCell ⟨g,j * 3,none⟩ (.int .i64 (kj))).setCell ⟨g,j * 3+1,none⟩ (.int .i64 (kj+1))) PR.out.2).2.2.1;have CC:Hid _:=IH.out d (by omega) a2 l2 c2 M2 (kj+1+1) ((wr.setCell ⟨g,j * 3,none⟩ (.int .i64 (kj))).setCell ⟨g,j * 3+1,none⟩ (.int .i64 (kj+1))) hc2.2 (by have h9:=HU.out;rw[KC.out.2,HL.out] at h9;exact Uni.left (L2:=LR') (Uni.right (L1:=LD++[(g,j * 3,i64)]++[(g,j * 3+1,i64)]) (by simpa using h9))) (by omega) (by omega);have hh2:=hc2.1;clear hc2;go_wp2_with fail;refine Calls.mono CC.out ?_;rintro e u2 ⟨rfl,hw⟩;have PR2:Hid (Wr w u2 (LD++[(g,j * 3,i64)]++[(g,j * 3+1,i64)]++M2) k0∧Lk wr u2):=⟨Wr.app PR.out.1 hw (by have:=KC.out.1;(try simp only[lA,lB,lC]);(try push_cast);omega) (Uni.left (L2:=LR') (by have h9:=HU.out;rw[KC.out.2,HL.out] at h9;simpa using h9)),PR.out.2.trans hw.lk⟩;clear PR CC hw hh2 hm0 fr0 hm1 fr1;have PR:Hid _:=PR2.out;clear PR2;simp only[]
    have hfin:(kj+1+1+(M2.length:Int))+(LR'.length:Int)=k0+L.length:=by omega
    have HN:Hid (L=(LD++[(g,j * 3,i64)]++[(g,j * 3+1,i64)]++M2)++LR'∧(kj+1+1+(M2.length:Int))=k0+((LD++[(g,j * 3,i64)]++[(g,j * 3+1,i64)]++M2).length:Int)∧Wr w u2 (LD++[(g,j * 3,i64)]++[(g,j * 3+1,i64)]++M2) k0∧ShG u2 (encF R') g ((j+1) * 3) LR'∧Pl u2 g):=⟨by rw[KC.out.2,HL.out];simp,by have:=KC.out.1;(try simp only[lA,lB,lC]);(try push_cast);omega,PR.out.1,((SH.out _ PR.out.2).2.2.2).1,((SH.out _ PR.out.2).2.2.2).2⟩;clear PR SH HL KC;go_wp2;go_roundw
    case rel=>exact ⟨j+1,R',_,LR',_,by omega,by go_num,rfl,by omega,hfin,by omega,by omega,HN⟩
    case measure=>simp [intOf];omega
   ·
    obtain rfl:j=l:=by omega
    obtain rfl:R = .nil:=F.nil_of_len (by omega);have hr0:LR=[]:=HR.out.2.2.2.1;subst hr0;have HF:Hid (Wr w wr L k0∧kj=k0+(L.length:Int)):=⟨by have h9:=HR.out.1;rw[List.append_nil] at h9;rw[h9];exact HR.out.2.2.1,by simpa using hjk⟩;clear HR hjk;go_wp2;go_ret;exact ⟨by rw[← HF.out.2];rfl,HF.out.1⟩
theorem markGT (xs:F) (m:Nat) (hm:xs.size < m) (a:Option Addr) (l c:Nat) (L:List Adr) (k0:Int) (w:World) (h:ShS w 3 a l (encF xs) L) (hU:Uni L) (hk0:0≤k0) (hk1:k0+L.length≤4611686018427387904) :
  Calls Tryz.prog 47 #[.slice a l c,.int .i64 k0] w fun e u=>e = .returned (.int .i64 (k0+L.length))∧Wr w u L k0:=markGTm m xs hm a l c L k0 w h hU hk0 hk1
theorem heldGTm (m:Nat):∀ (xs:F),xs.size < m→∀ (a:Option Addr) (l c:Nat) (L:List Adr) (k0:Int) (w:World),ShS w 3 a l (encF xs) L→Hl w L k0→0≤k0→k0+L.length≤4611686018427387904 →
  Calls Tryz.prog 50 #[.slice a l c,.int .i64 k0] w fun e u=>e = .returned (.int .i64 (k0+L.length))∧w.grownBy u none:=by
 induction m with
 | zero=>intro xs hm;exact absurd hm (Nat.not_lt_zero _)
 | succ m ih =>
  intro xs hm a l c L k0 w h hH hk0 hk1;obtain ⟨h1,h2,h3⟩:=h;rw[encF_len] at h1
  have hxl:xs.len=l:=by omega
  rcases h3 with ⟨rfl,hd,rfl⟩|⟨g,hp,rfl,hpl,hsh⟩
  ·
   go_enter Tryz.func50,Tryz.ntmps50;go_wp2;refine wp_loop_rounds 1 ?_;rw[rounds_succ];go_wp2;go_ret;exact ⟨by simp,grf _ _⟩
  have HH:Hid (Hl w L k0):=hH;clear hH;have IH:Hid _:=ih;have H0:Hid (ShG w (encF xs) g 0 L∧Pl w g):=⟨hsh,hpl⟩;clear hsh hpl h1 ih;go_enter Tryz.func50,Tryz.ntmps50;go_wp2
  go_loopw [1,5] (fun v i wr=>∃ (j:Nat) (R:F) (LD LR:List Adr) (kj:Int),j≤l∧i = .int .i64 j∧v = .int .i64 kj∧0≤kj∧kj+LR.length=k0+L.length∧R.len+j=l∧R.size≤xs.size∧Hid (L=LD++LR∧kj=k0+LD.length∧w.grownBy wr none∧Hl wr LR kj∧ShG wr (encF R) g (j * 3) LR∧Pl wr g)) (fun _ i _=>l - (intOf i).toNat)
  case atStart=>exact ⟨0,xs,[],L,k0,Nat.zero_le _,rfl,rfl,hk0,rfl,by omega,Nat.le_refl _,⟨rfl,by simp,grf _ _,HH.out,by simpa using H0.out.1,H0.out.2⟩⟩
  case round =>
   obtain ⟨j,R,LD,LR,kj,hj,rfl,rfl,hj0,hjk,hRl,hRs,HR⟩:=hrel;clear H0;by_cases hlt:j < l
   ·
    obtain ⟨k,n,d,R',rfl,-⟩:∃ k n d r,R = .cons k n d r∧True:=by
     cases R with
     | nil=>simp [F.len] at hRl;omega
     | cons k n d r=>exact ⟨k,n,d,r,rfl,trivial⟩
    obtain ⟨a2,l2,c2,M2,LR',hLR,hS⟩:=peelT HR.out.2.2.2.2.1 HR.out.2.2.2.2.2;have SH:Hid (∀ V,Lk wr V→(∃ m,V.cell? ⟨g,j * 3,none⟩=some (.int .i64 m))∧(∃ m,V.cell? ⟨g,j * 3+1,none⟩=some (.int .i64 m))∧(V.cell? ⟨g,j * 3+2,none⟩=some (.slice a2 l2 c2)∧ShS V 3 a2 l2 (encF d) M2)∧ShG V (encF R') g ((j+1) * 3) LR'∧Pl V g):=hS;have HL:Hid (LR=[(g,j * 3,i64)]++([(g,j * 3+1,i64)]++(M2++LR'))):=hLR;clear hS hLR
    have hlen:(LR.length:Int)=1+1+(M2.length:Int)+(LR'.length:Int):=by
     rw[HL.out];simp only[lA,lB,lC];(try push_cast);omega
    simp only[F.len] at hRl;simp only[F.size] at hRs;have PR:Hid (w.grownBy wr none∧Lk wr wr∧Hl wr LR kj):=⟨HR.out.2.2.1,⟨fun _ _ _ _ _ h=>h,fun _ _ _ n h=>⟨n,h⟩,fun _ h=>h⟩,HR.out.2.2.2.1⟩;have KC:Hid (kj=k0+LD.length∧L=LD++LR):=⟨HR.out.2.1,HR.out.1⟩;clear HR;obtain ⟨m0,hm0⟩:=(SH.out wr PR.out.2.1).1;obtain ⟨m1,hm1⟩:=(SH.out wr PR.out.2.1).2.1
    have e0:wr.cell? ⟨g,j * 3,none⟩=some (.int i64 (kj)):=by
     have h9:=PR.out.2.2;rw[HL.out] at h9
     have h8:=Hl.head (x:=(g,j * 3,i64)) (L:=[(g,j * 3+1,i64)]++M2++LR') (k:=kj) (w:=wr) (by
      have h7:=h9
      simpa using h7)
     rw[IntWalk.i64_in _ (by omega)] at h8;exact h8
    clear hm0
    have e1:wr.cell? ⟨g,j * 3+1,none⟩=some (.int i64 (kj+1)):=by
     have h9:=PR.out.2.2;rw[HL.out] at h9
     have h8:=Hl.head (x:=(g,j * 3+1,i64)) (L:=M2++LR') (k:=kj+1) (w:=wr) (by
      have h7:=Hl.right (L1:=[(g,j * 3,i64)]) (L2:=[(g,j * 3+1,i64)]++M2++LR') (by simpa using h9);rw[show (kj+1:Int)=kj+(([(g,j * 3,i64)]).length:Int) by first|rfl|omega | ((try simp only[lA,lB,lC]);(try push_cast);omega)]
      simpa using h7)
     rw[IntWalk.i64_in _ (by omega)] at h8;exact h8
    clear hm1;have hc2:=(SH.out wr PR.out.2.1).2.2.1
    have CC:Hid _:=IH.out d (by omega) a2 l2 c2 M2 (kj+1+1) wr hc2.2 (by
     have h9:=PR.out.2.2;rw[HL.out] at h9;have h7:=Hl.right (L1:=[(g,j * 3,i64)]++[(g,j * 3+1,i64)]) (L2:=M2++LR') (by simpa using h9);have h5:=Hl.left (L1:=M2) (L2:=LR') (k:=kj+(([(g,j * 3,i64)]++[(g,j * 3+1,i64)]).length:Int)) (by simpa using h7);rw[show (kj+1+1:Int)=kj+(([(g,j * 3,i64)]++[(g,j * 3+1,i64)]).length:Int) by first|rfl|omega | ((try simp only[lA,lB,lC]);(try push_cast);omega)]
     exact h5) (by omega) (by omega)
    have hh2:=hc2.1;clear hc2;go_wp2_with fail;refine Calls.mono CC.out ?_;rintro e u2 ⟨rfl,hw⟩;have PR2:Hid (w.grownBy u2 none∧Lk wr u2∧Hl u2 LR kj):=⟨gtr PR.out.1 hw,PR.out.2.1.trans (Lk.quiet hw),PR.out.2.2.old hw⟩;clear PR CC hw hh2;have PR:Hid _:=PR2.out;clear PR2;simp only[]
    have hng3:¬ (kj+1+1+(M2.length:Int)) < 0:=by omega
    have hfin:(kj+1+1+(M2.length:Int))+(LR'.length:Int)=k0+L.length:=by omega
    have HN:Hid (L=(LD++[(g,j * 3,i64)]++[(g,j * 3+1,i64)]++M2)++LR'∧(kj+1+1+(M2.length:Int))=k0+((LD++[(g,j * 3,i64)]++[(g,j * 3+1,i64)]++M2).length:Int)∧(w.grownBy u2 none∧Hl u2 LR' (kj+1+1+(M2.length:Int)))∧ShG u2 (encF R') g ((j+1) * 3) LR'∧Pl u2 g):=⟨by rw[KC.out.2,HL.out];simp,by have:=KC.out.1;(try simp only[lA,lB,lC]);(try push_cast);omega,⟨PR.out.1,by
     have h9:=PR.out.2.2;rw[HL.out] at h9;have h7:=Hl.right (L1:=[(g,j * 3,i64)]++[(g,j * 3+1,i64)]++M2) (L2:=LR') (by simpa using h9);rw[show (kj+1+1+(M2.length:Int):Int)=kj+(([(g,j * 3,i64)]++[(g,j * 3+1,i64)]++M2).length:Int) by first|rfl|omega | ((try simp only[lA,lB,lC]);(try push_cast);omega)]
     exact h7⟩,((SH.out _ PR.out.2.1).2.2.2).1,((SH.out _ PR.out.2.1).2.2.2).2⟩
    clear PR SH HL KC;go_wp2;go_roundw
    case rel=>exact ⟨j+1,R',_,LR',_,by omega,by go_num,rfl,by omega,hfin,by omega,by omega,⟨HN.out.1,HN.out.2.1,HN.out.2.2.1.1,HN.out.2.2.1.2,HN.out.2.2.2⟩⟩
    case measure=>simp [intOf];omega
   ·
    obtain rfl:j=l:=by omega
    obtain rfl:R = .nil:=F.nil_of_len (by omega);have hr0:LR=[]:=HR.out.2.2.2.2.1;subst hr0;have HF:Hid (w.grownBy wr none∧kj=k0+(L.length:Int)):=⟨HR.out.2.2.1,by simpa using hjk⟩;clear HR hjk;go_wp2;go_ret;exact ⟨by rw[← HF.out.2];rfl,HF.out.1⟩
theorem heldGT (xs:F) (m:Nat) (hm:xs.size < m) (a:Option Addr) (l c:Nat) (L:List Adr) (k0:Int) (w:World) (h:ShS w 3 a l (encF xs) L) (hH:Hl w L k0) (hk0:0≤k0) (hk1:k0+L.length≤4611686018427387904) :
  Calls Tryz.prog 50 #[.slice a l c,.int .i64 k0] w fun e u=>e = .returned (.int .i64 (k0+L.length))∧w.grownBy u none:=heldGTm m xs hm a l c L k0 w h hH hk0 hk1
end Go.Proofs.YtnmlbeefjjohfaaGreatDoor.By
