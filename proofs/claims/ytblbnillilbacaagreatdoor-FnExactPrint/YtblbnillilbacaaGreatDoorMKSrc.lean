/-
 Marks on a source that was copied. No statement is proved here.
-/
import Derived.Test.YtblbnillilbacaaGreatDoorSSrc
import Derived.Deep.DeepCutAuto
namespace Go.Proofs.YtblbnillilbacaaGreatDoor.By
open Go.RowKit
set_option linter.unusedVariables false
set_option linter.unusedSimpArgs false
/-- A world with all blocks outside lo .. hi - 1, and all that are frozen or no cells, made empty. -/
def hideR (w:World) (lo hi:Nat):World:={ w with heap:=w.heap.mapIdx fun i o=>if (lo≤i∧i < hi)∧isPl o=true then o else .map #[] 0 }
theorem hideR_heap {w:World} {lo hi i:Nat} {cur:Array Value} {t:TypeId} (h:lo≤i) (h2:i < hi) (hb:w.heap[i]? = some (.cells cur t (0,0))):(hideR w lo hi).heap[i]? = some (.cells cur t (0,0)):=by
 unfold hideR
 rw[Array.getElem?_mapIdx,hb]
 simp [h,h2,isPl]
theorem hideR_inv {w:World} {lo hi:Nat} {p:Addr} {v:Value} (h:(hideR w lo hi).cell? p=some v):(lo≤p.block∧p.block < hi)∧w.cell? p=some v∧∃ cur t,w.heap[p.block]? = some (.cells cur t (0,0)):=by
 have key:((hideR w lo hi).heap[p.block]? = none∨(hideR w lo hi).heap[p.block]? = some (.map #[] 0))∨((lo≤p.block∧p.block < hi)∧∃ cur t,w.heap[p.block]? = some (.cells cur t (0,0))):=by
  unfold hideR
  rw[Array.getElem?_mapIdx]
  cases hb:w.heap[p.block]? with
  | none=>exact .inl (.inl rfl)
  | some o =>
   by_cases hc:(lo≤p.block∧p.block < hi)∧isPl o=true
   ·
    refine .inr ⟨hc.1,?_⟩
    cases o with
    | cells cur t fr =>
     have:=hc.2
     simp only[isPl,decide_eq_true_eq] at this
     subst this
     exact ⟨cur,t,rfl⟩
    | _=>exact absurd hc.2 (by simp [isPl])
   ·
    refine .inl (.inr ?_)
    show some (if (lo≤p.block∧p.block < hi)∧isPl o=true then o else .map #[] 0)=_
    rw[if_neg hc]
 obtain ⟨b,off,s⟩:=p
 rcases key with (e|e) | ⟨h1,cur,t,h2⟩
 ·
  simp [World.cell?,e] at h
 ·
  simp [World.cell?,e] at h
 ·
  refine ⟨h1,?_,cur,t,h2⟩
  rw[← h]
  exact (cell_any (p:=⟨b,off,s⟩) ((hideR_heap h1.1 h1.2 h2).trans h2.symm)).symm
theorem CLe.toR {w u:World} {lo:Nat} (h:w.grownBy u none):CLe (hideZ w lo) (hideR u lo w.heap.size):=by
 intro p v hv
 obtain ⟨h1,h2,cur,t,h3⟩:=hideZ_inv hv
 have e:=h.block p.block (lt_of_block h3) (by simp)
 have h4:=hideR_heap (w:=u) (hi:=w.heap.size) h1 (lt_of_block h3) (e.trans h3)
 rw[cell_any (w:=w) (h4.trans h3.symm)]
 exact h2
/-- What a mark leaves of a value: the same, or another number of the same kind. -/
def Like (v v':Value):Prop:=v' = v∨∃ k z z',v = .int k z∧v' = .int k z'
theorem Like.trans {a b c:Value} (h:Like a b) (k:Like b c):Like a c:=by
 rcases h with rfl|⟨k1,z,z',rfl,rfl⟩
 ·
  exact k
 ·
  rcases k with rfl|⟨k2,y,y',e,rfl⟩
  ·
   exact .inr ⟨_,_,_,rfl,rfl⟩
  ·
   injection e with e1 e2;subst e1;exact .inr ⟨_,_,_,rfl,rfl⟩
def CLk (w u:World):Prop:=∀ p v,w.cell? p=some v→∃ v',u.cell? p=some v'∧Like v v'
theorem CLk.int {w u:World} (h:CLk w u) {p:Addr} {k:IntKind} (hc:∃ z,w.cell? p=some (.int k z)):∃ z,u.cell? p=some (.int k z):=by
 obtain ⟨z,hc⟩:=hc
 obtain ⟨v',h1,h2⟩:=h _ _ hc
 rcases h2 with rfl|⟨k1,y,y',e,rfl⟩
 ·
  exact ⟨z,h1⟩
 ·
  injection e with e1 e2;subst e1;exact ⟨y',h1⟩
theorem CLk.slice {w u:World} (h:CLk w u) {p:Addr} {a:Option Addr} {l c:Nat} (hc:w.cell? p=some (.slice a l c)):u.cell? p=some (.slice a l c):=by
 obtain ⟨v',h1,h2⟩:=h _ _ hc
 rcases h2 with rfl|⟨k1,y,y',e,rfl⟩
 ·
  exact h1
 ·
  cases e
/-- Nothing has turned but numbers in plain blocks from lo to hi - 1. -/
structure Mk (lo hi:Nat) (w u:World):Prop where
 like:CLk (hideR w lo hi) (hideR u lo hi)
 os:u.os=w.os
 tape:u.tape=w.tape
 output:u.output=w.output
 size:w.heap.size≤u.heap.size
 block:∀ i,i < w.heap.size→(i < lo∨hi≤i)→u.heap[i]? = w.heap[i]?
theorem CLe.lk {w u:World} (h:CLe w u):CLk w u:=fun p v hv=>⟨v,h p v hv,.inl rfl⟩
theorem Mk.refl (lo hi:Nat) (w:World):Mk lo hi w w:=⟨fun p v hv=>⟨v,hv,.inl rfl⟩,rfl,rfl,rfl,Nat.le_refl _,fun _ _ _=>rfl⟩
theorem Mk.trans {lo hi:Nat} {a b c:World} (h:Mk lo hi a b) (k:Mk lo hi b c):Mk lo hi a c :=
 ⟨fun p v hv=>by
  obtain ⟨v1,h1,h2⟩:=h.like p v hv
  obtain ⟨v2,h3,h4⟩:=k.like p v1 h1
  exact ⟨v2,h3,h2.trans h4⟩,k.os.trans h.os,k.tape.trans h.tape,k.output.trans h.output,Nat.le_trans h.size k.size,fun i hi hn=>(k.block i (Nat.lt_of_lt_of_le hi h.size) hn).trans (h.block i hi hn)⟩
theorem Mk.grown {lo hi:Nat} {w u:World} (h:w.grownBy u none):Mk lo hi w u :=
 ⟨fun p v hv=>by
  obtain ⟨h1,h2,cur,t,h3⟩:=hideR_inv hv
  have e:=h.block p.block (lt_of_block h3) (by simp)
  refine ⟨v,?_,.inl rfl⟩
  rw[cell_any (w:=w) ((hideR_heap (w:=u) h1.1 h1.2 (e.trans h3)).trans h3.symm)]
  exact h2,h.os,h.tape,h.output,h.size,fun i hi _=>h.block i hi (by simp)⟩
theorem Mk.set {lo hi:Nat} {w:World} {b off:Nat} {k:IntKind} {z:Int} (h:(hideR w lo hi).cell? ⟨b,off,none⟩=some (.int k z)) (z':Int):Mk lo hi w (w.setCell ⟨b,off,none⟩ (.int k z')):=by
 obtain ⟨h1,h2,cur,t,h3⟩:=hideR_inv h
 have hs:=heap_setCell_same w b off cur t (.int k z') h3
 have kk:=grown_setCell w b off (.int k z')
 have h2':cur[off]? = some (.int k z):=by rw[cell_of_row w b off cur t (0,0) h3] at h2;exact h2
 refine ⟨fun p v hv=>?_,kk.os,kk.tape,kk.output,kk.size,fun i hi hn=>kk.block i hi (by simp at h1 ⊢;omega)⟩
 obtain ⟨g1,g2,cur2,t2,g3⟩:=hideR_inv hv
 obtain ⟨pb,po,ps⟩:=p
 have hps:ps=none:=World.cell?_spot g2
 subst hps
 by_cases hb:pb=b
 ·
  subst hb
  have hh:=hideR_heap (w:=w.setCell ⟨pb,off,none⟩ (.int k z')) g1.1 g1.2 hs
  rw[cell_of_row _ pb po _ t (0,0) hh]
  rw[cell_of_row w pb po cur t (0,0) h3] at g2
  by_cases ho:po=off
  ·
   subst ho
   rw[h2'] at g2
   injection g2 with g2
   subst g2
   have hlt:po < cur.size:=by
    by_cases hlt:po < cur.size
    ·
     exact hlt
    ·
     rw[Array.getElem?_eq_none (by omega)] at h2';cases h2'
   exact ⟨.int k z',by simp [hlt],.inr ⟨_,_,_,rfl,rfl⟩⟩
  ·
   exact ⟨v,by rw[Array.getElem?_setIfInBounds_ne (by omega)];exact g2,.inl rfl⟩
 ·
  have e:=kk.block pb (lt_of_block g3) (by simp;omega)
  refine ⟨v,?_,.inl rfl⟩
  rw[cell_any (w:=w) ((hideR_heap (w:=w.setCell ⟨b,off,none⟩ (.int k z')) g1.1 g1.2 (e.trans g3)).trans g3.symm)]
  exact g2
theorem Mk.fresh {lo hi:Nat} {a w u:World} (h:a.grownBy w none) (k:Mk lo hi w u) (hb:a.heap.size≤lo):a.grownBy u none :=
 ⟨k.os.trans h.os,k.tape.trans h.tape,k.output.trans h.output,Nat.le_trans h.size k.size,fun i hi _=>(k.block i (Nat.lt_of_lt_of_le hi h.size) (.inl (by omega))).trans (h.block i hi (by simp))⟩
/-- A cell that may be marked: what it holds, and that it may be written. -/
theorem hideR_open {w:World} {lo hi:Nat} {b off:Nat} {v:Value} (h:(hideR w lo hi).cell? ⟨b,off,none⟩=some v):w.cell? ⟨b,off,none⟩=some v∧w.frozen? ⟨b,off,none⟩=false:=by
 obtain ⟨_,h2,cur,t,h3⟩:=hideR_inv h
 exact ⟨h2,frozen_of_row w b _ _ t h3⟩
/-- How trees lie, whatever numbers they bear. -/
def ShF (w:World):F→Nat→Nat→Prop
 | .nil,_,_=>True
 | .cons _ _ d r,b,off=>(∃ z,w.cell? ⟨b,off,none⟩=some (.int .i64 z))∧(∃ z,w.cell? ⟨b,off+1,none⟩=some (.int .i64 z))∧(∃ a l c,w.cell? ⟨b,off+2,none⟩=some (.slice a l c)∧d.len=l∧l≤9223372036854775807∧(l=0∨∃ b' o',a=some ⟨b',o',none⟩∧ShF w d b' o'))∧ShF w r b (off+3)
def ShS (w:World) (a:Option Addr) (l:Nat) (f:F):Prop:=f.len=l∧l≤9223372036854775807∧(l=0∨∃ b o,a=some ⟨b,o,none⟩∧ShF w f b o)
theorem InF.sh {w:World} (f:F):∀ b off,InF w f b off→ShF w f b off:=by
 induction f with
 | nil=>intro b off _;trivial
 | cons k n d r ihd ihr =>
  intro b off h
  obtain ⟨⟨a,l,c,h0,h1,h2,h3,h4,h5⟩,hr⟩:=h
  refine ⟨⟨k,h0⟩,⟨n,h1⟩,⟨a,l,c,h2,h3,h4,?_⟩,ihr _ _ hr⟩
  rcases h5 with h5|⟨b',o',e,h5⟩
  ·
   exact .inl h5
  ·
   exact .inr ⟨b',o',e,ihd _ _ h5⟩
theorem SlF.sh {w:World} {f:F} {a:Option Addr} {l:Nat} (h:SlF w a l f):ShS w a l f:=by
 obtain ⟨h1,h2,h3⟩:=h
 refine ⟨h1,h2,?_⟩
 rcases h3 with h3|⟨b,o,e,h3⟩
 ·
  exact .inl h3
 ·
  exact .inr ⟨b,o,e,h3.sh⟩
theorem ShF.like {w u:World} (hk:CLk w u) (f:F):∀ b off,ShF w f b off→ShF u f b off:=by
 induction f with
 | nil=>intro b off _;trivial
 | cons k n d r ihd ihr =>
  intro b off h
  obtain ⟨h0,h1,⟨a,l,c,h2,h3,h4,h5⟩,hr⟩:=h
  refine ⟨hk.int h0,hk.int h1,⟨a,l,c,hk.slice h2,h3,h4,?_⟩,ihr _ _ hr⟩
  rcases h5 with h5|⟨b',o',e,h5⟩
  ·
   exact .inl h5
  ·
   exact .inr ⟨b',o',e,ihd _ _ h5⟩
theorem ShS.like {w u:World} {f:F} {a:Option Addr} {l:Nat} (h:ShS w a l f) (hk:CLk w u):ShS u a l f:=by
 obtain ⟨h1,h2,h3⟩:=h
 refine ⟨h1,h2,?_⟩
 rcases h3 with h3|⟨b,o,e,h3⟩
 ·
  exact .inl h3
 ·
  exact .inr ⟨b,o,e,h3.like hk⟩
/-- How a row of numbers lies. -/
def ShI (w:World) (k:IntKind) (a:Option Addr) (l:Nat):Prop:=l≤9223372036854775807∧(l=0∨∃ b o,a=some ⟨b,o,none⟩∧∀ i,i < l→∃ z,w.cell? ⟨b,o+i,none⟩=some (.int k z))
theorem ShI.like {w u:World} {k:IntKind} {a:Option Addr} {l:Nat} (h:ShI w k a l) (hk:CLk w u):ShI u k a l:=by
 obtain ⟨h1,h2⟩:=h
 refine ⟨h1,?_⟩
 rcases h2 with h2|⟨b,o,e,h2⟩
 ·
  exact .inl h2
 ·
  exact .inr ⟨b,o,e,fun i hi=>hk.int (h2 i hi)⟩
def ShN (w:World) (k:IntKind) (a:Option Addr) (l n:Nat):Prop:=ShI w k a l∧l=n
theorem ShN.like {w u:World} {k:IntKind} {a:Option Addr} {l n:Nat} (h:ShN w k a l n) (hk:CLk w u):ShN u k a l n:=⟨h.1.like hk,h.2⟩
theorem RdB.sh {w:World} {a:Option Addr} {l:Nat} {zs:List Int} (h:RdB w a l zs):ShI w .u8 a l:=by
 obtain ⟨⟨h1,h2⟩,h3,h4⟩:=h
 refine ⟨h4,?_⟩
 rcases h2 with h2|⟨b,o,e,h2⟩
 ·
  exact .inl h2
 ·
  exact .inr ⟨b,o,e,fun i hi=>⟨_,h2 i hi⟩⟩
set_option maxRecDepth 8000 in
set_option maxHeartbeats 2000000 in
theorem mkB (lo hi:Nat) (a:Option Addr) (l c:Nat) (k0:Int) (w:World) (h:ShI (hideR w lo hi) .u8 a l) (hk0:0≤k0) (hk1:k0+4 * (l:Nat)≤4611686018427387904) :
  Calls Tryz.prog 16 #[.slice a l c,.int .i64 k0] w fun e u=>∃ k':Int,e = .returned (.int .i64 k')∧k0≤k'∧k'≤k0+4 * (l:Nat)∧Mk lo hi w u:=by
 obtain ⟨hl,hx⟩:=h
 by_cases hl0:l=0
 ·
  subst hl0
  clear hx
  go_enter Tryz.func16,Tryz.ntmps16
  go_wp2
  refine wp_loop_rounds 1 ?_
  rw[rounds_succ]
  go_wp2
  go_ret
  exact ⟨k0,rfl,Int.le_refl _,by omega,Mk.refl _ _ _⟩
 obtain ⟨b,o,rfl,hin⟩:∃ b o,a=some ⟨b,o,none⟩∧∀ i,i < l→∃ z,(hideR w lo hi).cell? ⟨b,o+i,none⟩=some (.int .u8 z):=by
  rcases hx with h|h
  ·
   exact absurd h hl0
  ·
   exact h
 have IN:Hid (∀ i,i < l→∃ z,(hideR w lo hi).cell? ⟨b,o+i,none⟩=some (.int .u8 z)):=hin
 clear hin hx
 go_enter Tryz.func16,Tryz.ntmps16
 go_wp2
 go_loopw [1,5] (fun v i wr=>∃ (j:Nat),j≤l∧i = .int .i64 j∧v = .int .i64 (k0+(j:Int))∧Hid (Mk lo hi w wr)) (fun _ i _=>l - (intOf i).toNat)
 case atStart=>exact ⟨0,Nat.zero_le _,rfl,by simp,Mk.refl _ _ _⟩
 case round =>
  obtain ⟨j,hj,rfl,rfl,HR⟩:=hrel
  by_cases hlt:j < l
  ·
   obtain ⟨z,d0⟩:=HR.out.like.int (IN.out j hlt)
   have dv:=(hideR_open d0).1
   have ff:=(hideR_open d0).2
   have hj0:(0:Int)≤(j:Int):=by omega
   have hj1:(j:Int) < (l:Int):=by omega
   have M1:Hid (Mk lo hi w (wr.setCell ⟨b,o+j,none⟩ (.int .u8 (IntKind.u8.wrap (k0+(j:Int)))))):=HR.out.trans (Mk.set d0 _)
   clear HR d0
   go_wp2
   go_roundw
   case rel=>exact ⟨j+1,by omega,by go_num,by go_num,M1.out⟩
   case measure=>simp [intOf];omega
  ·
   obtain rfl:j=l:=by omega
   go_wp2
   go_ret
   exact ⟨_,rfl,by omega,by omega,HR.out⟩
set_option maxRecDepth 8000 in
set_option maxHeartbeats 4000000 in
theorem mkS (lo hi m:Nat):∀ (xs:F) (a:Option Addr) (l c:Nat) (k0:Int) (w:World),xs.size < m→ShS (hideR w lo hi) a l xs→0≤k0→k0+4 * xs.size≤4611686018427387904 →
  Calls Tryz.prog 110 #[.slice a l c,.int .i64 k0] w fun e u=>∃ k':Int,e = .returned (.int .i64 k')∧k0≤k'∧k'≤k0+4 * xs.size∧Mk lo hi w u:=by
 induction m with
 | zero=>intro xs a l c k0 w hm;exact absurd hm (Nat.not_lt_zero _)
 | succ m ih =>
 intro xs a l c k0 w hm h hk0 hk1
 obtain ⟨hfl,hl,hx⟩:=h
 by_cases hl0:l=0
 ·
  subst hl0
  clear hx ih
  go_enter Tryz.func110,Tryz.ntmps110
  go_wp2
  refine wp_loop_rounds 1 ?_
  rw[rounds_succ]
  go_wp2
  go_ret
  exact ⟨k0,rfl,Int.le_refl _,by omega,Mk.refl _ _ _⟩
 obtain ⟨b,o,rfl,hin⟩:∃ b o,a=some ⟨b,o,none⟩∧ShF (hideR w lo hi) xs b o:=by
  rcases hx with h|h
  ·
   exact absurd h hl0
  ·
   exact h
 have IH:Hid _:=ih
 have IN:Hid (ShF (hideR w lo hi) xs b o):=hin
 clear hin hx ih
 go_enter Tryz.func110,Tryz.ntmps110
 go_wp2
 go_loopw [1,5] (fun v i wr=>∃ (j:Nat) (R:F) (kj:Int),j≤l∧i = .int .i64 j∧v = .int .i64 kj∧k0≤kj∧kj+4 * (R.size:Nat)≤k0+4 * (xs.size:Nat)∧R.len+j=l∧R.size≤xs.size∧Hid (ShF (hideR wr lo hi) R b (o+j * 3)∧Mk lo hi w wr)) (fun _ i _=>l - (intOf i).toNat)
 case atStart=>exact ⟨0,xs,k0,Nat.zero_le _,rfl,rfl,Int.le_refl _,Int.le_refl _,by omega,Nat.le_refl _,by simpa using IN.out,Mk.refl _ _ _⟩
 case round =>
  clear IN
  obtain ⟨j,R,kj,hj,rfl,rfl,hkj,hks,hRl,hRs,HR⟩:=hrel
  by_cases hlt:j < l
  ·
   obtain ⟨q,hq⟩:∃ q,R.len=q+1:=⟨R.len - 1,by omega⟩
   obtain ⟨kk,nn,x,R',rfl,hR'⟩:=F.cons_of_len hq
   obtain ⟨hS,hM⟩:=HR.out
   simp only[F.size] at hks hRs
   have e3:o+j * 3+3=o+(j+1) * 3:=by omega
   have hj0:(0:Int)≤(j:Int):=by omega
   have hj1:(j:Int) < (l:Int):=by omega
   have ST:Hid (ShF (hideR wr lo hi) (.cons kk nn x R') b (o+j * 3)∧Mk lo hi w wr):=⟨hS,hM⟩
   clear hS hM HR
   obtain ⟨⟨z0,d0⟩,⟨z1,d1⟩,⟨a2,l2,c2,d2,s2⟩,hrest⟩:=ST.out.1
   have m0_0:=Mk.set (lo:=lo) (hi:=hi) d0 (kj)
   obtain ⟨y0_1,e0_1⟩:=CLk.int m0_0.like ⟨_,d1⟩
   have m0_1:=Mk.set (lo:=lo) (hi:=hi) e0_1 (kj+1)
   have m0_1:=m0_0.trans m0_1
   have ff0:=(hideR_open d0).2
   have gg0:=(hideR_open d0).1
   have ff1:=(hideR_open d1).2
   have gg1:=(hideR_open d1).1
   have dv:=(hideR_open (m0_1.like.slice d2)).1
   have dw:=(hideR_open d2).1
   have CC:Hid _:=IH.out x a2 l2 c2 (kj+1+1) ((wr.setCell ⟨b,o+j * 3,none⟩ (.int .i64 (kj))).setCell ⟨b,o+j * 3+1,none⟩ (.int .i64 (kj+1))) (by omega) (ShS.like s2 m0_1.like) (by omega) (by omega)
   have S2:Hid (ShF (hideR ((wr.setCell ⟨b,o+j * 3,none⟩ (.int .i64 (kj))).setCell ⟨b,o+j * 3+1,none⟩ (.int .i64 (kj+1))) lo hi) (.cons kk nn x R') b (o+j * 3)∧Mk lo hi w ((wr.setCell ⟨b,o+j * 3,none⟩ (.int .i64 (kj))).setCell ⟨b,o+j * 3+1,none⟩ (.int .i64 (kj+1)))):=⟨ShF.like m0_1.like _ _ _ ST.out.1,ST.out.2.trans m0_1⟩
   clear d0 d1 d2 hrest ST m0_0 m0_1 e0_1 s2
   go_wp2_with fail
   refine Calls.mono CC.out ?_
   rintro e v0 ⟨kn0,he,hka0,hkb0,hmk⟩
   subst he
   have ST:Hid (ShF (hideR v0 lo hi) (.cons kk nn x R') b (o+j * 3)∧Mk lo hi w v0):=⟨ShF.like hmk.like _ _ _ S2.out.1,S2.out.2.trans hmk⟩
   skip
   clear CC hmk S2 dv dw ff0 gg0 ff1 gg1
   have FIN:Hid (ShF (hideR v0 lo hi) R' b (o+(j+1) * 3)∧Mk lo hi w v0):=⟨by rw[← e3];exact ST.out.1.2.2.2,ST.out.2⟩
   clear ST
   simp only[]
   go_wp2
   go_roundw
   case rel=>exact ⟨j+1,R',kn0,by omega,by go_num,rfl,by omega,by omega,by omega,by omega,FIN.out.1,FIN.out.2⟩
   case measure=>simp [intOf];omega
  ·
   obtain rfl:j=l:=by omega
   have FW:Hid (Mk lo hi w wr):=HR.out.2
   clear HR
   go_wp2
   go_ret
   exact ⟨kj,rfl,hkj,by omega,FW.out⟩
def ElW (w:World) (x:(List Int)) (b off:Nat):Prop:=(∃ a l c,w.cell? ⟨b,off,none⟩=some (.slice a l c)∧ShN w .u8 a l x.length)
def ShW (w:World):List (List Int)→Nat→Nat→Prop
 | [],_,_=>True
 | x::r,b,off=>ElW w x b off∧ShW w r b (off+1)
def ShLW (w:World) (a:Option Addr) (l:Nat) (xs:List (List Int)):Prop:=xs.length=l∧l≤9223372036854775807∧(l=0∨∃ b o,a=some ⟨b,o,none⟩∧ShW w xs b o)
theorem ShW.like {w u:World} (hk:CLk w u) (xs:List (List Int)):∀ b off,ShW w xs b off→ShW u xs b off:=by
 induction xs with
 | nil=>intro b off _;trivial
 | cons x r ih =>
  intro b off h
  obtain ⟨⟨a0,l0,c0,h0,s0⟩,hr⟩:=h
  exact ⟨⟨a0,l0,c0,hk.slice h0,s0.like hk⟩,ih _ _ hr⟩
theorem ShLW.like {w u:World} {xs:List (List Int)} {a:Option Addr} {l:Nat} (h:ShLW w a l xs) (hk:CLk w u):ShLW u a l xs:=by
 obtain ⟨h1,h2,h3⟩:=h
 refine ⟨h1,h2,?_⟩
 rcases h3 with h3|⟨b,o,e,h3⟩
 ·
  exact .inl h3
 ·
  exact .inr ⟨b,o,e,ShW.like hk _ _ _ h3⟩
theorem InSS.sh {w:World} (xs:List (List Int)):∀ b off,InSS w w xs b off→ShW w xs b off:=by
 induction xs with
 | nil=>intro b off _;trivial
 | cons x r ih =>
  intro b off h
  obtain ⟨⟨a,n,c,h0,h1⟩,hr⟩:=h
  exact ⟨⟨a,n,c,h0,⟨RdB.sh h1,(h1).1.1.symm⟩⟩,ih _ _ hr⟩
theorem SlSS.sh {w:World} {xs:List (List Int)} {a:Option Addr} {l:Nat} (h:SlSS w a l xs):ShLW w a l xs:=by
 obtain ⟨h1,h2,h3⟩:=h
 refine ⟨h1,h2,?_⟩
 rcases h3 with h3|⟨b,o,e,h3⟩
 ·
  exact .inl h3
 ·
  exact .inr ⟨b,o,e,h3.sh⟩
set_option maxRecDepth 8000 in
set_option maxHeartbeats 4000000 in
theorem mkW (lo hi:Nat) (xs:List (List Int)) (a:Option Addr) (l c:Nat) (k0:Int) (w:World) (h:ShLW (hideR w lo hi) a l xs) (hk0:0≤k0) (hk1:k0+4 * (szW xs:Nat)≤4611686018427387904) :
  Calls Tryz.prog 111 #[.slice a l c,.int .i64 k0] w fun e u=>∃ k':Int,e = .returned (.int .i64 k')∧k0≤k'∧k'≤k0+4 * (szW xs:Nat)∧Mk lo hi w u:=by
 obtain ⟨hfl,hl,hx⟩:=h
 by_cases hl0:l=0
 ·
  subst hl0
  clear hx
  go_enter Tryz.func111,Tryz.ntmps111
  go_wp2
  refine wp_loop_rounds 1 ?_
  rw[rounds_succ]
  go_wp2
  go_ret
  exact ⟨k0,rfl,Int.le_refl _,by omega,Mk.refl _ _ _⟩
 obtain ⟨b,o,rfl,hin⟩:∃ b o,a=some ⟨b,o,none⟩∧ShW (hideR w lo hi) xs b o:=by
  rcases hx with h|h
  ·
   exact absurd h hl0
  ·
   exact h
 have IN:Hid (ShW (hideR w lo hi) xs b o):=hin
 clear hin hx
 go_enter Tryz.func111,Tryz.ntmps111
 go_wp2
 go_loopw [1,5] (fun v i wr=>∃ (j:Nat) (R:List (List Int)) (kj:Int),j≤l∧i = .int .i64 j∧v = .int .i64 kj∧k0≤kj∧kj+4 * (szW R:Nat)≤k0+4 * (szW xs:Nat)∧R.length+j=l∧szW R≤szW xs∧Hid (ShW (hideR wr lo hi) R b (o+j * 1)∧Mk lo hi w wr)) (fun _ i _=>l - (intOf i).toNat)
 case atStart=>exact ⟨0,xs,k0,Nat.zero_le _,rfl,rfl,Int.le_refl _,Int.le_refl _,by omega,Nat.le_refl _,by simpa using IN.out,Mk.refl _ _ _⟩
 case round =>
  clear IN
  obtain ⟨j,R,kj,hj,rfl,rfl,hkj,hks,hRl,hRs,HR⟩:=hrel
  by_cases hlt:j < l
  ·
   obtain ⟨x,R',rfl⟩:∃ x R',R=x::R':=by
    cases R with
    | nil=>simp at hRl;omega
    | cons x R'=>exact ⟨x,R',rfl⟩
   simp only[List.length_cons] at hRl
   obtain ⟨hS,hM⟩:=HR.out
   simp only[szW] at hks hRs
   have e3:o+j * 1+1=o+(j+1) * 1:=by omega
   have hj0:(0:Int)≤(j:Int):=by omega
   have hj1:(j:Int) < (l:Int):=by omega
   have ST:Hid (ShW (hideR wr lo hi) (x::R') b (o+j * 1)∧Mk lo hi w wr):=⟨hS,hM⟩
   clear hS hM HR
   obtain ⟨⟨a0,l0,c0,d0,s0⟩,hrest⟩:=ST.out.1
   simp only[Nat.mul_one] at d0
   have dv:=(hideR_open d0).1
   have HQ0:Hid _:=s0.2
   have CC:Hid _:=mkB lo hi a0 l0 c0 (kj) wr (s0).1 (by omega) (by have:=(s0).2;omega)
   have S2:Hid (ShW (hideR wr lo hi) (x::R') b (o+j * 1)∧Mk lo hi w wr):=⟨ShW.like (Mk.refl lo hi wr).like _ _ _ ST.out.1,ST.out.2.trans (Mk.refl lo hi wr)⟩
   clear d0 hrest ST   s0
   go_wp2_with fail
   refine Calls.mono CC.out ?_
   rintro e v0 ⟨kn0,he,hka0,hkb0,hmk⟩
   subst he
   have ST:Hid (ShW (hideR v0 lo hi) (x::R') b (o+j * 1)∧Mk lo hi w v0):=⟨ShW.like hmk.like _ _ _ S2.out.1,S2.out.2.trans hmk⟩
   rw[HQ0.out] at hkb0
   clear CC hmk S2 dv HQ0
   have FIN:Hid (ShW (hideR v0 lo hi) R' b (o+(j+1) * 1)∧Mk lo hi w v0):=⟨by rw[← e3];exact ST.out.1.2,ST.out.2⟩
   clear ST
   simp only[]
   go_wp2
   go_roundw
   case rel=>exact ⟨j+1,R',kn0,by omega,by go_num,rfl,by omega,by omega,by omega,by omega,FIN.out.1,FIN.out.2⟩
   case measure=>simp [intOf];omega
  ·
   obtain rfl:j=l:=by omega
   have FW:Hid (Mk lo hi w wr):=HR.out.2
   clear HR
   go_wp2
   go_ret
   exact ⟨kj,rfl,hkj,by omega,FW.out⟩
def ElCo (w:World) (x:Co) (b off:Nat):Prop:=(∃ a l c,w.cell? ⟨b,off,none⟩=some (.slice a l c)∧ShN w .u8 a l x.name.length)∧(∃ a l c,w.cell? ⟨b,off+1,none⟩=some (.slice a l c)∧ShS w a l x.flds)
def ShCo (w:World):List Co→Nat→Nat→Prop
 | [],_,_=>True
 | x::r,b,off=>ElCo w x b off∧ShCo w r b (off+2)
def ShLCo (w:World) (a:Option Addr) (l:Nat) (xs:List Co):Prop:=xs.length=l∧l≤9223372036854775807∧(l=0∨∃ b o,a=some ⟨b,o,none⟩∧ShCo w xs b o)
theorem ShCo.like {w u:World} (hk:CLk w u) (xs:List Co):∀ b off,ShCo w xs b off→ShCo u xs b off:=by
 induction xs with
 | nil=>intro b off _;trivial
 | cons x r ih =>
  intro b off h
  obtain ⟨⟨⟨a0,l0,c0,h0,s0⟩,⟨a1,l1,c1,h1,s1⟩⟩,hr⟩:=h
  exact ⟨⟨⟨a0,l0,c0,hk.slice h0,s0.like hk⟩,⟨a1,l1,c1,hk.slice h1,s1.like hk⟩⟩,ih _ _ hr⟩
theorem ShLCo.like {w u:World} {xs:List Co} {a:Option Addr} {l:Nat} (h:ShLCo w a l xs) (hk:CLk w u):ShLCo u a l xs:=by
 obtain ⟨h1,h2,h3⟩:=h
 refine ⟨h1,h2,?_⟩
 rcases h3 with h3|⟨b,o,e,h3⟩
 ·
  exact .inl h3
 ·
  exact .inr ⟨b,o,e,ShCo.like hk _ _ _ h3⟩
theorem InCo.sh {w:World} (xs:List Co):∀ b off,InCo w w xs b off→ShCo w xs b off:=by
 induction xs with
 | nil=>intro b off _;trivial
 | cons x r ih =>
  intro b off h
  obtain ⟨⟨a,n,c,a',l',c',h0,h1,h2,h3⟩,hr⟩:=h
  exact ⟨⟨⟨a,n,c,h0,⟨RdB.sh h2,(h2).1.1.symm⟩⟩,⟨a',l',c',h1,h3.sh⟩⟩,ih _ _ hr⟩
theorem SlCo.sh {w:World} {xs:List Co} {a:Option Addr} {l:Nat} (h:SlCo w a l xs):ShLCo w a l xs:=by
 obtain ⟨h1,h2,h3⟩:=h
 refine ⟨h1,h2,?_⟩
 rcases h3 with h3|⟨b,o,e,h3⟩
 ·
  exact .inl h3
 ·
  exact .inr ⟨b,o,e,h3.sh⟩
set_option maxRecDepth 8000 in
set_option maxHeartbeats 4000000 in
theorem mkCo (lo hi:Nat) (xs:List Co) (a:Option Addr) (l c:Nat) (k0:Int) (w:World) (h:ShLCo (hideR w lo hi) a l xs) (hk0:0≤k0) (hk1:k0+4 * (szCos xs:Nat)≤4611686018427387904) :
  Calls Tryz.prog 72 #[.slice a l c,.int .i64 k0] w fun e u=>∃ k':Int,e = .returned (.int .i64 k')∧k0≤k'∧k'≤k0+4 * (szCos xs:Nat)∧Mk lo hi w u:=by
 obtain ⟨hfl,hl,hx⟩:=h
 by_cases hl0:l=0
 ·
  subst hl0
  clear hx
  go_enter Tryz.func72,Tryz.ntmps72
  go_wp2
  refine wp_loop_rounds 1 ?_
  rw[rounds_succ]
  go_wp2
  go_ret
  exact ⟨k0,rfl,Int.le_refl _,by omega,Mk.refl _ _ _⟩
 obtain ⟨b,o,rfl,hin⟩:∃ b o,a=some ⟨b,o,none⟩∧ShCo (hideR w lo hi) xs b o:=by
  rcases hx with h|h
  ·
   exact absurd h hl0
  ·
   exact h
 have IN:Hid (ShCo (hideR w lo hi) xs b o):=hin
 clear hin hx
 go_enter Tryz.func72,Tryz.ntmps72
 go_wp2
 go_loopw [1,5] (fun v i wr=>∃ (j:Nat) (R:List Co) (kj:Int),j≤l∧i = .int .i64 j∧v = .int .i64 kj∧k0≤kj∧kj+4 * (szCos R:Nat)≤k0+4 * (szCos xs:Nat)∧R.length+j=l∧szCos R≤szCos xs∧Hid (ShCo (hideR wr lo hi) R b (o+j * 2)∧Mk lo hi w wr)) (fun _ i _=>l - (intOf i).toNat)
 case atStart=>exact ⟨0,xs,k0,Nat.zero_le _,rfl,rfl,Int.le_refl _,Int.le_refl _,by omega,Nat.le_refl _,by simpa using IN.out,Mk.refl _ _ _⟩
 case round =>
  clear IN
  obtain ⟨j,R,kj,hj,rfl,rfl,hkj,hks,hRl,hRs,HR⟩:=hrel
  by_cases hlt:j < l
  ·
   obtain ⟨x,R',rfl⟩:∃ x R',R=x::R':=by
    cases R with
    | nil=>simp at hRl;omega
    | cons x R'=>exact ⟨x,R',rfl⟩
   simp only[List.length_cons] at hRl
   obtain ⟨hS,hM⟩:=HR.out
   simp only[szCos,szCo] at hks hRs
   have e3:o+j * 2+2=o+(j+1) * 2:=by omega
   have hj0:(0:Int)≤(j:Int):=by omega
   have hj1:(j:Int) < (l:Int):=by omega
   have ST:Hid (ShCo (hideR wr lo hi) (x::R') b (o+j * 2)∧Mk lo hi w wr):=⟨hS,hM⟩
   clear hS hM HR
   obtain ⟨⟨⟨a0,l0,c0,d0,s0⟩,⟨a1,l1,c1,d1,s1⟩⟩,hrest⟩:=ST.out.1
   have dv:=(hideR_open d0).1
   have HQ0:Hid _:=s0.2
   have CC:Hid _:=mkB lo hi a0 l0 c0 (kj) wr (s0).1 (by omega) (by have:=(s0).2;omega)
   have S2:Hid (ShCo (hideR wr lo hi) (x::R') b (o+j * 2)∧Mk lo hi w wr):=⟨ShCo.like (Mk.refl lo hi wr).like _ _ _ ST.out.1,ST.out.2.trans (Mk.refl lo hi wr)⟩
   clear d0 d1 hrest ST   s0 s1
   go_wp2_with fail
   refine Calls.mono CC.out ?_
   rintro e v0 ⟨kn0,he,hka0,hkb0,hmk⟩
   subst he
   have ST:Hid (ShCo (hideR v0 lo hi) (x::R') b (o+j * 2)∧Mk lo hi w v0):=⟨ShCo.like hmk.like _ _ _ S2.out.1,S2.out.2.trans hmk⟩
   rw[HQ0.out] at hkb0
   clear CC hmk S2 dv HQ0
   obtain ⟨⟨⟨a0,l0,c0,d0,s0⟩,⟨a1,l1,c1,d1,s1⟩⟩,hrest⟩:=ST.out.1
   have dv:=(hideR_open d1).1
   have CC:Hid _:=mkS lo hi (x.flds.size+1) x.flds a1 l1 c1 (kn0) v0 (by omega) s1 (by omega) (by omega)
   have S2:Hid (ShCo (hideR v0 lo hi) (x::R') b (o+j * 2)∧Mk lo hi w v0):=⟨ShCo.like (Mk.refl lo hi v0).like _ _ _ ST.out.1,ST.out.2.trans (Mk.refl lo hi v0)⟩
   clear d0 d1 hrest ST   s0 s1
   simp only[]
   go_wp2_with fail
   refine Calls.mono CC.out ?_
   rintro e v1 ⟨kn1,he,hka1,hkb1,hmk⟩
   subst he
   have ST:Hid (ShCo (hideR v1 lo hi) (x::R') b (o+j * 2)∧Mk lo hi w v1):=⟨ShCo.like hmk.like _ _ _ S2.out.1,S2.out.2.trans hmk⟩
   skip
   clear CC hmk S2 dv
   have FIN:Hid (ShCo (hideR v1 lo hi) R' b (o+(j+1) * 2)∧Mk lo hi w v1):=⟨by rw[← e3];exact ST.out.1.2,ST.out.2⟩
   clear ST
   simp only[]
   go_wp2
   go_roundw
   case rel=>exact ⟨j+1,R',kn1,by omega,by go_num,rfl,by omega,by omega,by omega,by omega,FIN.out.1,FIN.out.2⟩
   case measure=>simp [intOf];omega
  ·
   obtain rfl:j=l:=by omega
   have FW:Hid (Mk lo hi w wr):=HR.out.2
   clear HR
   go_wp2
   go_ret
   exact ⟨kj,rfl,hkj,by omega,FW.out⟩
def ElDa (w:World) (x:Da) (b off:Nat):Prop:=(∃ a l c,w.cell? ⟨b,off,none⟩=some (.slice a l c)∧ShN w .u8 a l x.name.length)∧(∃ z,w.cell? ⟨b,off+1,none⟩=some (.int .i64 z))∧(∃ a l c,w.cell? ⟨b,off+2,none⟩=some (.slice a l c)∧ShLCo w a l x.cons)
def ShDa (w:World):List Da→Nat→Nat→Prop
 | [],_,_=>True
 | x::r,b,off=>ElDa w x b off∧ShDa w r b (off+3)
def ShLDa (w:World) (a:Option Addr) (l:Nat) (xs:List Da):Prop:=xs.length=l∧l≤9223372036854775807∧(l=0∨∃ b o,a=some ⟨b,o,none⟩∧ShDa w xs b o)
theorem ShDa.like {w u:World} (hk:CLk w u) (xs:List Da):∀ b off,ShDa w xs b off→ShDa u xs b off:=by
 induction xs with
 | nil=>intro b off _;trivial
 | cons x r ih =>
  intro b off h
  obtain ⟨⟨⟨a0,l0,c0,h0,s0⟩,h1,⟨a2,l2,c2,h2,s2⟩⟩,hr⟩:=h
  exact ⟨⟨⟨a0,l0,c0,hk.slice h0,s0.like hk⟩,hk.int h1,⟨a2,l2,c2,hk.slice h2,s2.like hk⟩⟩,ih _ _ hr⟩
theorem ShLDa.like {w u:World} {xs:List Da} {a:Option Addr} {l:Nat} (h:ShLDa w a l xs) (hk:CLk w u):ShLDa u a l xs:=by
 obtain ⟨h1,h2,h3⟩:=h
 refine ⟨h1,h2,?_⟩
 rcases h3 with h3|⟨b,o,e,h3⟩
 ·
  exact .inl h3
 ·
  exact .inr ⟨b,o,e,ShDa.like hk _ _ _ h3⟩
theorem InDa.sh {w:World} (xs:List Da):∀ b off,InDa w w xs b off→ShDa w xs b off:=by
 induction xs with
 | nil=>intro b off _;trivial
 | cons x r ih =>
  intro b off h
  obtain ⟨⟨a,n,c,a',l',c',h0,h1,h2,h3,h4⟩,hr⟩:=h
  exact ⟨⟨⟨a,n,c,h0,⟨RdB.sh h3,(h3).1.1.symm⟩⟩,⟨_,h1⟩,⟨a',l',c',h2,h4.sh⟩⟩,ih _ _ hr⟩
theorem SlDa.sh {w:World} {xs:List Da} {a:Option Addr} {l:Nat} (h:SlDa w a l xs):ShLDa w a l xs:=by
 obtain ⟨h1,h2,h3⟩:=h
 refine ⟨h1,h2,?_⟩
 rcases h3 with h3|⟨b,o,e,h3⟩
 ·
  exact .inl h3
 ·
  exact .inr ⟨b,o,e,h3.sh⟩
set_option maxRecDepth 8000 in
set_option maxHeartbeats 4000000 in
theorem mkDa (lo hi:Nat) (xs:List Da) (a:Option Addr) (l c:Nat) (k0:Int) (w:World) (h:ShLDa (hideR w lo hi) a l xs) (hk0:0≤k0) (hk1:k0+4 * (szDas xs:Nat)≤4611686018427387904) :
  Calls Tryz.prog 34 #[.slice a l c,.int .i64 k0] w fun e u=>∃ k':Int,e = .returned (.int .i64 k')∧k0≤k'∧k'≤k0+4 * (szDas xs:Nat)∧Mk lo hi w u:=by
 obtain ⟨hfl,hl,hx⟩:=h
 by_cases hl0:l=0
 ·
  subst hl0
  clear hx
  go_enter Tryz.func34,Tryz.ntmps34
  go_wp2
  refine wp_loop_rounds 1 ?_
  rw[rounds_succ]
  go_wp2
  go_ret
  exact ⟨k0,rfl,Int.le_refl _,by omega,Mk.refl _ _ _⟩
 obtain ⟨b,o,rfl,hin⟩:∃ b o,a=some ⟨b,o,none⟩∧ShDa (hideR w lo hi) xs b o:=by
  rcases hx with h|h
  ·
   exact absurd h hl0
  ·
   exact h
 have IN:Hid (ShDa (hideR w lo hi) xs b o):=hin
 clear hin hx
 go_enter Tryz.func34,Tryz.ntmps34
 go_wp2
 go_loopw [1,5] (fun v i wr=>∃ (j:Nat) (R:List Da) (kj:Int),j≤l∧i = .int .i64 j∧v = .int .i64 kj∧k0≤kj∧kj+4 * (szDas R:Nat)≤k0+4 * (szDas xs:Nat)∧R.length+j=l∧szDas R≤szDas xs∧Hid (ShDa (hideR wr lo hi) R b (o+j * 3)∧Mk lo hi w wr)) (fun _ i _=>l - (intOf i).toNat)
 case atStart=>exact ⟨0,xs,k0,Nat.zero_le _,rfl,rfl,Int.le_refl _,Int.le_refl _,by omega,Nat.le_refl _,by simpa using IN.out,Mk.refl _ _ _⟩
 case round =>
  clear IN
  obtain ⟨j,R,kj,hj,rfl,rfl,hkj,hks,hRl,hRs,HR⟩:=hrel
  by_cases hlt:j < l
  ·
   obtain ⟨x,R',rfl⟩:∃ x R',R=x::R':=by
    cases R with
    | nil=>simp at hRl;omega
    | cons x R'=>exact ⟨x,R',rfl⟩
   simp only[List.length_cons] at hRl
   obtain ⟨hS,hM⟩:=HR.out
   simp only[szDas,szDa] at hks hRs
   have e3:o+j * 3+3=o+(j+1) * 3:=by omega
   have hj0:(0:Int)≤(j:Int):=by omega
   have hj1:(j:Int) < (l:Int):=by omega
   have ST:Hid (ShDa (hideR wr lo hi) (x::R') b (o+j * 3)∧Mk lo hi w wr):=⟨hS,hM⟩
   clear hS hM HR
   obtain ⟨⟨⟨a0,l0,c0,d0,s0⟩,⟨z1,d1⟩,⟨a2,l2,c2,d2,s2⟩⟩,hrest⟩:=ST.out.1
   have dv:=(hideR_open d0).1
   have HQ0:Hid _:=s0.2
   have CC:Hid _:=mkB lo hi a0 l0 c0 (kj) wr (s0).1 (by omega) (by have:=(s0).2;omega)
   have S2:Hid (ShDa (hideR wr lo hi) (x::R') b (o+j * 3)∧Mk lo hi w wr):=⟨ShDa.like (Mk.refl lo hi wr).like _ _ _ ST.out.1,ST.out.2.trans (Mk.refl lo hi wr)⟩
   clear d0 d1 d2 hrest ST   s0 s2
   go_wp2_with fail
   refine Calls.mono CC.out ?_
   rintro e v0 ⟨kn0,he,hka0,hkb0,hmk⟩
   subst he
   have ST:Hid (ShDa (hideR v0 lo hi) (x::R') b (o+j * 3)∧Mk lo hi w v0):=⟨ShDa.like hmk.like _ _ _ S2.out.1,S2.out.2.trans hmk⟩
   rw[HQ0.out] at hkb0
   clear CC hmk S2 dv HQ0
   obtain ⟨⟨⟨a0,l0,c0,d0,s0⟩,⟨z1,d1⟩,⟨a2,l2,c2,d2,s2⟩⟩,hrest⟩:=ST.out.1
   have m1_0:=Mk.set (lo:=lo) (hi:=hi) d1 (kn0)
   have ff1:=(hideR_open d1).2
   have gg1:=(hideR_open d1).1
   have dv:=(hideR_open (m1_0.like.slice d2)).1
   have dw:=(hideR_open d2).1
   have CC:Hid _:=mkCo lo hi x.cons a2 l2 c2 (kn0+1) (v0.setCell ⟨b,o+j * 3+1,none⟩ (.int .i64 (kn0))) (s2.like m1_0.like) (by omega) (by omega)
   have S2:Hid (ShDa (hideR (v0.setCell ⟨b,o+j * 3+1,none⟩ (.int .i64 (kn0))) lo hi) (x::R') b (o+j * 3)∧Mk lo hi w (v0.setCell ⟨b,o+j * 3+1,none⟩ (.int .i64 (kn0)))):=⟨ShDa.like m1_0.like _ _ _ ST.out.1,ST.out.2.trans m1_0⟩
   clear d0 d1 d2 hrest ST m1_0  s0 s2
   simp only[]
   go_wp2_with fail
   refine Calls.mono CC.out ?_
   rintro e v1 ⟨kn1,he,hka1,hkb1,hmk⟩
   subst he
   have ST:Hid (ShDa (hideR v1 lo hi) (x::R') b (o+j * 3)∧Mk lo hi w v1):=⟨ShDa.like hmk.like _ _ _ S2.out.1,S2.out.2.trans hmk⟩
   skip
   clear CC hmk S2 dv dw ff1 gg1
   have FIN:Hid (ShDa (hideR v1 lo hi) R' b (o+(j+1) * 3)∧Mk lo hi w v1):=⟨by rw[← e3];exact ST.out.1.2,ST.out.2⟩
   clear ST
   simp only[]
   go_wp2
   go_roundw
   case rel=>exact ⟨j+1,R',kn1,by omega,by go_num,rfl,by omega,by omega,by omega,by omega,FIN.out.1,FIN.out.2⟩
   case measure=>simp [intOf];omega
  ·
   obtain rfl:j=l:=by omega
   have FW:Hid (Mk lo hi w wr):=HR.out.2
   clear HR
   go_wp2
   go_ret
   exact ⟨kj,rfl,hkj,by omega,FW.out⟩
/-- How a list of nodes lies, whatever numbers it bears. -/
def ShGE (w:World):Bool→GE→Nat→Nat→Prop
 | _,.nil,_,_=>True
 | al,.cons hc hv p kids alts rest,b,off=>(al=true→(∃ a l c,w.cell? ⟨b,off,none⟩=some (.slice a l c)∧ShN w .u8 a l hc.length)∧(∃ a l c,w.cell? ⟨b,off+1,none⟩=some (.slice a l c)∧ShLW w a l hv))∧((∃ z,w.cell? ⟨b,off+hdE al,none⟩=some (.int .i64 z))∧(∃ z,w.cell? ⟨b,off+hdE al+1,none⟩=some (.int .i64 z))∧(∃ a l c,w.cell? ⟨b,off+hdE al+2,none⟩=some (.slice a l c)∧ShN w .u8 a l p.name.length)∧(∃ a l c,w.cell? ⟨b,off+hdE al+3,none⟩=some (.slice a l c)∧ShN w .u8 a l p.arg.length)∧(∃ a l c,w.cell? ⟨b,off+hdE al+4,none⟩=some (.slice a l c)∧ShN w .u8 a l p.lit.length)∧(∃ a l c,w.cell? ⟨b,off+hdE al+5,none⟩=some (.slice a l c)∧kids.len=l∧l≤9223372036854775807∧(l=0∨∃ b' o',a=some ⟨b',o',none⟩∧ShGE w false kids b' o'))∧(∃ a l c,w.cell? ⟨b,off+hdE al+6,none⟩=some (.slice a l c)∧alts.len=l∧l≤9223372036854775807∧(l=0∨∃ b' o',a=some ⟨b',o',none⟩∧ShGE w true alts b' o')))∧ShGE w al rest b (off+wdE al)
def ShLE (w:World) (al:Bool) (a:Option Addr) (l:Nat) (g:GE):Prop:=g.len=l∧l≤9223372036854775807∧(l=0∨∃ b o,a=some ⟨b,o,none⟩∧ShGE w al g b o)
theorem InGE.sh {w:World} (g:GE):∀ al b off,InGE w w al g b off→ShGE w al g b off:=by
 induction g with
 | nil=>intro al b off _;trivial
 | cons hc hv p kids alts rest ik ia ir =>
  intro al b off h
  obtain ⟨h0,⟨a1,l1,c1,a2,l2,c2,a3,l3,c3,a4,l4,c4,a5,l5,c5,⟨g0,g1,g2,g3,g4,g5,g6⟩,r1,r2,r3,⟨k1,k2,-,k3⟩,⟨j1,j2,-,j3⟩⟩,hr⟩:=h
  refine ⟨fun ht=>?_,⟨⟨_,g0⟩,⟨_,g1⟩,⟨a1,l1,c1,g2,⟨RdB.sh r1,(r1).1.1.symm⟩⟩,⟨a2,l2,c2,g3,⟨RdB.sh r2,(r2).1.1.symm⟩⟩,⟨a3,l3,c3,g4,⟨RdB.sh r3,(r3).1.1.symm⟩⟩,⟨a4,l4,c4,g5,k1,k2,?_⟩,⟨a5,l5,c5,g6,j1,j2,?_⟩⟩,ir _ _ _ hr⟩
  ·
   rcases h0 with ⟨e,-,-⟩|⟨-,e0,q0,d0,e1,q1,d1,⟨t0,t1⟩,m0,m1⟩
   ·
    rw[e] at ht;cases ht
   ·
    exact ⟨⟨e0,q0,d0,t0,⟨RdB.sh m0,(m0).1.1.symm⟩⟩,⟨e1,q1,d1,t1,m1.1.sh⟩⟩
  ·
   rcases k3 with k3|⟨b',o',e,k3⟩
   ·
    exact .inl k3
   ·
    exact .inr ⟨b',o',e,ik _ _ _ k3⟩
  ·
   rcases j3 with j3|⟨b',o',e,j3⟩
   ·
    exact .inl j3
   ·
    exact .inr ⟨b',o',e,ia _ _ _ j3⟩
theorem SlGE.sh {w:World} {al:Bool} {g:GE} {a:Option Addr} {l c:Nat} (h:SlGE w al a l c g):ShLE w al a l g:=by
 obtain ⟨h1,h2,-,h3⟩:=h
 refine ⟨h1,h2,?_⟩
 rcases h3 with h3|⟨b,o,e,h3⟩
 ·
  exact .inl h3
 ·
  exact .inr ⟨b,o,e,h3.sh⟩
theorem ShGE.like {w u:World} (hk:CLk w u) (g:GE):∀ al b off,ShGE w al g b off→ShGE u al g b off:=by
 induction g with
 | nil=>intro al b off _;trivial
 | cons hc hv p kids alts rest ik ia ir =>
  intro al b off h
  obtain ⟨h0,⟨g0,g1,⟨a1,l1,c1,g2,r1⟩,⟨a2,l2,c2,g3,r2⟩,⟨a3,l3,c3,g4,r3⟩,⟨a4,l4,c4,g5,k1,k2,k3⟩,⟨a5,l5,c5,g6,j1,j2,j3⟩⟩,hr⟩:=h
  refine ⟨fun ht=>?_,⟨hk.int g0,hk.int g1,⟨a1,l1,c1,hk.slice g2,r1.like hk⟩,⟨a2,l2,c2,hk.slice g3,r2.like hk⟩,⟨a3,l3,c3,hk.slice g4,r3.like hk⟩,⟨a4,l4,c4,hk.slice g5,k1,k2,?_⟩,⟨a5,l5,c5,hk.slice g6,j1,j2,?_⟩⟩,ir _ _ _ hr⟩
  ·
   obtain ⟨⟨e0,q0,d0,t0,m0⟩,⟨e1,q1,d1,t1,m1⟩⟩:=h0 ht
   exact ⟨⟨e0,q0,d0,hk.slice t0,m0.like hk⟩,⟨e1,q1,d1,hk.slice t1,m1.like hk⟩⟩
  ·
   rcases k3 with k3|⟨b',o',e,k3⟩
   ·
    exact .inl k3
   ·
    exact .inr ⟨b',o',e,ik _ _ _ k3⟩
  ·
   rcases j3 with j3|⟨b',o',e,j3⟩
   ·
    exact .inl j3
   ·
    exact .inr ⟨b',o',e,ia _ _ _ j3⟩
theorem ShLE.like {w u:World} {al:Bool} {g:GE} {a:Option Addr} {l:Nat} (h:ShLE w al a l g) (hk:CLk w u):ShLE u al a l g:=by
 obtain ⟨h1,h2,h3⟩:=h
 refine ⟨h1,h2,?_⟩
 rcases h3 with h3|⟨b,o,e,h3⟩
 ·
  exact .inl h3
 ·
  exact .inr ⟨b,o,e,ShGE.like hk _ _ _ _ h3⟩
theorem shE_cons {w:World} {hc:List Int} {hv:List (List Int)} {p:PE} {kids alts rest:GE} {b off:Nat} (h:ShGE w false (.cons hc hv p kids alts rest) b off) :
  ((∃ z,w.cell? ⟨b,off,none⟩=some (.int .i64 z))∧(∃ z,w.cell? ⟨b,off+1,none⟩=some (.int .i64 z))∧(∃ a l c,w.cell? ⟨b,off+2,none⟩=some (.slice a l c)∧ShN w .u8 a l p.name.length)∧(∃ a l c,w.cell? ⟨b,off+3,none⟩=some (.slice a l c)∧ShN w .u8 a l p.arg.length)∧(∃ a l c,w.cell? ⟨b,off+4,none⟩=some (.slice a l c)∧ShN w .u8 a l p.lit.length)∧(∃ a l c,w.cell? ⟨b,off+5,none⟩=some (.slice a l c)∧ShLE w false a l kids)∧(∃ a l c,w.cell? ⟨b,off+6,none⟩=some (.slice a l c)∧ShLE w true a l alts))∧ShGE w false rest b (off+7):=h.2
theorem shA_cons {w:World} {hc:List Int} {hv:List (List Int)} {p:PE} {kids alts rest:GE} {b off:Nat} (h:ShGE w true (.cons hc hv p kids alts rest) b off) :
  ((∃ a l c,w.cell? ⟨b,off,none⟩=some (.slice a l c)∧ShN w .u8 a l hc.length)∧(∃ a l c,w.cell? ⟨b,off+1,none⟩=some (.slice a l c)∧ShLW w a l hv)∧(∃ z,w.cell? ⟨b,off+2,none⟩=some (.int .i64 z))∧(∃ z,w.cell? ⟨b,off+3,none⟩=some (.int .i64 z))∧(∃ a l c,w.cell? ⟨b,off+4,none⟩=some (.slice a l c)∧ShN w .u8 a l p.name.length)∧(∃ a l c,w.cell? ⟨b,off+5,none⟩=some (.slice a l c)∧ShN w .u8 a l p.arg.length)∧(∃ a l c,w.cell? ⟨b,off+6,none⟩=some (.slice a l c)∧ShN w .u8 a l p.lit.length)∧(∃ a l c,w.cell? ⟨b,off+7,none⟩=some (.slice a l c)∧ShLE w false a l kids)∧(∃ a l c,w.cell? ⟨b,off+8,none⟩=some (.slice a l c)∧ShLE w true a l alts))∧ShGE w true rest b (off+9):=⟨⟨(h.1 rfl).1,(h.1 rfl).2,h.2.1⟩,h.2.2⟩
set_option maxRecDepth 8000 in
set_option maxHeartbeats 8000000 in
theorem mkE_step (lo hi m:Nat) (ie:∀ (xs:GE) (a:Option Addr) (l c:Nat) (k0:Int) (w:World),xs.size < m→ShLE (hideR w lo hi) false a l xs→0≤k0→k0+4 * (xs.size:Nat)≤4611686018427387904→Calls Tryz.prog 73 #[.slice a l c,.int .i64 k0] w fun e u=>∃ k':Int,e = .returned (.int .i64 k')∧k0≤k'∧k'≤k0+4 * (xs.size:Nat)∧Mk lo hi w u) (ia:∀ (xs:GE) (a:Option Addr) (l c:Nat) (k0:Int) (w:World),xs.size < m→ShLE (hideR w lo hi) true a l xs→0≤k0→k0+4 * (xs.size:Nat)≤4611686018427387904→Calls Tryz.prog 74 #[.slice a l c,.int .i64 k0] w fun e u=>∃ k':Int,e = .returned (.int .i64 k')∧k0≤k'∧k'≤k0+4 * (xs.size:Nat)∧Mk lo hi w u)
  (xs:GE) (a:Option Addr) (l c:Nat) (k0:Int) (w:World) (hm:xs.size < m+1) (h:ShLE (hideR w lo hi) false a l xs) (hk0:0≤k0) (hk1:k0+4 * (xs.size:Nat)≤4611686018427387904):Calls Tryz.prog 73 #[.slice a l c,.int .i64 k0] w fun e u=>∃ k':Int,e = .returned (.int .i64 k')∧k0≤k'∧k'≤k0+4 * (xs.size:Nat)∧Mk lo hi w u:=by
 obtain ⟨hfl,hl,hx⟩:=h
 by_cases hl0:l=0
 ·
  subst hl0
  clear hx ie ia
  go_enter Tryz.func73,Tryz.ntmps73
  go_wp2
  refine wp_loop_rounds 1 ?_
  rw[rounds_succ]
  go_wp2
  go_ret
  exact ⟨k0,rfl,Int.le_refl _,by omega,Mk.refl _ _ _⟩
 obtain ⟨b,o,rfl,hin⟩:∃ b o,a=some ⟨b,o,none⟩∧ShGE (hideR w lo hi) false xs b o:=by
  rcases hx with h|h
  ·
   exact absurd h hl0
  ·
   exact h
 have IE:Hid _:=ie
 have IA:Hid _:=ia
 have IN:Hid (ShGE (hideR w lo hi) false xs b o):=hin
 clear hin hx ie ia
 go_enter Tryz.func73,Tryz.ntmps73
 go_wp2
 go_loopw [1,5] (fun v i wr=>∃ (j:Nat) (R:GE) (kj:Int),j≤l∧i = .int .i64 j∧v = .int .i64 kj∧k0≤kj∧kj+4 * (R.size:Nat)≤k0+4 * (xs.size:Nat)∧R.len+j=l∧R.size≤xs.size∧Hid (ShGE (hideR wr lo hi) false R b (o+j * 7)∧Mk lo hi w wr)) (fun _ i _=>l - (intOf i).toNat)
 case atStart=>exact ⟨0,xs,k0,Nat.zero_le _,rfl,rfl,Int.le_refl _,Int.le_refl _,by omega,Nat.le_refl _,by simpa using IN.out,Mk.refl _ _ _⟩
 case round =>
  clear IN
  obtain ⟨j,R,kj,hj,rfl,rfl,hkj,hks,hRl,hRs,HR⟩:=hrel
  by_cases hlt:j < l
  ·
   obtain ⟨q,hq⟩:∃ q,R.len=q+1:=⟨R.len - 1,by omega⟩
   obtain ⟨hc,hv,p,kids,alts,R',rfl,hR'⟩:=GE.cons_of_len hq
   obtain ⟨hS,hM⟩:=HR.out
   simp only[GE.size,szPE] at hks hRs
   have e3:o+j * 7+7=o+(j+1) * 7:=by omega
   have hj0:(0:Int)≤(j:Int):=by omega
   have hj1:(j:Int) < (l:Int):=by omega
   have ST:Hid (ShGE (hideR wr lo hi) false (.cons hc hv p kids alts R') b (o+j * 7)∧Mk lo hi w wr):=⟨hS,hM⟩
   clear hS hM HR
   obtain ⟨⟨⟨z0,d0⟩,⟨z1,d1⟩,⟨a2,l2,c2,d2,s2⟩,⟨a3,l3,c3,d3,s3⟩,⟨a4,l4,c4,d4,s4⟩,⟨a5,l5,c5,d5,s5⟩,⟨a6,l6,c6,d6,s6⟩⟩,hrest⟩:=shE_cons ST.out.1
   have m0_0:=Mk.set (lo:=lo) (hi:=hi) d0 (kj)
   obtain ⟨y0_1,e0_1⟩:=CLk.int m0_0.like ⟨_,d1⟩
   have m0_1:=Mk.set (lo:=lo) (hi:=hi) e0_1 (kj+1)
   have m0_1:=m0_0.trans m0_1
   have ff0:=(hideR_open d0).2
   have gg0:=(hideR_open d0).1
   have ff1:=(hideR_open d1).2
   have gg1:=(hideR_open d1).1
   have dv:=(hideR_open (m0_1.like.slice d2)).1
   have dw:=(hideR_open d2).1
   have HQ2:Hid _:=s2.2
   have CC:Hid _:=mkB lo hi a2 l2 c2 (kj+1+1) ((wr.setCell ⟨b,o+j * 7,none⟩ (.int .i64 (kj))).setCell ⟨b,o+j * 7+1,none⟩ (.int .i64 (kj+1))) ((s2.like m0_1.like)).1 (by omega) (by have:=((s2.like m0_1.like)).2;omega)
   have S2:Hid (ShGE (hideR ((wr.setCell ⟨b,o+j * 7,none⟩ (.int .i64 (kj))).setCell ⟨b,o+j * 7+1,none⟩ (.int .i64 (kj+1))) lo hi) false (.cons hc hv p kids alts R') b (o+j * 7)∧Mk lo hi w ((wr.setCell ⟨b,o+j * 7,none⟩ (.int .i64 (kj))).setCell ⟨b,o+j * 7+1,none⟩ (.int .i64 (kj+1)))):=⟨ShGE.like m0_1.like _ _ _ _ ST.out.1,ST.out.2.trans m0_1⟩
   clear d0 d1 d2 d3 d4 d5 d6 hrest ST m0_0 m0_1 e0_1 s2 s3 s4 s5 s6
   go_wp2_with fail
   refine Calls.mono CC.out ?_
   rintro e v0 ⟨kn0,he,hka0,hkb0,hmk⟩
   subst he
   have ST:Hid (ShGE (hideR v0 lo hi) false (.cons hc hv p kids alts R') b (o+j * 7)∧Mk lo hi w v0):=⟨ShGE.like hmk.like _ _ _ _ S2.out.1,S2.out.2.trans hmk⟩
   rw[HQ2.out] at hkb0
   clear CC hmk S2 dv HQ2 dw ff0 gg0 ff1 gg1
   obtain ⟨⟨⟨z0,d0⟩,⟨z1,d1⟩,⟨a2,l2,c2,d2,s2⟩,⟨a3,l3,c3,d3,s3⟩,⟨a4,l4,c4,d4,s4⟩,⟨a5,l5,c5,d5,s5⟩,⟨a6,l6,c6,d6,s6⟩⟩,hrest⟩:=shE_cons ST.out.1
   have dv:=(hideR_open d3).1
   have HQ3:Hid _:=s3.2
   have CC:Hid _:=mkB lo hi a3 l3 c3 (kn0) v0 (s3).1 (by omega) (by have:=(s3).2;omega)
   have S2:Hid (ShGE (hideR v0 lo hi) false (.cons hc hv p kids alts R') b (o+j * 7)∧Mk lo hi w v0):=⟨ShGE.like (Mk.refl lo hi v0).like _ _ _ _ ST.out.1,ST.out.2.trans (Mk.refl lo hi v0)⟩
   clear d0 d1 d2 d3 d4 d5 d6 hrest ST   s2 s3 s4 s5 s6
   simp only[]
   go_wp2_with fail
   refine Calls.mono CC.out ?_
   rintro e v1 ⟨kn1,he,hka1,hkb1,hmk⟩
   subst he
   have ST:Hid (ShGE (hideR v1 lo hi) false (.cons hc hv p kids alts R') b (o+j * 7)∧Mk lo hi w v1):=⟨ShGE.like hmk.like _ _ _ _ S2.out.1,S2.out.2.trans hmk⟩
   rw[HQ3.out] at hkb1
   clear CC hmk S2 dv HQ3
   obtain ⟨⟨⟨z0,d0⟩,⟨z1,d1⟩,⟨a2,l2,c2,d2,s2⟩,⟨a3,l3,c3,d3,s3⟩,⟨a4,l4,c4,d4,s4⟩,⟨a5,l5,c5,d5,s5⟩,⟨a6,l6,c6,d6,s6⟩⟩,hrest⟩:=shE_cons ST.out.1
   have dv:=(hideR_open d4).1
   have HQ4:Hid _:=s4.2
   have CC:Hid _:=mkB lo hi a4 l4 c4 (kn1) v1 (s4).1 (by omega) (by have:=(s4).2;omega)
   have S2:Hid (ShGE (hideR v1 lo hi) false (.cons hc hv p kids alts R') b (o+j * 7)∧Mk lo hi w v1):=⟨ShGE.like (Mk.refl lo hi v1).like _ _ _ _ ST.out.1,ST.out.2.trans (Mk.refl lo hi v1)⟩
   clear d0 d1 d2 d3 d4 d5 d6 hrest ST   s2 s3 s4 s5 s6
   simp only[]
   go_wp2_with fail
   refine Calls.mono CC.out ?_
   rintro e v2 ⟨kn2,he,hka2,hkb2,hmk⟩
   subst he
   have ST:Hid (ShGE (hideR v2 lo hi) false (.cons hc hv p kids alts R') b (o+j * 7)∧Mk lo hi w v2):=⟨ShGE.like hmk.like _ _ _ _ S2.out.1,S2.out.2.trans hmk⟩
   rw[HQ4.out] at hkb2
   clear CC hmk S2 dv HQ4
   obtain ⟨⟨⟨z0,d0⟩,⟨z1,d1⟩,⟨a2,l2,c2,d2,s2⟩,⟨a3,l3,c3,d3,s3⟩,⟨a4,l4,c4,d4,s4⟩,⟨a5,l5,c5,d5,s5⟩,⟨a6,l6,c6,d6,s6⟩⟩,hrest⟩:=shE_cons ST.out.1
   have dv:=(hideR_open d5).1
   have CC:Hid _:=IE.out kids a5 l5 c5 (kn2) v2 (by omega) s5 (by omega) (by omega)
   have S2:Hid (ShGE (hideR v2 lo hi) false (.cons hc hv p kids alts R') b (o+j * 7)∧Mk lo hi w v2):=⟨ShGE.like (Mk.refl lo hi v2).like _ _ _ _ ST.out.1,ST.out.2.trans (Mk.refl lo hi v2)⟩
   clear d0 d1 d2 d3 d4 d5 d6 hrest ST   s2 s3 s4 s5 s6
   simp only[]
   go_wp2_with fail
   refine Calls.mono CC.out ?_
   rintro e v3 ⟨kn3,he,hka3,hkb3,hmk⟩
   subst he
   have ST:Hid (ShGE (hideR v3 lo hi) false (.cons hc hv p kids alts R') b (o+j * 7)∧Mk lo hi w v3):=⟨ShGE.like hmk.like _ _ _ _ S2.out.1,S2.out.2.trans hmk⟩
   skip
   clear CC hmk S2 dv
   obtain ⟨⟨⟨z0,d0⟩,⟨z1,d1⟩,⟨a2,l2,c2,d2,s2⟩,⟨a3,l3,c3,d3,s3⟩,⟨a4,l4,c4,d4,s4⟩,⟨a5,l5,c5,d5,s5⟩,⟨a6,l6,c6,d6,s6⟩⟩,hrest⟩:=shE_cons ST.out.1
   have dv:=(hideR_open d6).1
   have CC:Hid _:=IA.out alts a6 l6 c6 (kn3) v3 (by omega) s6 (by omega) (by omega)
   have S2:Hid (ShGE (hideR v3 lo hi) false (.cons hc hv p kids alts R') b (o+j * 7)∧Mk lo hi w v3):=⟨ShGE.like (Mk.refl lo hi v3).like _ _ _ _ ST.out.1,ST.out.2.trans (Mk.refl lo hi v3)⟩
   clear d0 d1 d2 d3 d4 d5 d6 hrest ST   s2 s3 s4 s5 s6
   simp only[]
   go_wp2_with fail
   refine Calls.mono CC.out ?_
   rintro e v4 ⟨kn4,he,hka4,hkb4,hmk⟩
   subst he
   have ST:Hid (ShGE (hideR v4 lo hi) false (.cons hc hv p kids alts R') b (o+j * 7)∧Mk lo hi w v4):=⟨ShGE.like hmk.like _ _ _ _ S2.out.1,S2.out.2.trans hmk⟩
   skip
   clear CC hmk S2 dv
   have FIN:Hid (ShGE (hideR v4 lo hi) false R' b (o+(j+1) * 7)∧Mk lo hi w v4):=⟨by rw[← e3];exact (shE_cons ST.out.1).2,ST.out.2⟩
   clear ST
   simp only[]
   go_wp2
   go_roundw
   case rel=>exact ⟨j+1,R',kn4,by omega,by go_num,rfl,by omega,by omega,by omega,by omega,FIN.out.1,FIN.out.2⟩
   case measure=>simp [intOf];omega
  ·
   obtain rfl:j=l:=by omega
   have FW:Hid (Mk lo hi w wr):=HR.out.2
   clear HR
   go_wp2
   go_ret
   exact ⟨kj,rfl,hkj,by omega,FW.out⟩
set_option maxRecDepth 8000 in
set_option maxHeartbeats 8000000 in
theorem mkA_step (lo hi m:Nat) (ie:∀ (xs:GE) (a:Option Addr) (l c:Nat) (k0:Int) (w:World),xs.size < m→ShLE (hideR w lo hi) false a l xs→0≤k0→k0+4 * (xs.size:Nat)≤4611686018427387904→Calls Tryz.prog 73 #[.slice a l c,.int .i64 k0] w fun e u=>∃ k':Int,e = .returned (.int .i64 k')∧k0≤k'∧k'≤k0+4 * (xs.size:Nat)∧Mk lo hi w u) (ia:∀ (xs:GE) (a:Option Addr) (l c:Nat) (k0:Int) (w:World),xs.size < m→ShLE (hideR w lo hi) true a l xs→0≤k0→k0+4 * (xs.size:Nat)≤4611686018427387904→Calls Tryz.prog 74 #[.slice a l c,.int .i64 k0] w fun e u=>∃ k':Int,e = .returned (.int .i64 k')∧k0≤k'∧k'≤k0+4 * (xs.size:Nat)∧Mk lo hi w u)
  (xs:GE) (a:Option Addr) (l c:Nat) (k0:Int) (w:World) (hm:xs.size < m+1) (h:ShLE (hideR w lo hi) true a l xs) (hk0:0≤k0) (hk1:k0+4 * (xs.size:Nat)≤4611686018427387904):Calls Tryz.prog 74 #[.slice a l c,.int .i64 k0] w fun e u=>∃ k':Int,e = .returned (.int .i64 k')∧k0≤k'∧k'≤k0+4 * (xs.size:Nat)∧Mk lo hi w u:=by
 obtain ⟨hfl,hl,hx⟩:=h
 by_cases hl0:l=0
 ·
  subst hl0
  clear hx ie ia
  go_enter Tryz.func74,Tryz.ntmps74
  go_wp2
  refine wp_loop_rounds 1 ?_
  rw[rounds_succ]
  go_wp2
  go_ret
  exact ⟨k0,rfl,Int.le_refl _,by omega,Mk.refl _ _ _⟩
 obtain ⟨b,o,rfl,hin⟩:∃ b o,a=some ⟨b,o,none⟩∧ShGE (hideR w lo hi) true xs b o:=by
  rcases hx with h|h
  ·
   exact absurd h hl0
  ·
   exact h
 have IE:Hid _:=ie
 have IA:Hid _:=ia
 have IN:Hid (ShGE (hideR w lo hi) true xs b o):=hin
 clear hin hx ie ia
 go_enter Tryz.func74,Tryz.ntmps74
 go_wp2
 go_loopw [1,5] (fun v i wr=>∃ (j:Nat) (R:GE) (kj:Int),j≤l∧i = .int .i64 j∧v = .int .i64 kj∧k0≤kj∧kj+4 * (R.size:Nat)≤k0+4 * (xs.size:Nat)∧R.len+j=l∧R.size≤xs.size∧Hid (ShGE (hideR wr lo hi) true R b (o+j * 9)∧Mk lo hi w wr)) (fun _ i _=>l - (intOf i).toNat)
 case atStart=>exact ⟨0,xs,k0,Nat.zero_le _,rfl,rfl,Int.le_refl _,Int.le_refl _,by omega,Nat.le_refl _,by simpa using IN.out,Mk.refl _ _ _⟩
 case round =>
  clear IN
  obtain ⟨j,R,kj,hj,rfl,rfl,hkj,hks,hRl,hRs,HR⟩:=hrel
  by_cases hlt:j < l
  ·
   obtain ⟨q,hq⟩:∃ q,R.len=q+1:=⟨R.len - 1,by omega⟩
   obtain ⟨hc,hv,p,kids,alts,R',rfl,hR'⟩:=GE.cons_of_len hq
   obtain ⟨hS,hM⟩:=HR.out
   simp only[GE.size,szPE] at hks hRs
   have e3:o+j * 9+9=o+(j+1) * 9:=by omega
   have hj0:(0:Int)≤(j:Int):=by omega
   have hj1:(j:Int) < (l:Int):=by omega
   have ST:Hid (ShGE (hideR wr lo hi) true (.cons hc hv p kids alts R') b (o+j * 9)∧Mk lo hi w wr):=⟨hS,hM⟩
   clear hS hM HR
   obtain ⟨⟨⟨a0,l0,c0,d0,s0⟩,⟨a1,l1,c1,d1,s1⟩,⟨z2,d2⟩,⟨z3,d3⟩,⟨a4,l4,c4,d4,s4⟩,⟨a5,l5,c5,d5,s5⟩,⟨a6,l6,c6,d6,s6⟩,⟨a7,l7,c7,d7,s7⟩,⟨a8,l8,c8,d8,s8⟩⟩,hrest⟩:=shA_cons ST.out.1
   have dv:=(hideR_open d0).1
   have HQ0:Hid _:=s0.2
   have CC:Hid _:=mkB lo hi a0 l0 c0 (kj) wr (s0).1 (by omega) (by have:=(s0).2;omega)
   have S2:Hid (ShGE (hideR wr lo hi) true (.cons hc hv p kids alts R') b (o+j * 9)∧Mk lo hi w wr):=⟨ShGE.like (Mk.refl lo hi wr).like _ _ _ _ ST.out.1,ST.out.2.trans (Mk.refl lo hi wr)⟩
   clear d0 d1 d2 d3 d4 d5 d6 d7 d8 hrest ST   s0 s1 s4 s5 s6 s7 s8
   go_wp2_with fail
   refine Calls.mono CC.out ?_
   rintro e v0 ⟨kn0,he,hka0,hkb0,hmk⟩
   subst he
   have ST:Hid (ShGE (hideR v0 lo hi) true (.cons hc hv p kids alts R') b (o+j * 9)∧Mk lo hi w v0):=⟨ShGE.like hmk.like _ _ _ _ S2.out.1,S2.out.2.trans hmk⟩
   rw[HQ0.out] at hkb0
   clear CC hmk S2 dv HQ0
   obtain ⟨⟨⟨a0,l0,c0,d0,s0⟩,⟨a1,l1,c1,d1,s1⟩,⟨z2,d2⟩,⟨z3,d3⟩,⟨a4,l4,c4,d4,s4⟩,⟨a5,l5,c5,d5,s5⟩,⟨a6,l6,c6,d6,s6⟩,⟨a7,l7,c7,d7,s7⟩,⟨a8,l8,c8,d8,s8⟩⟩,hrest⟩:=shA_cons ST.out.1
   have dv:=(hideR_open d1).1
   have CC:Hid _:=mkW lo hi hv a1 l1 c1 (kn0) v0 s1 (by omega) (by omega)
   have S2:Hid (ShGE (hideR v0 lo hi) true (.cons hc hv p kids alts R') b (o+j * 9)∧Mk lo hi w v0):=⟨ShGE.like (Mk.refl lo hi v0).like _ _ _ _ ST.out.1,ST.out.2.trans (Mk.refl lo hi v0)⟩
   clear d0 d1 d2 d3 d4 d5 d6 d7 d8 hrest ST   s0 s1 s4 s5 s6 s7 s8
   simp only[]
   go_wp2_with fail
   refine Calls.mono CC.out ?_
   rintro e v1 ⟨kn1,he,hka1,hkb1,hmk⟩
   subst he
   have ST:Hid (ShGE (hideR v1 lo hi) true (.cons hc hv p kids alts R') b (o+j * 9)∧Mk lo hi w v1):=⟨ShGE.like hmk.like _ _ _ _ S2.out.1,S2.out.2.trans hmk⟩
   skip
   clear CC hmk S2 dv
   obtain ⟨⟨⟨a0,l0,c0,d0,s0⟩,⟨a1,l1,c1,d1,s1⟩,⟨z2,d2⟩,⟨z3,d3⟩,⟨a4,l4,c4,d4,s4⟩,⟨a5,l5,c5,d5,s5⟩,⟨a6,l6,c6,d6,s6⟩,⟨a7,l7,c7,d7,s7⟩,⟨a8,l8,c8,d8,s8⟩⟩,hrest⟩:=shA_cons ST.out.1
   have m2_0:=Mk.set (lo:=lo) (hi:=hi) d2 (kn1)
   obtain ⟨y2_1,e2_1⟩:=CLk.int m2_0.like ⟨_,d3⟩
   have m2_1:=Mk.set (lo:=lo) (hi:=hi) e2_1 (kn1+1)
   have m2_1:=m2_0.trans m2_1
   have ff2:=(hideR_open d2).2
   have gg2:=(hideR_open d2).1
   have ff3:=(hideR_open d3).2
   have gg3:=(hideR_open d3).1
   have dv:=(hideR_open (m2_1.like.slice d4)).1
   have dw:=(hideR_open d4).1
   have HQ4:Hid _:=s4.2
   have CC:Hid _:=mkB lo hi a4 l4 c4 (kn1+1+1) ((v1.setCell ⟨b,o+j * 9+2,none⟩ (.int .i64 (kn1))).setCell ⟨b,o+j * 9+3,none⟩ (.int .i64 (kn1+1))) ((s4.like m2_1.like)).1 (by omega) (by have:=((s4.like m2_1.like)).2;omega)
   have S2:Hid (ShGE (hideR ((v1.setCell ⟨b,o+j * 9+2,none⟩ (.int .i64 (kn1))).setCell ⟨b,o+j * 9+3,none⟩ (.int .i64 (kn1+1))) lo hi) true (.cons hc hv p kids alts R') b (o+j * 9)∧Mk lo hi w ((v1.setCell ⟨b,o+j * 9+2,none⟩ (.int .i64 (kn1))).setCell ⟨b,o+j * 9+3,none⟩ (.int .i64 (kn1+1)))):=⟨ShGE.like m2_1.like _ _ _ _ ST.out.1,ST.out.2.trans m2_1⟩
   clear d0 d1 d2 d3 d4 d5 d6 d7 d8 hrest ST m2_0 m2_1 e2_1 s0 s1 s4 s5 s6 s7 s8
   simp only[]
   go_wp2_with fail
   refine Calls.mono CC.out ?_
   rintro e v2 ⟨kn2,he,hka2,hkb2,hmk⟩
   subst he
   have ST:Hid (ShGE (hideR v2 lo hi) true (.cons hc hv p kids alts R') b (o+j * 9)∧Mk lo hi w v2):=⟨ShGE.like hmk.like _ _ _ _ S2.out.1,S2.out.2.trans hmk⟩
   rw[HQ4.out] at hkb2
   clear CC hmk S2 dv HQ4 dw ff2 gg2 ff3 gg3
   obtain ⟨⟨⟨a0,l0,c0,d0,s0⟩,⟨a1,l1,c1,d1,s1⟩,⟨z2,d2⟩,⟨z3,d3⟩,⟨a4,l4,c4,d4,s4⟩,⟨a5,l5,c5,d5,s5⟩,⟨a6,l6,c6,d6,s6⟩,⟨a7,l7,c7,d7,s7⟩,⟨a8,l8,c8,d8,s8⟩⟩,hrest⟩:=shA_cons ST.out.1
   have dv:=(hideR_open d5).1
   have HQ5:Hid _:=s5.2
   have CC:Hid _:=mkB lo hi a5 l5 c5 (kn2) v2 (s5).1 (by omega) (by have:=(s5).2;omega)
   have S2:Hid (ShGE (hideR v2 lo hi) true (.cons hc hv p kids alts R') b (o+j * 9)∧Mk lo hi w v2):=⟨ShGE.like (Mk.refl lo hi v2).like _ _ _ _ ST.out.1,ST.out.2.trans (Mk.refl lo hi v2)⟩
   clear d0 d1 d2 d3 d4 d5 d6 d7 d8 hrest ST   s0 s1 s4 s5 s6 s7 s8
   simp only[]
   go_wp2_with fail
   refine Calls.mono CC.out ?_
   rintro e v3 ⟨kn3,he,hka3,hkb3,hmk⟩
   subst he
   have ST:Hid (ShGE (hideR v3 lo hi) true (.cons hc hv p kids alts R') b (o+j * 9)∧Mk lo hi w v3):=⟨ShGE.like hmk.like _ _ _ _ S2.out.1,S2.out.2.trans hmk⟩
   rw[HQ5.out] at hkb3
   clear CC hmk S2 dv HQ5
   obtain ⟨⟨⟨a0,l0,c0,d0,s0⟩,⟨a1,l1,c1,d1,s1⟩,⟨z2,d2⟩,⟨z3,d3⟩,⟨a4,l4,c4,d4,s4⟩,⟨a5,l5,c5,d5,s5⟩,⟨a6,l6,c6,d6,s6⟩,⟨a7,l7,c7,d7,s7⟩,⟨a8,l8,c8,d8,s8⟩⟩,hrest⟩:=shA_cons ST.out.1
   have dv:=(hideR_open d6).1
   have HQ6:Hid _:=s6.2
   have CC:Hid _:=mkB lo hi a6 l6 c6 (kn3) v3 (s6).1 (by omega) (by have:=(s6).2;omega)
   have S2:Hid (ShGE (hideR v3 lo hi) true (.cons hc hv p kids alts R') b (o+j * 9)∧Mk lo hi w v3):=⟨ShGE.like (Mk.refl lo hi v3).like _ _ _ _ ST.out.1,ST.out.2.trans (Mk.refl lo hi v3)⟩
   clear d0 d1 d2 d3 d4 d5 d6 d7 d8 hrest ST   s0 s1 s4 s5 s6 s7 s8
   simp only[]
   go_wp2_with fail
   refine Calls.mono CC.out ?_
   rintro e v4 ⟨kn4,he,hka4,hkb4,hmk⟩
   subst he
   have ST:Hid (ShGE (hideR v4 lo hi) true (.cons hc hv p kids alts R') b (o+j * 9)∧Mk lo hi w v4):=⟨ShGE.like hmk.like _ _ _ _ S2.out.1,S2.out.2.trans hmk⟩
   rw[HQ6.out] at hkb4
   clear CC hmk S2 dv HQ6
   obtain ⟨⟨⟨a0,l0,c0,d0,s0⟩,⟨a1,l1,c1,d1,s1⟩,⟨z2,d2⟩,⟨z3,d3⟩,⟨a4,l4,c4,d4,s4⟩,⟨a5,l5,c5,d5,s5⟩,⟨a6,l6,c6,d6,s6⟩,⟨a7,l7,c7,d7,s7⟩,⟨a8,l8,c8,d8,s8⟩⟩,hrest⟩:=shA_cons ST.out.1
   have dv:=(hideR_open d7).1
   have CC:Hid _:=IE.out kids a7 l7 c7 (kn4) v4 (by omega) s7 (by omega) (by omega)
   have S2:Hid (ShGE (hideR v4 lo hi) true (.cons hc hv p kids alts R') b (o+j * 9)∧Mk lo hi w v4):=⟨ShGE.like (Mk.refl lo hi v4).like _ _ _ _ ST.out.1,ST.out.2.trans (Mk.refl lo hi v4)⟩
   clear d0 d1 d2 d3 d4 d5 d6 d7 d8 hrest ST   s0 s1 s4 s5 s6 s7 s8
   simp only[]
   go_wp2_with fail
   refine Calls.mono CC.out ?_
   rintro e v5 ⟨kn5,he,hka5,hkb5,hmk⟩
   subst he
   have ST:Hid (ShGE (hideR v5 lo hi) true (.cons hc hv p kids alts R') b (o+j * 9)∧Mk lo hi w v5):=⟨ShGE.like hmk.like _ _ _ _ S2.out.1,S2.out.2.trans hmk⟩
   skip
   clear CC hmk S2 dv
   obtain ⟨⟨⟨a0,l0,c0,d0,s0⟩,⟨a1,l1,c1,d1,s1⟩,⟨z2,d2⟩,⟨z3,d3⟩,⟨a4,l4,c4,d4,s4⟩,⟨a5,l5,c5,d5,s5⟩,⟨a6,l6,c6,d6,s6⟩,⟨a7,l7,c7,d7,s7⟩,⟨a8,l8,c8,d8,s8⟩⟩,hrest⟩:=shA_cons ST.out.1
   have dv:=(hideR_open d8).1
   have CC:Hid _:=IA.out alts a8 l8 c8 (kn5) v5 (by omega) s8 (by omega) (by omega)
   have S2:Hid (ShGE (hideR v5 lo hi) true (.cons hc hv p kids alts R') b (o+j * 9)∧Mk lo hi w v5):=⟨ShGE.like (Mk.refl lo hi v5).like _ _ _ _ ST.out.1,ST.out.2.trans (Mk.refl lo hi v5)⟩
   clear d0 d1 d2 d3 d4 d5 d6 d7 d8 hrest ST   s0 s1 s4 s5 s6 s7 s8
   simp only[]
   go_wp2_with fail
   refine Calls.mono CC.out ?_
   rintro e v6 ⟨kn6,he,hka6,hkb6,hmk⟩
   subst he
   have ST:Hid (ShGE (hideR v6 lo hi) true (.cons hc hv p kids alts R') b (o+j * 9)∧Mk lo hi w v6):=⟨ShGE.like hmk.like _ _ _ _ S2.out.1,S2.out.2.trans hmk⟩
   skip
   clear CC hmk S2 dv
   have FIN:Hid (ShGE (hideR v6 lo hi) true R' b (o+(j+1) * 9)∧Mk lo hi w v6):=⟨by rw[← e3];exact (shA_cons ST.out.1).2,ST.out.2⟩
   clear ST
   simp only[]
   go_wp2
   go_roundw
   case rel=>exact ⟨j+1,R',kn6,by omega,by go_num,rfl,by omega,by omega,by omega,by omega,FIN.out.1,FIN.out.2⟩
   case measure=>simp [intOf];omega
  ·
   obtain rfl:j=l:=by omega
   have FW:Hid (Mk lo hi w wr):=HR.out.2
   clear HR
   go_wp2
   go_ret
   exact ⟨kj,rfl,hkj,by omega,FW.out⟩
theorem mkEA (lo hi:Nat):∀ m:Nat,(∀ (xs:GE) (a:Option Addr) (l c:Nat) (k0:Int) (w:World),xs.size < m→ShLE (hideR w lo hi) false a l xs→0≤k0→k0+4 * (xs.size:Nat)≤4611686018427387904→Calls Tryz.prog 73 #[.slice a l c,.int .i64 k0] w fun e u=>∃ k':Int,e = .returned (.int .i64 k')∧k0≤k'∧k'≤k0+4 * (xs.size:Nat)∧Mk lo hi w u)∧(∀ (xs:GE) (a:Option Addr) (l c:Nat) (k0:Int) (w:World),xs.size < m→ShLE (hideR w lo hi) true a l xs→0≤k0→k0+4 * (xs.size:Nat)≤4611686018427387904→Calls Tryz.prog 74 #[.slice a l c,.int .i64 k0] w fun e u=>∃ k':Int,e = .returned (.int .i64 k')∧k0≤k'∧k'≤k0+4 * (xs.size:Nat)∧Mk lo hi w u):=by
 intro m
 induction m with
 | zero=>exact ⟨fun xs a l c k0 w hm=>absurd hm (Nat.not_lt_zero _),fun xs a l c k0 w hm=>absurd hm (Nat.not_lt_zero _)⟩
 | succ m ih=>exact ⟨mkE_step lo hi m ih.1 ih.2,mkA_step lo hi m ih.1 ih.2⟩
theorem hir_grown {w u:World} {lo hi:Nat} (h:w.grownBy u none):CLe (hideR w lo hi) (hideR u lo hi):=fun p v hv=>by
 obtain ⟨h1,h2,cur,t,h3⟩:=hideR_inv hv
 have e:=h.block p.block (lt_of_block h3) (by simp)
 rw[cell_any (w:=w) ((hideR_heap (w:=u) h1.1 h1.2 (e.trans h3)).trans h3.symm)]
 exact h2
theorem CLe.unhir {u:World} {lo hi:Nat}:CLe (hideR u lo hi) u:=fun p v hv=>(hideR_inv hv).2.1
set_option maxRecDepth 8000 in
set_option maxHeartbeats 4000000 in
theorem mkExp (lo hi:Nat) (p:PE) (kids alts:GE) (a1:Option Addr) (l1 c1:Nat) (a2:Option Addr) (l2 c2:Nat) (a3:Option Addr) (l3 c3:Nat) (a4:Option Addr) (l4 c4:Nat) (a5:Option Addr) (l5 c5:Nat) (k0:Int) (w:World) (h:ShI (hideR w lo hi) .u8 a1 l1∧ShI (hideR w lo hi) .u8 a2 l2∧ShI (hideR w lo hi) .u8 a3 l3∧ShLE (hideR w lo hi) false a4 l4 kids∧ShLE (hideR w lo hi) true a5 l5 alts) (hh:hi≤w.heap.size) (hk0:0≤k0) (hk1:k0+4 * (l1+l2+l3+kids.size+alts.size:Nat)≤4611686018427387904) :
  Calls Tryz.prog 35 #[.agg #[.int .i64 p.k,.int .i64 p.n,.slice a1 l1 c1,.slice a2 l2 c2,.slice a3 l3 c3,.slice a4 l4 c4,.slice a5 l5 c5],.int .i64 k0] w fun e u=>∃ k':Int,e = .returned (.int .i64 k')∧k0≤k'∧k'≤k0+4 * (l1+l2+l3+kids.size+alts.size:Nat)∧Mk lo hi w u:=by
 have g0:=World.grownBy_alloc w (.cells #[.int .i64 p.k,.int .i64 p.n,.slice a1 l1 c1,.slice a2 l2 c2,.slice a3 l3 c3,.slice a4 l4 c4,.slice a5 l5 c5] 36) none
 have b0:=heap_alloc_new w (.cells #[.int .i64 p.k,.int .i64 p.n,.slice a1 l1 c1,.slice a2 l2 c2,.slice a3 l3 c3,.slice a4 l4 c4,.slice a5 l5 c5] 36)
 have M0:Hid (Mk lo hi w (w.alloc (.cells #[.int .i64 p.k,.int .i64 p.n,.slice a1 l1 c1,.slice a2 l2 c2,.slice a3 l3 c3,.slice a4 l4 c4,.slice a5 l5 c5] 36))∧(w.alloc (.cells #[.int .i64 p.k,.int .i64 p.n,.slice a1 l1 c1,.slice a2 l2 c2,.slice a3 l3 c3,.slice a4 l4 c4,.slice a5 l5 c5] 36)).heap[w.heap.size]? = some (Obj.cells #[.int .i64 p.k,.int .i64 p.n,.slice a1 l1 c1,.slice a2 l2 c2,.slice a3 l3 c3,.slice a4 l4 c4,.slice a5 l5 c5] 36)):=⟨Mk.grown g0,b0⟩
 have SH:Hid (ShI (hideR w lo hi) .u8 a1 l1∧ShI (hideR w lo hi) .u8 a2 l2∧ShI (hideR w lo hi) .u8 a3 l3∧ShLE (hideR w lo hi) false a4 l4 kids∧ShLE (hideR w lo hi) true a5 l5 alts):=h
 have C0:Hid _:=mkB lo hi a1 l1 c1 k0 (w.alloc (.cells #[.int .i64 p.k,.int .i64 p.n,.slice a1 l1 c1,.slice a2 l2 c2,.slice a3 l3 c3,.slice a4 l4 c4,.slice a5 l5 c5] 36)) (SH.out.1.like M0.out.1.like) (by omega) (by omega)
 obtain ⟨⟨y0,y1,y2,y3,y4,y5,y6⟩,-⟩:=blkE b0
 clear h g0 b0
 go_enter Tryz.func35,Tryz.ntmps35
 go_wp2_with fail
 refine Calls.mono C0.out ?_
 rintro e u1 ⟨q1,he,ha1,hb1,hm⟩
 subst he
 have M1:Hid (Mk lo hi w u1∧u1.heap[w.heap.size]? = some (Obj.cells #[.int .i64 p.k,.int .i64 p.n,.slice a1 l1 c1,.slice a2 l2 c2,.slice a3 l3 c3,.slice a4 l4 c4,.slice a5 l5 c5] 36)):=⟨M0.out.1.trans hm,(hm.block _ (lt_of_block M0.out.2) (.inr hh)).trans M0.out.2⟩
 clear C0 M0 hm y0 y1 y2 y3 y4 y5 y6
 have C1:Hid _:=mkB lo hi a2 l2 c2 q1 u1 (SH.out.2.1.like M1.out.1.like) (by omega) (by omega)
 obtain ⟨⟨y0,y1,y2,y3,y4,y5,y6⟩,-⟩:=blkE M1.out.2
 simp only[]
 go_wp2_with fail
 refine Calls.mono C1.out ?_
 rintro e u2 ⟨q2,he,ha2,hb2,hm⟩
 subst he
 have M2:Hid (Mk lo hi w u2∧u2.heap[w.heap.size]? = some (Obj.cells #[.int .i64 p.k,.int .i64 p.n,.slice a1 l1 c1,.slice a2 l2 c2,.slice a3 l3 c3,.slice a4 l4 c4,.slice a5 l5 c5] 36)):=⟨M1.out.1.trans hm,(hm.block _ (lt_of_block M1.out.2) (.inr hh)).trans M1.out.2⟩
 clear C1 M1 hm y0 y1 y2 y3 y4 y5 y6
 have C2:Hid _:=mkB lo hi a3 l3 c3 q2 u2 (SH.out.2.2.1.like M2.out.1.like) (by omega) (by omega)
 obtain ⟨⟨y0,y1,y2,y3,y4,y5,y6⟩,-⟩:=blkE M2.out.2
 simp only[]
 go_wp2_with fail
 refine Calls.mono C2.out ?_
 rintro e u3 ⟨q3,he,ha3,hb3,hm⟩
 subst he
 have M3:Hid (Mk lo hi w u3∧u3.heap[w.heap.size]? = some (Obj.cells #[.int .i64 p.k,.int .i64 p.n,.slice a1 l1 c1,.slice a2 l2 c2,.slice a3 l3 c3,.slice a4 l4 c4,.slice a5 l5 c5] 36)):=⟨M2.out.1.trans hm,(hm.block _ (lt_of_block M2.out.2) (.inr hh)).trans M2.out.2⟩
 clear C2 M2 hm y0 y1 y2 y3 y4 y5 y6
 have C3:Hid _:=(mkEA lo hi (kids.size+1)).1 kids a4 l4 c4 q3 u3 (by omega) (SH.out.2.2.2.1.like M3.out.1.like) (by omega) (by omega)
 obtain ⟨⟨y0,y1,y2,y3,y4,y5,y6⟩,-⟩:=blkE M3.out.2
 simp only[]
 go_wp2_with fail
 refine Calls.mono C3.out ?_
 rintro e u4 ⟨q4,he,ha4,hb4,hm⟩
 subst he
 have M4:Hid (Mk lo hi w u4∧u4.heap[w.heap.size]? = some (Obj.cells #[.int .i64 p.k,.int .i64 p.n,.slice a1 l1 c1,.slice a2 l2 c2,.slice a3 l3 c3,.slice a4 l4 c4,.slice a5 l5 c5] 36)):=⟨M3.out.1.trans hm,(hm.block _ (lt_of_block M3.out.2) (.inr hh)).trans M3.out.2⟩
 clear C3 M3 hm y0 y1 y2 y3 y4 y5 y6
 have C4:Hid _:=(mkEA lo hi (alts.size+1)).2 alts a5 l5 c5 q4 u4 (by omega) (SH.out.2.2.2.2.like M4.out.1.like) (by omega) (by omega)
 obtain ⟨⟨y0,y1,y2,y3,y4,y5,y6⟩,-⟩:=blkE M4.out.2
 simp only[]
 go_wp2_with fail
 refine Calls.mono C4.out ?_
 rintro e u5 ⟨q5,he,ha5,hb5,hm⟩
 subst he
 have M5:Hid (Mk lo hi w u5):=M4.out.1.trans hm
 clear C4 M4 hm y0 y1 y2 y3 y4 y5 y6
 simp only[]
 go_wp2
 go_ret
 exact ⟨q5,rfl,by omega,by omega,M5.out⟩
set_option maxRecDepth 8000 in
set_option maxHeartbeats 4000000 in
theorem mkSrc (lo hi:Nat) (x:RSrc) (a0:Option Addr) (l0 c0:Nat) (a1:Option Addr) (l1 c1:Nat) (a2:Option Addr) (l2 c2:Nat) (a3:Option Addr) (l3 c3:Nat) (a4:Option Addr) (l4 c4:Nat) (a5:Option Addr) (l5 c5:Nat) (k0:Int) (w:World) (h:RdSrc (hideR w lo hi) x a0 l0 c0 a1 l1 c1 a2 l2 c2 a3 l3 c3 a4 l4 c4 a5 l5 c5) (hh:hi≤w.heap.size) (hk0:0≤k0) (hk1:k0+4 * (szSrc x:Nat)≤4611686018427387904) :
  Calls Tryz.prog 15 #[.agg #[.slice a0 l0 c0,.int .i64 x.p.k,.int .i64 x.p.n,.slice a1 l1 c1,.slice a2 l2 c2,.slice a3 l3 c3,.slice a4 l4 c4,.slice a5 l5 c5],.int .i64 k0] w fun e u=>∃ k':Int,e = .returned (.int .i64 k')∧k0≤k'∧k'≤k0+4 * (szSrc x:Nat)∧Mk lo hi w u:=by
 have g0:=World.grownBy_alloc w (.cells #[.slice a0 l0 c0,.int .i64 x.p.k,.int .i64 x.p.n,.slice a1 l1 c1,.slice a2 l2 c2,.slice a3 l3 c3,.slice a4 l4 c4,.slice a5 l5 c5] 38) none
 have b0:=heap_alloc_new w (.cells #[.slice a0 l0 c0,.int .i64 x.p.k,.int .i64 x.p.n,.slice a1 l1 c1,.slice a2 l2 c2,.slice a3 l3 c3,.slice a4 l4 c4,.slice a5 l5 c5] 38)
 obtain ⟨h1,h2,h3,h4,h5,h6⟩:=h
 have e1:x.p.name.length=l1:=h2.1.1
 have e2:x.p.arg.length=l2:=h3.1.1
 have e3:x.p.lit.length=l3:=h4.1.1
 have hsz:szSrc x=szDas x.ds+(l1+l2+l3+x.kids.size+x.alts.size):=by unfold szSrc szPE;omega
 rw[hsz] at hk1 ⊢
 have M0:Hid (Mk lo hi w (w.alloc (.cells #[.slice a0 l0 c0,.int .i64 x.p.k,.int .i64 x.p.n,.slice a1 l1 c1,.slice a2 l2 c2,.slice a3 l3 c3,.slice a4 l4 c4,.slice a5 l5 c5] 38))∧(w.alloc (.cells #[.slice a0 l0 c0,.int .i64 x.p.k,.int .i64 x.p.n,.slice a1 l1 c1,.slice a2 l2 c2,.slice a3 l3 c3,.slice a4 l4 c4,.slice a5 l5 c5] 38)).heap[w.heap.size]? = some (Obj.cells #[.slice a0 l0 c0,.int .i64 x.p.k,.int .i64 x.p.n,.slice a1 l1 c1,.slice a2 l2 c2,.slice a3 l3 c3,.slice a4 l4 c4,.slice a5 l5 c5] 38)):=⟨Mk.grown g0,b0⟩
 have SH:Hid (ShLDa (hideR w lo hi) a0 l0 x.ds∧ShI (hideR w lo hi) .u8 a1 l1∧ShI (hideR w lo hi) .u8 a2 l2∧ShI (hideR w lo hi) .u8 a3 l3∧ShLE (hideR w lo hi) false a4 l4 x.kids∧ShLE (hideR w lo hi) true a5 l5 x.alts):=⟨h1.1.sh,h2.sh,h3.sh,h4.sh,h5.sh,h6.sh⟩
 have C0:Hid _:=mkDa lo hi x.ds a0 l0 c0 k0 (w.alloc (.cells #[.slice a0 l0 c0,.int .i64 x.p.k,.int .i64 x.p.n,.slice a1 l1 c1,.slice a2 l2 c2,.slice a3 l3 c3,.slice a4 l4 c4,.slice a5 l5 c5] 38)) (SH.out.1.like M0.out.1.like) hk0 (by omega)
 obtain ⟨⟨y0,y1,y2,y3,y4,y5,y6,y7⟩,-⟩:=blkSrc b0
 clear h1 h2 h3 h4 h5 h6 e1 e2 e3 hsz g0 b0
 go_enter Tryz.func15,Tryz.ntmps15
 go_wp2_with fail
 refine Calls.mono C0.out ?_
 rintro e u1 ⟨q1,he,ha1,hb1,hm⟩
 subst he
 have M1:Hid (Mk lo hi w u1∧u1.heap[w.heap.size]? = some (Obj.cells #[.slice a0 l0 c0,.int .i64 x.p.k,.int .i64 x.p.n,.slice a1 l1 c1,.slice a2 l2 c2,.slice a3 l3 c3,.slice a4 l4 c4,.slice a5 l5 c5] 38)∧hi≤u1.heap.size):=⟨M0.out.1.trans hm,(hm.block _ (lt_of_block M0.out.2) (.inr hh)).trans M0.out.2,Nat.le_trans hh (M0.out.1.trans hm).size⟩
 clear C0 M0 hm y0 y1 y2 y3 y4 y5 y6 y7
 have C1:Hid _:=mkExp lo hi x.p x.kids x.alts a1 l1 c1 a2 l2 c2 a3 l3 c3 a4 l4 c4 a5 l5 c5 q1 u1 ⟨SH.out.2.1.like M1.out.1.like,SH.out.2.2.1.like M1.out.1.like,SH.out.2.2.2.1.like M1.out.1.like,SH.out.2.2.2.2.1.like M1.out.1.like,SH.out.2.2.2.2.2.like M1.out.1.like⟩ M1.out.2.2 (by omega) (by omega)
 obtain ⟨⟨y0,y1,y2,y3,y4,y5,y6,y7⟩,-⟩:=blkSrc M1.out.2.1
 simp only[]
 go_wp2_with fail
 refine Calls.mono C1.out ?_
 rintro e u2 ⟨q2,he,ha2,hb2,hm⟩
 subst he
 have M2:Hid (Mk lo hi w u2):=M1.out.1.trans hm
 clear C1 M1 hm y0 y1 y2 y3 y4 y5 y6 y7
 simp only[]
 go_wp2
 go_ret
 exact ⟨q2,rfl,by omega,by omega,M2.out⟩
end Go.Proofs.YtblbnillilbacaaGreatDoor.By
