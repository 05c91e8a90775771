/-
  No statement is proved here.
-/
import Derived.Test.YtblbnillilbacaaGreatDoorEHa
namespace Go.Proofs.YtblbnillilbacaaGreatDoor.By
set_option maxRecDepth 100000
set_option maxHeartbeats 16000000
open Go.RowKit
set_option linter.unusedVariables false
theorem toB0 (a:Option Addr) (n cap:Nat) (zs:List Int) (w:World) (h:Reads w a n zs) (hn:n≤1048576) :
  Calls Tryz.prog 58 #[.slice a n cap] w fun e w'=>e = .returned (.slice (some ⟨w.heap.size,0,none⟩) n n)∧w.grownBy w' none∧w'.heap.size=w.heap.size+1∧Row w' w.heap.size n zs:=by
 obtain ⟨hl,h⟩:=h;have hmk:=make_run n (by omega);have hr0:=made_row w n;rcases h with h0|⟨b,off,rfl,hc⟩
 ·
  subst h0;obtain rfl:zs=[]:=List.eq_nil_of_length_eq_zero hl;clear hmk;have hmk:=make_run0;go_enter Tryz.func58,Tryz.ntmps58;go_wp2;refine wp_loop_rounds 1 ?_;rw[rounds_succ];go_wp2;go_ret;exact ⟨rfl,gal _ _ _,by simp,hr0⟩
 ·
  go_enter Tryz.func58,Tryz.ntmps58;go_wp2
  go_loopw [4] (fun i wr=>∃ k:Nat,k≤n∧i = .int .i64 k∧w.grownBy wr none∧wr.heap.size=w.heap.size+1∧Row wr w.heap.size n (zs.take k++List.replicate (n - k) 0)) (fun i _=>n - (intOf i).toNat)
  case atStart=>exact ⟨0,Nat.zero_le _,rfl,gal _ _ _,by simp,by simpa using hr0⟩
  case round =>
   obtain ⟨k,hk,rfl,hg,hs,hrow⟩:=hrel;have hlt0:k < n→w.cell? ⟨b,off+k,none⟩=some (.int .u8 (zs.getD k 0)):=hc k;by_cases hlt:k < n
   ·
    have hcb:=hg.cell (hc k hlt) (by simp)
    have hlen:(zs.take k++List.replicate (n - k) 0).length=n:=by simp;omega
    have hco:=hrow.cell k (by omega);have hfr:=hrow.free k;have hst:=hrow.store k (zs.getD k 0)
    have hrow':Row (wr.setCell ⟨w.heap.size,k,none⟩ (.int .u8 (zs.getD k 0))) w.heap.size n (zs.take (k+1)++List.replicate (n - (k+1)) 0):=by
     have e:(zs.take k++List.replicate (n - k) 0).set k (zs.getD k 0)=zs.take (k+1)++List.replicate (n - (k+1)) 0:=set_step zs n k hl hlt;rw[← e];exact hst
    have HR:Hid (Row (wr.setCell ⟨w.heap.size,k,none⟩ (.int .u8 (zs.getD k 0))) w.heap.size n (zs.take (k+1)++List.replicate (n - (k+1)) 0)):=hrow';have HG:Hid (w.grownBy (wr.setCell ⟨w.heap.size,k,none⟩ (.int .u8 (zs.getD k 0))) none):=grown_own hg _ (Nat.le_refl _) _ _;clear hst hrow' hmk hr0 hrow hlen
    have hkz:k < zs.length:=by omega
    go_wp2;go_roundw
    case rel=>exact ⟨k+1,by omega,by go_num,by simpa [hkz] using HG.out,by simpa [World.setCell] using hs,by simpa [hkz] using HR.out⟩
    case measure=>simp [intOf];omega
   ·
    obtain rfl:k=n:=by omega
    clear hmk hr0;go_wp2;go_ret;exact ⟨rfl,hg,hs,by simpa [List.take_of_length_le (Nat.le_of_eq hl)] using hrow⟩
theorem toB (a:Option Addr) (n cap:Nat) (zs:List Int) (w:World) (h:Reads w a n zs) (hn:n≤1048576) :
  Calls Tryz.prog 58 #[.slice a n cap] w fun e w'=>∃ g,e = .returned (.slice (some ⟨g,0,none⟩) n n)∧w.grownBy w' none∧w.heap.size≤g∧Row w' g n zs :=
 (toB0 a n cap zs w h hn).mono fun e w' ⟨he,hg,_,hr⟩=>⟨_,he,hg,Nat.le_refl _,hr⟩
set_option linter.unusedSimpArgs false
theorem cell_any {w u:World} {p:Addr} (e:u.heap[p.block]? = w.heap[p.block]?):u.cell? p=w.cell? p:=by
 unfold World.cell?;rw[e]
def BlkN (w:World) (t:TypeId) (g k:Nat):Prop:=∃ cur:Array Value,w.heap[g]? = some (.cells cur t (0,0))∧cur.size=k
theorem BlkN.lt {w:World} {t:TypeId} {g k:Nat} (h:BlkN w t g k):g < w.heap.size:=by obtain ⟨_,h,_⟩:=h;exact lt_of_block h
theorem BlkN.of {w u:World} {t:TypeId} {g k:Nat} (h:BlkN w t g k) (e:u.heap[g]? = w.heap[g]?):BlkN u t g k:=by obtain ⟨c,h,h2⟩:=h;exact ⟨c,e.trans h,h2⟩
theorem BlkN.has {w:World} {t:TypeId} {g k:Nat} (h:BlkN w t g k) (j:Nat) (hj:j < k):∃ v,w.cell? ⟨g,j,none⟩=some v:=by
 obtain ⟨c,h,h2⟩:=h;rw[cell_of_row w g j c t (0,0) h];exact ⟨c[j]'(by omega),by simp [h2,hj]⟩
theorem BlkN.free {w:World} {t:TypeId} {g k:Nat} (h:BlkN w t g k) (j:Nat):w.frozen? ⟨g,j,none⟩=false:=by
 obtain ⟨c,h,h2⟩:=h;exact frozen_of_row w g _ _ t h
theorem BlkN.set {w:World} {t:TypeId} {g k:Nat} (h:BlkN w t g k) (j:Nat) (hj:j < k) (v:Value):BlkN (w.setCell ⟨g,j,none⟩ v) t g k∧w.grownBy (w.setCell ⟨g,j,none⟩ v) (some g)∧(w.setCell ⟨g,j,none⟩ v).cell? ⟨g,j,none⟩=some v∧∀ i,i≠j→(w.setCell ⟨g,j,none⟩ v).cell? ⟨g,i,none⟩=w.cell? ⟨g,i,none⟩:=by
 obtain ⟨c,h,h2⟩:=h;have hs:=heap_setCell_same w g j c t v h;refine ⟨⟨_,hs,by simpa using h2⟩,gsc _ _ _ _,?_,fun i hi=>?_⟩
 ·
  rw[cell_of_row _ g j _ t (0,0) hs];simp [h2,hj]
 ·
  rw[cell_of_row _ g i _ t (0,0) hs,cell_of_row w g i _ t (0,0) h];simp [Array.getElem?_setIfInBounds,Ne.symm hi]
def isPl:Obj→Bool
 | .cells _ _ fr=>decide (fr=(0,0))
 | _=>false
def hideZ (w:World) (lo:Nat):World:={ w with heap:=w.heap.mapIdx fun i o=>if lo≤i∧isPl o=true then o else .map #[] 0 }
theorem hideZ_heap {w:World} {lo i:Nat} {cur:Array Value} {t:TypeId} (h:lo≤i) (hb:w.heap[i]? = some (.cells cur t (0,0))):(hideZ w lo).heap[i]? = some (.cells cur t (0,0)):=by
 unfold hideZ;rw[Array.getElem?_mapIdx,hb];simp [h,isPl]
theorem hideZ_inv {w:World} {lo:Nat} {p:Addr} {v:Value} (h:(hideZ w lo).cell? p=some v):lo≤p.block∧w.cell? p=some v∧∃ cur t,w.heap[p.block]? = some (.cells cur t (0,0)):=by
 have key:((hideZ w lo).heap[p.block]? = none∨(hideZ w lo).heap[p.block]? = some (.map #[] 0))∨(lo≤p.block∧∃ cur t,w.heap[p.block]? = some (.cells cur t (0,0))):=by
  unfold hideZ;rw[Array.getElem?_mapIdx]
  cases hb:w.heap[p.block]? with
  | none=>exact .inl (.inl rfl)
  | some o =>
   by_cases hc:lo≤p.block∧isPl o=true
   ·
    refine .inr ⟨hc.1,?_⟩
    cases o with
    | cells cur t fr =>
     have:=hc.2;simp only[isPl,decide_eq_true_eq] at this;subst this;exact ⟨cur,t,rfl⟩
    | _=>exact absurd hc.2 (by simp [isPl])
   ·
    refine .inl (.inr ?_)
    show some (if lo≤p.block∧isPl o=true then o else .map #[] 0)=_
    rw[if_neg hc]
 obtain ⟨b,off,s⟩:=p;rcases key with (e|e) | ⟨h1,cur,t,h2⟩
 ·
  simp [World.cell?,e] at h
 ·
  simp [World.cell?,e] at h
 ·
  refine ⟨h1,?_,cur,t,h2⟩;rw[← h];exact (cell_any (p:=⟨b,off,s⟩) ((hideZ_heap h1 h2).trans h2.symm)).symm
theorem CLe.hidz {u u':World} {lo lo':Nat} (hl:lo'≤lo) (h:∀ i,lo≤i→i < u.heap.size→u'.heap[i]? = u.heap[i]?):CLe (hideZ u lo) (hideZ u' lo'):=by
 intro p v hv;obtain ⟨h1,h2,cur,t,h3⟩:=hideZ_inv hv;have e:=h p.block h1 (lt_of_block h3);have h4:=hideZ_heap (w:=u') (Nat.le_trans hl h1) (e.trans h3);rw[cell_any (w:=u) (h4.trans h3.symm)];exact h2
theorem CLe.unhidz {u:World} {lo:Nat}:CLe (hideZ u lo) u:=fun p v hv=>(hideZ_inv hv).2.1
theorem Row.hiz {w:World} {g n lo:Nat} {zs:List Int} (h:Row w g n zs) (hz:Byt zs) (hl:zs.length=n) (hn:n≤1048576) (hg:lo≤g):RdB (hideZ w lo) (some ⟨g,0,none⟩) n zs:=by
 obtain ⟨cur,hc,hr⟩:=h;have h2:Row (hideZ w lo) g n zs:=⟨cur,hideZ_heap hg hc,hr⟩;exact ⟨h2.reads' hl,hz,by omega⟩
theorem SlO.blkz {w:World} {t:TypeId} {f:F} {a:Option Addr} {l c:Nat} {bs:List Nat} (h:SlO w t a l c f bs):∀ g ∈ bs,∃ cur,w.heap[g]? = some (.cells cur t (0,0)):=by
 have key:∀ (f:F) (b off:Nat) (bs:List Nat),OwnF w t f b off bs→∀ g ∈ bs,∃ cur,w.heap[g]? = some (.cells cur t (0,0)):=by
  intro f
  induction f with
  | nil=>intro b off bs h g hg;rw[show bs=[] from h] at hg;simp at hg
  | cons k n d r ihd ihr =>
   intro b off bs h g hg;obtain ⟨bs1,bs2,rfl,⟨a,l,c,h0,h1,h2,h3,h4,h5,h6⟩,hr⟩:=h;rcases List.mem_append.1 hg with hg|hg
   ·
    rcases h6 with ⟨_,rfl⟩|⟨g',bs',_,_,rfl,⟨cur,hb,_⟩,h6⟩
    ·
     simp at hg
    ·
     rcases List.mem_cons.1 hg with rfl|hg
     ·
      exact ⟨cur,hb⟩
     ·
      exact ihd _ _ _ h6 g hg
   ·
    exact ihr _ _ _ hr g hg
 obtain ⟨h1,h2,h3,h4⟩:=h;intro g hg;rcases h4 with ⟨_,rfl⟩|⟨g',bs',_,_,rfl,⟨cur,hb,_⟩,h6⟩
 ·
  simp at hg
 ·
  rcases List.mem_cons.1 hg with rfl|hg
  ·
   exact ⟨cur,hb⟩
  ·
   exact key _ _ _ _ h6 g hg
theorem hideZ_cell {w:World} {lo i j k:Nat} {t:TypeId} (h:lo≤i) (hB:BlkN w t i k):(hideZ w lo).cell? ⟨i,j,none⟩=w.cell? ⟨i,j,none⟩:=by
 obtain ⟨cur,hc,_⟩:=hB;exact cell_any (p:=⟨i,j,none⟩) ((hideZ_heap h hc).trans hc.symm)
theorem hiz_grown {w u:World} {lo:Nat} (h:w.grownBy u none):CLe (hideZ w lo) (hideZ u lo):=CLe.hidz (Nat.le_refl _) (fun i _ h2=>h.block i h2 (by simp))
theorem hiz_into {w u:World} {lo p:Nat} (h:w.grownBy u (some p)) (hp:p < lo):CLe (hideZ w lo) (hideZ u lo):=CLe.hidz (Nat.le_refl _) (fun i h1 h2=>h.block i h2 (by simp;omega))
theorem hiz_low {w:World} {lo lo':Nat} (h:lo'≤lo):CLe (hideZ w lo) (hideZ w lo'):=CLe.hidz h (fun _ _ _=>rfl)
theorem infoCo:(Tryz.prog.info? 73).map (fun i=>(i.zero,i.size,i.bytes))=some (some (.agg #[.slice none 0 0,.slice none 0 0]),2,48):=by kernel_rfl
theorem infoDa:(Tryz.prog.info? 68).map (fun i=>(i.zero,i.size,i.bytes))=some (some (.agg #[.slice none 0 0,.int .i64 0,.slice none 0 0]),3,56):=by kernel_rfl
theorem makeCo (n:Nat) (hn:n≤4194304) (w:World):(Instr.makeSlice 66 (.int .i64 (n:Int)) (.int .i64 (n:Int))).run Tryz.prog w = .ok (.slice (some ⟨w.heap.size,0,none⟩) n n) (w.alloc (.cells (madeCells #[.slice none 0 0,.slice none 0 0] (n * 2)) 73)):=by
 obtain ⟨i0,hi,hz0,hz1,hz2⟩:=info_parts infoCo;have h:=run_make (P:=Tryz.prog) (w:=w) 66 73 i0 _ Tryz.underlying66 hi hz0 .i64 .i64 (n:Int) (n:Int) (by omega) (by omega) (by rw[hz2];omega) (by omega);rw[hz1] at h;simpa [Value.cells] using h
theorem makeCo0 (w:World):(Instr.makeSlice 66 (.int .i64 0) (.int .i64 0)).run Tryz.prog w = .ok (.slice (some ⟨w.heap.size,0,none⟩) 0 0) (w.alloc (.cells (madeCells #[.slice none 0 0,.slice none 0 0] 0) 73)):=makeCo 0 (by omega) w
theorem madeCo_blk (w:World) (n:Nat):BlkN (w.alloc (.cells (madeCells #[.slice none 0 0,.slice none 0 0] (n * 2)) 73)) 73 w.heap.size (n * 2):=⟨_,heap_alloc_new w _,by simp [madeCells]⟩
theorem makeDa (n:Nat) (hn:n≤4194304) (w:World):(Instr.makeSlice 32 (.int .i64 (n:Int)) (.int .i64 (n:Int))).run Tryz.prog w = .ok (.slice (some ⟨w.heap.size,0,none⟩) n n) (w.alloc (.cells (madeCells #[.slice none 0 0,.int .i64 0,.slice none 0 0] (n * 3)) 68)):=by
 obtain ⟨i0,hi,hz0,hz1,hz2⟩:=info_parts infoDa;have h:=run_make (P:=Tryz.prog) (w:=w) 32 68 i0 _ Tryz.underlying32 hi hz0 .i64 .i64 (n:Int) (n:Int) (by omega) (by omega) (by rw[hz2];omega) (by omega);rw[hz1] at h;simpa [Value.cells] using h
theorem makeDa0 (w:World):(Instr.makeSlice 32 (.int .i64 0) (.int .i64 0)).run Tryz.prog w = .ok (.slice (some ⟨w.heap.size,0,none⟩) 0 0) (w.alloc (.cells (madeCells #[.slice none 0 0,.int .i64 0,.slice none 0 0] 0) 68)):=makeDa 0 (by omega) w
theorem madeDa_blk (w:World) (n:Nat):BlkN (w.alloc (.cells (madeCells #[.slice none 0 0,.int .i64 0,.slice none 0 0] (n * 3)) 68)) 68 w.heap.size (n * 3):=⟨_,heap_alloc_new w _,by simp [madeCells]⟩
theorem toCoT (x:Co) (a:Option Addr) (n c:Nat) (a':Option Addr) (l' c':Nat) (w:World) (h:RdB w a n x.name) (h':SlF w a' l' x.flds) (hs:szCo x≤1048576) :
  Calls Tryz.prog 123 #[.agg #[.slice a n c,.slice a' l' c']] w fun e u=>∃ a1 c1 a2 c2,e = .returned (.agg #[.slice a1 n c1,.slice a2 l' c2])∧w.grownBy u none∧RdB (hideZ u w.heap.size) a1 n x.name∧SlF (hideZ u w.heap.size) a2 l' x.flds:=by
 obtain ⟨b0,b1,b2,bsz⟩:=alloc3_blocks w (.cells #[.slice a n c,.slice a' l' c'] 155) (.cells #[.slice none 0 0,.slice none 0 0] 73) (.cells #[.slice none 0 0,.slice none 0 0] 73);have g0:=grown_alloc (grown_alloc (grown_alloc (grf w none) (.cells #[.slice a n c,.slice a' l' c'] 155)) (.cells #[.slice none 0 0,.slice none 0 0] 73)) (.cells #[.slice none 0 0,.slice none 0 0] 73);have hnl:=h.1.1;have C0:Hid _:=toB a n c x.name _ (h.none g0).1 (by unfold szCo at hs;omega);have HX:Hid (Byt x.name∧x.name.length=n∧szCo x≤1048576∧SlF w a' l' x.flds):=⟨h.2.1,hnl,hs,h'⟩;have L0:Hid (w.grownBy _ none∧_=some (Obj.cells #[.slice a n c,.slice a' l' c'] 155)∧_=some (Obj.cells #[.slice none 0 0,.slice none 0 0] 73)∧_=some (Obj.cells #[.slice none 0 0,.slice none 0 0] 73)∧_=w.heap.size+1+1+1):=⟨g0,b0,b1,b2,bsz⟩;obtain ⟨⟨y0,y1⟩,-⟩:=two2 b0;clear g0 b0 b1 b2 bsz h h' hnl hs;go_enter Tryz.func123,Tryz.ntmps123
 go_wp2_with fail;refine Calls.mono C0.out ?_;rintro e u ⟨g,he,hg,hgl,hrow⟩;subst he;obtain ⟨g1,c0,c1,c2,hsz⟩:=L0.out;rw[hsz] at hgl;have c0':=(hg.block _ (lt_of_block c0) (by simp)).trans c0;have c1':=(hg.block _ (lt_of_block c1) (by simp)).trans c1;have c2':=(hg.block _ (lt_of_block c2) (by simp)).trans c2;have g2:=gtr g1 hg;clear C0 L0 g1 c0 c1 c2 hsz hg y0 y1;generalize e0:w.heap.size=p0 at *;generalize e1:p0+1=p1 at *;generalize e2:p1+1=p2 at *
 have n02:p0≠p2:=by omega
 have n12:p1≠p2:=by omega
 have n01:p0≠p1:=by omega
 obtain ⟨⟨y0,y1⟩,-⟩:=two2 c0';obtain ⟨⟨z0,z1⟩,f0,f1⟩:=two2 c2';have k2:=gsc u p2 0 (.slice (some ⟨g,0,none⟩) n n);have gv:w.grownBy (u.setCell ⟨p2,0,none⟩ (.slice (some ⟨g,0,none⟩) n n)) none:=grown_into g2 k2 (by omega);have d2:=heap_setCell_same u p2 0 _ _ (.slice (some ⟨g,0,none⟩) n n) c2';have d1:=(k2.block _ (lt_of_block c1') (by simp;omega)).trans c1';have d0:=(k2.block _ (lt_of_block c0') (by simp;omega)).trans c0';have rw1:=hrow.kept k2 (by simp;omega);have C1:Hid _:=toS x.flds.size x.flds a' l' c' (u.setCell ⟨p2,0,none⟩ (.slice (some ⟨g,0,none⟩) n n)) (Nat.le_refl _) (by have:=HX.out.2.2.1;unfold szCo at this;omega) (HX.out.2.2.2.none gv);have d2':(u.setCell ⟨p2,0,none⟩ (.slice (some ⟨g,0,none⟩) n n)).heap[p2]? = some (Obj.cells #[.slice (some ⟨g,0,none⟩) n n,.slice none 0 0] 73):=d2;have L2:Hid (w.grownBy (u.setCell ⟨p2,0,none⟩ (.slice (some ⟨g,0,none⟩) n n)) none∧(u.setCell ⟨p2,0,none⟩ (.slice (some ⟨g,0,none⟩) n n)).heap[p1]? = some (Obj.cells #[.slice none 0 0,.slice none 0 0] 73)∧(u.setCell ⟨p2,0,none⟩ (.slice (some ⟨g,0,none⟩) n n)).heap[p2]? = some (Obj.cells #[.slice (some ⟨g,0,none⟩) n n,.slice none 0 0] 73)∧Row (u.setCell ⟨p2,0,none⟩ (.slice (some ⟨g,0,none⟩) n n)) g n x.name∧p2 < g∧w.heap.size=p0∧p0+1=p1∧p1+1=p2):=⟨gv,d1,d2',rw1,by omega,e0,e1,e2⟩
 clear gv d1 d2 d2' rw1 hgl e0 e1 e2 g2 hrow c0' c1' c2' k2 d0;simp only[];go_wp2_with fail;refine Calls.mono C1.out ?_;rintro e u2 ⟨a2,c2,bs,he,hg,hN⟩;subst he;obtain ⟨gv,d1,d2,hrow,hpg,e0,e1,e2⟩:=L2.out;have d1':=(hg.block _ (lt_of_block d1) (by simp)).trans d1;have d2':=(hg.block _ (lt_of_block d2) (by simp)).trans d2
 have hbs:∀ y ∈ bs,p2 < y:=fun y hy=>Nat.lt_of_lt_of_le (lt_of_block d2) (hN.2.2 y hy)
 have r2:=hrow.kept hg (by simp);obtain ⟨⟨v0,v1⟩,q0,q1⟩:=two2 d2';obtain ⟨⟨x0,x1⟩,s0,s1⟩:=two2 d1';have k3:=gsc u2 p2 1 (.slice a2 l' c2);have m2:(u2.setCell ⟨p2,1,none⟩ (.slice a2 l' c2)).heap[p2]? = some (Obj.cells #[.slice (some ⟨g,0,none⟩) n n,.slice a2 l' c2] 73):=heap_setCell_same u2 p2 1 _ _ (.slice a2 l' c2) d2';have m1:=(k3.block _ (lt_of_block d1') (by simp;omega)).trans d1';have k4:=gsc (u2.setCell ⟨p2,1,none⟩ (.slice a2 l' c2)) p1 0 (.slice (some ⟨g,0,none⟩) n n);have m3:=heap_setCell_same _ p1 0 _ _ (.slice (some ⟨g,0,none⟩) n n) m1;have k5:=gsc ((u2.setCell ⟨p2,1,none⟩ (.slice a2 l' c2)).setCell ⟨p1,0,none⟩ (.slice (some ⟨g,0,none⟩) n n)) p1 1 (.slice a2 l' c2);have m4:(((u2.setCell ⟨p2,1,none⟩ (.slice a2 l' c2)).setCell ⟨p1,0,none⟩ (.slice (some ⟨g,0,none⟩) n n)).setCell ⟨p1,1,none⟩ (.slice a2 l' c2)).heap[p1]? = some (Obj.cells #[.slice (some ⟨g,0,none⟩) n n,.slice a2 l' c2] 73):=heap_setCell_same _ p1 1 _ _ (.slice a2 l' c2) m3
 have GF:=grown_into (grown_into (grown_into (gtr gv hg) k3 (by omega)) k4 (by omega)) k5 (by omega);have rf:=((r2.kept k3 (by simp;omega)).kept k4 (by simp;omega)).kept k5 (by simp;omega);have sf:=((hN.1.kept k3 (fun y hy=>by have:=hbs y hy;simp;omega)).kept k4 (fun y hy=>by have:=hbs y hy;simp;omega)).kept k5 (fun y hy=>by have:=hbs y hy;simp;omega);have FQ:Hid _:=And.intro m4 (And.intro GF (And.intro (rf.hiz HX.out.1 HX.out.2.1 (by have:=HX.out.2.2.1;have:=HX.out.2.1;unfold szCo at *;omega) (lo:=p0) (by omega)) (sf.of (w':=hideZ _ p0) (fun y hy=>by obtain ⟨cur,hc⟩:=sf.blkz y hy;exact (hideZ_heap (by have:=hbs y hy;omega) hc).trans hc.symm)).reads));clear gv d1 d2 hrow hpg d1' d2' hbs r2 k3 m2 m1 k4 m3 k5 m4 GF rf sf hg hN C1 L2 y0 y1 z0 z1 f0 f1
 have p12:p2≠p1:=by omega
 simp only[];go_wp2
 (try simp only[Exit.inBlock,Exit.then])
 refine bodyPost_ret (results_cell_row (P:=Tryz.prog) Tryz.results123 _ _ p1 _ _ _ _ rfl FQ.out.1 Tryz.underlying73 rfl (by kernel_rfl)) rfl ?_;refine ⟨_,_,a2,c2,rfl,?_⟩;rw[e0];exact FQ.out.2
end Go.Proofs.YtblbnillilbacaaGreatDoor.By
