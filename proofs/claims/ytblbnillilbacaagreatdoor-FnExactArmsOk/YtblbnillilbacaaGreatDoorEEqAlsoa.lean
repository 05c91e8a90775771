/-
  No statement is proved here.
-/
import Derived.Test.YtblbnillilbacaaGreatDoorEObAlsoa
import Derived.BigQuiet
import Derived.Handy
namespace Go.Proofs.YtblbnillilbacaaGreatDoor.By
set_option maxRecDepth 100000
set_option maxHeartbeats 16000000
open Go.RowKit
set_option linter.unusedVariables false
def szV (f:F) (L:Int):Int:=if (f.size:Int)≤L then L - f.size else -1
def szR (R:F) (L:Int):Int:=if (R.size:Int) - R.len≤L then L - (R.size - R.len) else -1
theorem szR_nil {L:Int} (h:0≤L):szR .nil L=L:=by
 have:szR .nil L=if (0:Int)≤L then L - 0 else -1:=rfl;rw[this,if_pos h,Int.sub_zero]
theorem szR_all {f:F} {L:Int} {l:Nat} (h:f.len=l):szV f L=szR f (L - l):=by
 unfold szV szR;by_cases hs:(f.size:Int)≤L
 ·
  rw[if_pos hs,if_pos (by omega)];omega
 ·
  rw[if_neg hs,if_neg (by omega)]
theorem szR_cons {k n:Int} {d r:F} {L:Int} (h:(d.size:Int)≤L):szR (.cons k n d r) L=szR r (L - d.size):=by
 unfold szR
 have e1:((F.cons k n d r).size:Int)=1+d.size+r.size:=by simp [F.size]
 have e2:((F.cons k n d r).len:Int)=r.len+1:=by simp [F.len]
 rw[e1,e2];by_cases hq:(r.size:Int) - r.len≤L - d.size
 ·
  rw[if_pos (by omega),if_pos hq];omega
 ·
  rw[if_neg (by omega),if_neg hq]
theorem szR_less {k n:Int} {d r:F} {L:Int} (h:¬ (d.size:Int)≤L):szR (.cons k n d r) L = -1:=by
 have:=r.len_le;unfold szR
 have e1:((F.cons k n d r).size:Int)=1+d.size+r.size:=by simp [F.size]
 have e2:((F.cons k n d r).len:Int)=r.len+1:=by simp [F.len]
 rw[e1,e2,if_neg (by omega)]
theorem szT_of {d:F} {a:Option Addr} {l c:Nat} {L:Int} (k n:Int) (w:World) (h:SlF w a l d)
  (H:∀ w',w.grownBy w' none→Calls Tryz.prog 147 #[.slice a l c,.int .i64 L] w' fun e u=>e = .returned (.int .i64 (szV d L))∧w'.grownBy u none) :
  Calls Tryz.prog 158 #[.agg #[.int .i64 k,.int .i64 n,.slice a l c],.int .i64 L] w fun e u=>e = .returned (.int .i64 (szV d L))∧w.grownBy u none:=by
 have g0:=gal w (.cells #[.int .i64 k,.int .i64 n,.slice a l c] 192) none;have H0:Hid _:=H _ g0;have G0:Hid (w.grownBy _ none):=g0;clear g0 H;go_enter Tryz.func158,Tryz.ntmps158;go_wp2_with fail;refine Calls.mono H0.out ?_;rintro e u ⟨rfl,hg⟩;have G1:Hid (w.grownBy u none):=gtr G0.out hg;clear hg G0 H0;simp only[];by_cases hs:(d.size:Int)≤L
 ·
  have e1:szV d L=L - d.size:=if_pos hs;have E:Hid (szV d L=L - d.size):=e1;rw[e1];clear e1;go_wp2;go_ret;exact ⟨by rw[E.out];rfl,G1.out⟩
 ·
  have e1:szV d L = -1:=if_neg hs;have E:Hid (szV d L = -1):=e1;rw[e1];clear e1;go_wp2;go_ret;exact ⟨by rw[E.out];rfl,G1.out⟩
theorem szS (m:Nat):∀ (f:F) (a:Option Addr) (l c:Nat) (L:Int) (w:World),f.size≤m→SlF w a l f→0≤L→L≤1048576 →
  Calls Tryz.prog 147 #[.slice a l c,.int .i64 L] w fun e u=>e = .returned (.int .i64 (szV f L))∧w.grownBy u none:=by
 induction m with
 | zero =>
  intro f a l c L w hm h h0 h1;have hlen:=f.len_le;obtain ⟨e1,e2,-⟩:=h
  obtain rfl:l=0:=by omega
  obtain rfl:=F.nil_of_len e1;go_enter Tryz.func147,Tryz.ntmps147;go_wp2;refine wp_loop_rounds 1 ?_;rw[rounds_succ];go_wp2;go_ret;exact ⟨by simp [szV,F.size,h0],grf _ _⟩
 | succ m ih =>
  intro f a l c L w hm h h0 h1;have hlen:=f.len_le;have hl:=h.2.1;have hfl:=h.1;by_cases hneg:L - (l:Int) < 0
  ·
   have ev:szV f L = -1:=if_neg (by omega);rw[ev];go_enter Tryz.func147,Tryz.ntmps147;go_wp2;go_ret;exact ⟨rfl,grf _ _⟩
  rcases h.cases with ⟨rfl,rfl⟩|⟨b,o,rfl,hin,-,hpos⟩
  ·
   go_enter Tryz.func147,Tryz.ntmps147;go_wp2;refine wp_loop_rounds 1 ?_;rw[rounds_succ];go_wp2;go_ret;exact ⟨by simp [szV,F.size,h0],grf _ _⟩
  have IH:Hid _:=ih;have IN:Hid (InF w f b o):=hin;clear ih hin h;go_enter Tryz.func147,Tryz.ntmps147;go_wp2
  go_loopw [1,5] (fun v i wr=>∃ (j:Nat) (R:F) (Lj:Int),j≤l∧i = .int .i64 j∧v = .int .i64 Lj∧0≤Lj∧Lj≤1048576∧w.grownBy wr none∧InF wr R b (o+j * 3)∧R.len+j=l∧R.size≤f.size∧szV f L=szR R Lj) (fun _ i _=>l - (intOf i).toNat)
  case atStart =>
   refine ⟨0,f,_,Nat.zero_le _,rfl,rfl,by omega,by omega,grf _ _,by simpa using IN.out,by omega,Nat.le_refl _,szR_all hfl⟩
  case round =>
   obtain ⟨j,R,Lj,hj,rfl,rfl,hj0,hj1,hg,hR,hRl,hRs,hv⟩:=hrel;by_cases hlt:j < l
   ·
    obtain ⟨q,hq⟩:∃ q,R.len=q+1:=⟨R.len - 1,by omega⟩;obtain ⟨kk,nn,d,R',rfl,hR'⟩:=F.cons_of_len hq;obtain ⟨a',l',c',c0,c1,c2,hd,hR2⟩:=hR.out
    have e3:o+j * 3+3=o+(j+1) * 3:=by omega
    rw[e3] at hR2;have lens:=R'.len_le
    have hds:d.size≤m:=by simp only[F.size] at hRs hm;omega
    have C:=szT_of (c:=c') (L:=Lj) kk nn wr hd (fun w' hw'=>IH.out d a' l' c' Lj w' hds (hd.none hw') hj0 hj1);have CC:Hid _:=C;have HV:Hid (szV f L=_):=hv;have FX:Hid (InF wr R' b (o+(j+1) * 3)∧w.grownBy wr none):=⟨hR2,hg⟩;clear C hd hR hR2 hg hv IN IH;go_wp2_with fail;refine Calls.mono CC.out ?_;rintro e u ⟨rfl,hgu⟩;obtain ⟨hR2,hg⟩:=FX.out;have FY:Hid (InF u R' b (o+(j+1) * 3)∧w.grownBy u none):=⟨hR2.none hgu,gtr hg hgu⟩;clear hR2 hg hgu CC c0 c1 c2 FX;simp only[];by_cases hs:(d.size:Int)≤Lj
    ·
     have e1:szV d Lj=Lj - d.size:=if_pos hs;rw[e1];clear e1;go_wp2;go_roundw
     case rel =>
      refine ⟨j+1,R',_,by omega,by go_num,rfl,by omega,by omega,FY.out.2,FY.out.1,by omega,by simp only[F.size] at hRs;omega,HV.out.trans (szR_cons hs)⟩
     case measure=>simp [intOf];omega
    ·
     have e1:szV d Lj = -1:=if_neg hs;rw[e1];have E:Hid (szV f L = -1):=HV.out.trans (szR_less hs);clear e1;go_wp2;go_ret;exact ⟨by rw[E.out];rfl,FY.out.2⟩
   ·
    obtain rfl:j=l:=by omega
    obtain rfl:R = .nil:=F.nil_of_len (by omega);have E:Hid (szV f L=Lj):=hv.trans (szR_nil hj0);clear hv;go_wp2;go_ret;exact ⟨by rw[E.out];rfl,hg⟩
theorem infoT:(Tryz.prog.info? 79).map (fun i=>(i.zero,i.size,i.bytes))=some (some (.agg #[.int .i64 0,.int .i64 0,.slice none 0 0]),3,40):=by kernel_rfl
theorem makeT (n:Nat) (hn:n≤4194304) (w:World):(Instr.makeSlice 71 (.int .i64 (n:Int)) (.int .i64 (n:Int))).run Tryz.prog w = .ok (.slice (some ⟨w.heap.size,0,none⟩) n n) (w.alloc (.cells (madeCells #[.int .i64 0,.int .i64 0,.slice none 0 0] (n * 3)) 79)):=by
 obtain ⟨i0,hi,hz0,hz1,hz2⟩:=info_parts infoT;have h:=run_make (P:=Tryz.prog) (w:=w) 71 79 i0 _ Tryz.underlying71 hi hz0 .i64 .i64 (n:Int) (n:Int) (by omega) (by omega) (by rw[hz2];omega) (by omega);rw[hz1] at h;simpa [Value.cells] using h
theorem makeT0 (w:World):(Instr.makeSlice 71 (.int .i64 0) (.int .i64 0)).run Tryz.prog w = .ok (.slice (some ⟨w.heap.size,0,none⟩) 0 0) (w.alloc (.cells (madeCells #[.int .i64 0,.int .i64 0,.slice none 0 0] 0) 79)):=makeT 0 (by omega) w
theorem madeT_blk (w:World) (n:Nat):Blk (w.alloc (.cells (madeCells #[.int .i64 0,.int .i64 0,.slice none 0 0] (n * 3)) 79)) 79 w.heap.size n:=by
 refine ⟨_,heap_alloc_new w _,?_⟩;simp [madeCells]
theorem toT_of {d:F} {a:Option Addr} {l c:Nat} (k n:Int) (w:World) (h:SlF w a l d)
  (H:∀ w',w.grownBy w' none→Calls Tryz.prog 148 #[.slice a l c] w' fun e u=>∃ a' c' bs,e = .returned (.slice a' l c')∧w'.grownBy u none∧New w' u 79 a' l c' d bs) :
  Calls Tryz.prog 159 #[.agg #[.int .i64 k,.int .i64 n,.slice a l c]] w fun e u=>∃ a' c' bs,e = .returned (.agg #[.int .i64 k,.int .i64 n,.slice a' l c'])∧w.grownBy u none∧New w u 79 a' l c' d bs:=by
 have HH:Hid _:=H;clear H h;go_enter Tryz.func159,Tryz.ntmps159;go_wp2_with fail;obtain ⟨b0,b1,b2,bsz⟩:=alloc3_blocks w (.cells #[.int .i64 k,.int .i64 n,.slice a l c] 192) (.cells #[.int .i64 0,.int .i64 0,.slice none 0 0] 79) (.cells #[.int .i64 k,.int .i64 n,.slice none 0 0] 79);have g0:=grown_alloc (grown_alloc (grown_alloc (grf w none) (.cells #[.int .i64 k,.int .i64 n,.slice a l c] 192)) (.cells #[.int .i64 0,.int .i64 0,.slice none 0 0] 79)) (.cells #[.int .i64 k,.int .i64 n,.slice none 0 0] 79);refine Calls.mono (HH.out _ g0) ?_;rintro e u ⟨a',c',bs,rfl,hg,hn⟩
 have hbs:∀ x ∈ bs,w.heap.size+1+1 < x:=fun x hx=>by have:=hn.2.2 x hx;rw[bsz] at this;omega
 have c0:=(hg.block _ (by rw[bsz];omega) (by simp)).trans b0;have c1:=(hg.block _ (by rw[bsz];omega) (by simp)).trans b1;have c2:=(hg.block _ (by rw[bsz];omega) (by simp)).trans b2;have g1:=gtr g0 hg;have hs:=hg.size;rw[bsz] at hs;have hS:=hn.1;have hN:=hn.2.1;clear hg g0 bsz hn b0 b1 b2 HH;generalize e0:w.heap.size=p0 at *;generalize e1:p0+1=p1 at *;generalize e2:p1+1=p2 at *
 have n12:p1≠p2:=by omega
 have n21:p2≠p1:=by omega
 obtain ⟨⟨y0,y1,y2⟩,f0,f1,f2⟩:=three c2;obtain ⟨⟨z0,z1,z2⟩,r0,r1,r2⟩:=three c1;have FX:Hid (w.grownBy u none∧SlO u 79 a' l c' d bs∧bs.Nodup∧(∀ x ∈ bs,p2 < x)∧u.heap[p1]? = _∧u.heap[p2]? = _∧w.heap.size=p0∧p0+1=p1∧p1+1=p2):=⟨g1,hS,hN,hbs,c1,c2,e0,e1,e2⟩;clear c0 c1 c2 g1 hs hS hN hbs e0 e1 e2;simp only[];go_wp2_with fail;obtain ⟨g1,hS,hN,hbs,c1,c2,e0,e1,e2⟩:=FX.out;have k2:=gsc u p2 2 (.slice a' l c');have d1:=(k2.block p1 (lt_of_block c1) (by simp;omega)).trans c1;obtain ⟨d1',k1⟩:=fill3 (.int .i64 k) (.int .i64 n) (.slice a' l c') d1;refine bodyPost_ret (results_cell_row (P:=Tryz.prog) Tryz.results159 _ _ p1 _ _ _ _ rfl d1' Tryz.underlying79 rfl (by kernel_rfl)) rfl ?_;exact ⟨a',c',bs,rfl,grown_into (grown_into g1 k2 (by omega)) k1 (by omega),(hS.kept k2 (fun x hx=>by have:=hbs x hx;simp;omega)).kept k1 (fun x hx=>by have:=hbs x hx;simp;omega),hN,fun x hx=>by have:=hbs x hx;omega⟩
theorem toS (m:Nat):∀ (f:F) (a:Option Addr) (l c:Nat) (w:World),f.size≤m→m≤1048576→SlF w a l f →
  Calls Tryz.prog 148 #[.slice a l c] w fun e u=>∃ a' c' bs,e = .returned (.slice a' l c')∧w.grownBy u none∧New w u 79 a' l c' f bs:=by
 induction m with
 | zero =>
  intro f a l c w hm _ h;have hlen:=f.len_le;obtain ⟨e1,e2,-⟩:=h
  obtain rfl:l=0:=by omega
  obtain rfl:=F.nil_of_len e1;have hmk:=makeT0;go_enter Tryz.func148,Tryz.ntmps148;go_wp2;refine wp_loop_rounds 1 ?_;rw[rounds_succ];go_wp2;go_ret;exact ⟨_,_,[],rfl,gal _ _ _,⟨rfl,by omega,by omega,.inl ⟨rfl,rfl⟩⟩,List.nodup_nil,fun g hg=>by simp at hg⟩
 | succ m ih =>
  intro f a l c w hm hm2 h;have hlen:=f.len_le;have hl:=h.2.1;have hfl:=h.1;rcases h.cases with ⟨rfl,rfl⟩|⟨b,o,rfl,hin,-,hpos⟩
  ·
   have hmk:=makeT0;go_enter Tryz.func148,Tryz.ntmps148;go_wp2;refine wp_loop_rounds 1 ?_;rw[rounds_succ];go_wp2;go_ret;exact ⟨_,_,[],rfl,gal _ _ _,⟨rfl,by omega,by omega,.inl ⟨rfl,rfl⟩⟩,List.nodup_nil,fun g hg=>by simp at hg⟩
  have hmk:=makeT l (by omega);have hb0:=madeT_blk w l;have IH:Hid _:=ih;have IN:Hid (InF w f b o):=hin;have HB:Hid _:=hb0;clear ih hin h hb0;go_enter Tryz.func148,Tryz.ntmps148;go_wp2
  go_loopw [4] (fun i wr=>∃ (j:Nat) (P R:F) (bs:List Nat),j≤l∧i = .int .i64 j∧w.grownBy wr none∧InF w R b (o+j * 3)∧P.app R=f∧P.len=j∧R.size≤f.size∧R.len+j=l∧Blk wr 79 w.heap.size l∧OwnF wr 79 P w.heap.size 0 bs∧bs.Nodup∧∀ x ∈ bs,w.heap.size < x) (fun i _=>l - (intOf i).toNat)
  case atStart=>exact ⟨0,.nil,f,[],Nat.zero_le _,rfl,gal _ _ _,by simpa using IN.out,rfl,rfl,Nat.le_refl _,by omega,HB.out,rfl,List.nodup_nil,fun x hx=>by simp at hx⟩
  case round =>
   obtain ⟨j,P,R,bs,hj,rfl,hg,hR,hPR,hPl,hRs,hRl,hB,hO,hN,hbs⟩:=hrel;by_cases hlt:j < l
   ·
    obtain ⟨q,hq⟩:∃ q,R.len=q+1:=⟨R.len - 1,by omega⟩;obtain ⟨kk,nn,d,R',rfl,hR'⟩:=F.cons_of_len hq;obtain ⟨a',l',c',c0,c1,c2,hd,hR2⟩:=hR.out
    have e3:o+j * 3+3=o+(j+1) * 3:=by omega
    rw[e3] at hR2
    have hds:d.size≤m:=by simp only[F.size] at hRs hm;omega
    have c0:=hg.cell c0 (by simp);have c1:=hg.cell c1 (by simp);have c2:=hg.cell c2 (by simp);have hd:=hd.none hg;have C:=toT_of (c:=c') kk nn wr hd (fun w' hw'=>IH.out d a' l' c' w' hds (by omega) (hd.none hw'));have CC:Hid _:=C;have FX:Hid (InF w R' b (o+(j+1) * 3)∧w.grownBy wr none∧P.app (.cons kk nn d R')=f∧Blk wr 79 w.heap.size l∧OwnF wr 79 P w.heap.size 0 bs∧bs.Nodup∧∀ x ∈ bs,w.heap.size < x):=⟨hR2,hg,hPR,hB,hO,hN,hbs⟩;clear C hd hR hR2 hg IN IH hPR hB hO hN hbs hmk HB;go_wp2_with fail;refine Calls.mono CC.out ?_;rintro e u ⟨a2,d2,bs2,rfl,hgu,hnew⟩;obtain ⟨hR2,hg,hPR,hB,hO,hN,hbs⟩:=FX.out;have hBu:=hB.of (hgu.block _ hB.lt (by simp));obtain ⟨v0,w0⟩:=hBu.has (j * 3) (by omega);obtain ⟨v1,w1⟩:=hBu.has (j * 3+1) (by omega);obtain ⟨v2,w2⟩:=hBu.has (j * 3+2) (by omega);have x0:=hBu.free (j * 3);have x1:=hBu.free (j * 3+1);have x2:=hBu.free (j * 3+2);have FY:Hid _:=And.intro hBu (And.intro hgu hnew)
    clear hR2 hg hPR hB hO hN hbs hBu hgu hnew CC c0 c1 c2;simp only[];go_wp2;obtain ⟨hR2,hg,hPR,hB,hO,hN,hbs⟩:=FX.out;obtain ⟨hBu,hgu,hS,hN2,hb2⟩:=FY.out;obtain ⟨hB3,hk3,⟨t0,t1,t2⟩,hoth⟩:=hBu.put3 (j * 3) (by omega) (.int .i64 kk) (.int .i64 nn) (.slice a2 l' d2);have hsz:=hB.lt
    have hne2:∀ x ∈ bs2,some x≠some w.heap.size:=fun x hx=>by have:=hb2 x hx;simp;omega
    have hO1:=hO.old hgu hsz;have hO2:=hO1.move (w':=((u.setCell ⟨w.heap.size,j * 3,none⟩ (.int .i64 kk)).setCell ⟨w.heap.size,j * 3+1,none⟩ (.int .i64 nn)).setCell ⟨w.heap.size,j * 3+2,none⟩ (.slice a2 l' d2)) (b':=w.heap.size) (off':=0) (fun i hi=>hoth _ (.inl (by omega))) (fun x hx=>hk3.block x (by have:=hO1.lt x hx;exact this) (by have:=hbs x hx;simp;omega));have hO3:=hO2.app (OwnF.one (b:=w.heap.size) (off:=0+P.len * 3) (by rw[hPl,Nat.zero_add];exact t0) (by rw[hPl,Nat.zero_add];exact t1) (by rw[hPl,Nat.zero_add];exact t2) (hS.kept hk3 hne2))
    have hlP:(P.app (.cons kk nn d .nil)).len=j+1:=by rw[F.app_len,hPl];rfl
    have hdis:∀ x ∈ bs,∀ y ∈ bs2,x≠y:=fun x hx y hy e=>by have:=hO.lt x hx;have:=hb2 y hy;omega
    go_roundw
    case rel=>exact ⟨j+1,P.app (.cons kk nn d .nil),R',bs++bs2,by omega,by go_num,grown_into (gtr hg hgu) hk3 (Nat.le_refl _),hR2,by rw[F.app_assoc];exact hPR,hlP,by simp only[F.size] at hRs;omega,by omega,hB3,hO3,List.nodup_append.2 ⟨hN,hN2,hdis⟩,fun x hx=>by
     rcases List.mem_append.1 hx with hx|hx
     ·
      exact hbs x hx
     ·
      have:=hb2 x hx;omega⟩
    case measure=>simp [intOf];omega
   ·
    obtain rfl:j=l:=by omega
    obtain rfl:R = .nil:=F.nil_of_len (by omega);rw[F.app_nil] at hPR;subst hPR;clear hmk;go_wp2;go_ret
    exact ⟨_,_,w.heap.size::bs,rfl,hg,⟨hPl,hl,Nat.le_refl _,.inr ⟨w.heap.size,bs,hpos,rfl,rfl,hB,hO⟩⟩,List.nodup_cons.2 ⟨fun hx=>by have:=hbs _ hx;omega,hN⟩,fun x hx=>by
     rcases List.mem_cons.1 hx with rfl|hx
     ·
      exact Nat.le_refl _
     ·
      have:=hbs x hx;omega⟩
set_option linter.unusedSimpArgs false
def Tri (b off:Nat) (v0 v1 v2:Value) (w:World):Prop:=w.cell? ⟨b,off,none⟩=some v0∧w.cell? ⟨b,off+1,none⟩=some v1∧w.cell? ⟨b,off+2,none⟩=some v2
theorem Tri.none {b off:Nat} {v0 v1 v2:Value} {w w':World} (h:Tri b off v0 v1 v2 w) (hg:w.grownBy w' Option.none):Tri b off v0 v1 v2 w' :=
 ⟨hg.cell h.1 (by simp),hg.cell h.2.1 (by simp),hg.cell h.2.2 (by simp)⟩
theorem eqT_of {a a':Option Addr} {l c c':Nat} (k n:Int) (w:World)
  (H:∀ w',w.grownBy w' none→Calls Tryz.prog 149 #[.slice a l c,.slice a' l c'] w' fun e u=>e = .returned (.bool true)∧w'.grownBy u none) :
  Calls Tryz.prog 160 #[.agg #[.int .i64 k,.int .i64 n,.slice a l c],.agg #[.int .i64 k,.int .i64 n,.slice a' l c']] w fun e u=>e = .returned (.bool true)∧w.grownBy u none:=by
 have HH:Hid _:=H;clear H;go_enter Tryz.func160,Tryz.ntmps160;go_wp2_with fail;have g0:=grown_alloc (grown_alloc (grf w none) (.cells #[.int .i64 k,.int .i64 n,.slice a l c] 79)) (.cells #[.int .i64 k,.int .i64 n,.slice a' l c'] 79);refine Calls.mono (HH.out _ g0) ?_;rintro e u ⟨rfl,hg⟩;have G:Hid (w.grownBy u none):=gtr g0 hg;clear g0 hg HH;simp only[];go_wp2;go_ret;exact ⟨rfl,G.out⟩
theorem eqS (m:Nat):∀ (f:F) (a a':Option Addr) (l c c':Nat) (w:World),f.size≤m→SlF w a l f→SlF w a' l f →
  Calls Tryz.prog 149 #[.slice a l c,.slice a' l c'] w fun e u=>e = .returned (.bool true)∧w.grownBy u none:=by
 induction m with
 | zero =>
  intro f a a' l c c' w hm h h';have hlen:=f.len_le;obtain ⟨e1,e2,-⟩:=h
  obtain rfl:l=0:=by omega
  go_enter Tryz.func149,Tryz.ntmps149;go_wp2;refine wp_loop_rounds 1 ?_;rw[rounds_succ];go_wp2;go_ret;exact ⟨rfl,grf _ _⟩
 | succ m ih =>
  intro f a a' l c c' w hm h h';have hlen:=f.len_le;have hl:=h.2.1;have hfl:=h.1;rcases h.cases with ⟨rfl,rfl⟩|⟨b,o,rfl,hin,-,hpos⟩
  ·
   go_enter Tryz.func149,Tryz.ntmps149;go_wp2;refine wp_loop_rounds 1 ?_;rw[rounds_succ];go_wp2;go_ret;exact ⟨rfl,grf _ _⟩
  rcases h'.cases with ⟨rfl,rfl⟩|⟨b',o',rfl,hin',-,-⟩
  ·
   exact absurd hpos (by omega)
  have IH:Hid _:=ih;have IN:Hid (InF w f b o∧InF w f b' o'):=⟨hin,hin'⟩;clear ih hin hin' h h';go_enter Tryz.func149,Tryz.ntmps149;go_wp2
  go_loopw [5] (fun i wr=>∃ (j:Nat) (R:F),j≤l∧i = .int .i64 j∧w.grownBy wr none∧InF wr R b (o+j * 3)∧InF wr R b' (o' + j * 3)∧R.size≤f.size∧R.len+j=l) (fun i _=>l - (intOf i).toNat)
  case atStart=>exact ⟨0,f,Nat.zero_le _,rfl,grf _ _,by simpa using IN.out.1,by simpa using IN.out.2,Nat.le_refl _,by omega⟩
  case round =>
   obtain ⟨j,R,hj,rfl,hg,hR,hR',hRs,hRl⟩:=hrel;by_cases hlt:j < l
   ·
    obtain ⟨q,hq⟩:∃ q,R.len=q+1:=⟨R.len - 1,by omega⟩;obtain ⟨kk,nn,d,R1,rfl,hR1⟩:=F.cons_of_len hq;obtain ⟨a1,l1,x1,c0,c1,c2,hd,hR2⟩:=hR.out;obtain ⟨a2,l2,x2,d0,d1,d2,hd',hR2'⟩:=hR'.out;obtain rfl:l1=l2:=hd.1.symm.trans hd'.1
    have e3:o+j * 3+3=o+(j+1) * 3:=by omega
    have e3':o' + j * 3+3=o' + (j+1) * 3:=by omega
    rw[e3] at hR2;rw[e3'] at hR2'
    have hds:d.size≤m:=by simp only[F.size] at hRs hm;omega
    have gd:=grown_drew (grf wr none);have C:=eqT_of (a:=a1) (a':=a2) (l:=l1) (c:=x1) (c':=x2) kk nn wr.drew (fun w' hw'=>IH.out d a1 a2 l1 x1 x2 w' hds (hd.none (gtr gd hw')) (hd'.none (gtr gd hw')));have CC:Hid _:=C;have TT:Hid (Tri b (o+j * 3) (.int .i64 kk) (.int .i64 nn) (.slice a1 l1 x1) wr.drew∧Tri b' (o' + j * 3) (.int .i64 kk) (.int .i64 nn) (.slice a2 l1 x2) wr.drew):=⟨Tri.none ⟨c0,c1,c2⟩ gd,Tri.none ⟨d0,d1,d2⟩ gd⟩;have FX:Hid (InF wr.drew R1 b (o+(j+1) * 3)∧InF wr.drew R1 b' (o' + (j+1) * 3)∧w.grownBy wr.drew none):=⟨hR2.none gd,hR2'.none gd,gtr hg gd⟩
    have hRs':R1.size≤f.size:=by simp only[F.size] at hRs;omega
    clear C hd hd' hR hR' hR2 hR2' hg IN IH c0 c1 c2 d0 d1 d2 gd hRs;go_wp2_with fail;refine wp_region_held_drew (S:=(fun u=>Tri b (o+j * 3) (.int .i64 kk) (.int .i64 nn) (.slice a1 l1 x1) u∧Tri b' (o' + j * 3) (.int .i64 kk) (.int .i64 nn) (.slice a2 l1 x2) u)) (by kernel_rfl) TT.out (fun hH=>?_);generalize wr.drew=u at *;clear wr;simp only[List.size_toArray,lB,lC,Nat.reduceAdd,Array.replicate,List.replicate];refine tk 0 ?_;refine tk 1 ?_;refine tk 2 ?_;refine tk 3 ?_;refine tk 4 ?_;refine tk 5 ?_;refine tk 6 ?_;refine tk 7 ?_;refine rd 8 rfl (fun K hK=>?_);go_simp;refine Calls.mono CC.out ?_;rintro e u2 ⟨rfl,hgu⟩;refine hK.out _ _ ⟨TT.out.1.none hgu,TT.out.2.none hgu⟩ ?_;clear hK K hH;intro hH;have FY:Hid (InF u2 R1 b (o+(j+1) * 3)∧InF u2 R1 b' (o' + (j+1) * 3)∧w.grownBy u2 none):=⟨FX.out.1.none hgu,FX.out.2.1.none hgu,gtr FX.out.2.2 hgu⟩;clear FX hgu CC;simp only[Act.put,nA,nB,nC,nD,nE,nF]
    refine tk 9 ?_;refine wpAnyH_done (by kernel_rfl) ?_ _;go_wp2;go_roundw
    case rel=>exact ⟨j+1,R1,by omega,by go_num,FY.out.2.2,FY.out.1,FY.out.2.1,hRs',by omega⟩
    case measure=>simp [intOf];omega
   ·
    obtain rfl:j=l:=by omega
    go_wp2;go_ret;exact ⟨rfl,hg⟩
theorem info5:(Tryz.prog.info? 5).map (fun i=>(i.zero,i.size,i.bytes))=some (some (.int .u8 0),1,1):=by kernel_rfl
theorem make_run (n:Nat) (hn:n≤4194304) (w:World):(Instr.makeSlice 23 (.int .i64 (n:Int)) (.int .i64 (n:Int))).run Tryz.prog w = .ok (.slice (some ⟨w.heap.size,0,none⟩) n n) (w.alloc (.cells (madeCells #[.int .u8 0] n) 5)):=by
 obtain ⟨i0,hi,hz0,hz1,hz2⟩:=info_parts info5;have h:=run_make (P:=Tryz.prog) (w:=w) 23 5 i0 (.int .u8 0) Tryz.underlying23 hi hz0 .i64 .i64 (n:Int) (n:Int) (by omega) (by omega) (by rw[hz2];omega) (by omega);rw[hz1] at h;simpa [Value.cells] using h
theorem make_run0 (w:World):(Instr.makeSlice 23 (.int .i64 0) (.int .i64 0)).run Tryz.prog w = .ok (.slice (some ⟨w.heap.size,0,none⟩) 0 0) (w.alloc (.cells (madeCells #[.int .u8 0] 0) 5)):=make_run 0 (by omega) w
theorem eqBy0 (a a':Option Addr) (n cap cap':Nat) (zs:List Int) (w:World) (h:Reads w a n zs) (h':Reads w a' n zs) (hn:n≤4194304) :
  Calls Tryz.prog 14 #[.slice a n cap,.slice a' n cap'] w fun e w'=>e = .returned (.bool true)∧∃ m,w' = w.drewN m:=by
 obtain ⟨hl,h⟩:=h;obtain ⟨-,h'⟩:=h';by_cases h0:n=0
 ·
  subst h0;clear h h';go_enter Tryz.func14,Tryz.ntmps14;go_wp2;refine wp_loop_rounds 1 ?_;rw[rounds_succ];go_wp2;go_ret;exact ⟨rfl,0,rfl⟩
 ·
  rcases h with h|⟨b,off,rfl,hc⟩
  ·
   exact absurd h h0
  rcases h' with h' | ⟨b',off',rfl,hc'⟩
  ·
   exact absurd h' h0
  go_enter Tryz.func14,Tryz.ntmps14;go_wp2
  go_loopw [5] (fun i wr=>∃ k m:Nat,k≤n∧i = .int .i64 k∧wr=w.drewN m) (fun i _=>n - (intOf i).toNat)
  case atStart=>exact ⟨0,0,Nat.zero_le _,rfl,rfl⟩
  case round =>
   obtain ⟨k,m,hk,rfl,rfl⟩:=hrel;by_cases hlt:k < n
   ·
    have c1:=hc k hlt;have c2:=hc' k hlt
    have hki:(k:Int) < (n:Int):=by omega
    go_wp2;go_quiet (fail);go_wp2;go_roundw
    case rel=>exact ⟨k+1,_,by omega,by go_num,rfl⟩
    case measure=>simp [intOf];omega
   ·
    go_wp2;go_ret;exact ⟨rfl,m,rfl⟩
theorem eqBy (a a':Option Addr) (n cap cap':Nat) (zs:List Int) (w:World) (h:Reads w a n zs) (h':Reads w a' n zs) (hn:n≤4194304) :
  Calls Tryz.prog 14 #[.slice a n cap,.slice a' n cap'] w fun e u=>e = .returned (.bool true)∧w.grownBy u none:=by
 refine (eqBy0 a a' n cap cap' zs w h h' hn).mono ?_;rintro e u ⟨he,hm⟩;exact ⟨he,quiet hm⟩
end Go.Proofs.YtblbnillilbacaaGreatDoor.By
