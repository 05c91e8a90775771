/-
  No statement is proved here.
-/
import Derived.Test.YtblbnillilbacaaGreatDoorECAlsoa
import Derived.Test.YtblbnillilbacaaGreatDoorGBEAlsoa
namespace Go.Proofs.YtblbnillilbacaaGreatDoor.By
set_option maxRecDepth 100000
set_option maxHeartbeats 16000000
open Go.RowKit
set_option linter.unusedVariables false
set_option linter.unusedSimpArgs false
theorem BlkN.put2 {w:World} {t:TypeId} {g k:Nat} (h:BlkN w t g k) (j:Nat) (hj:j+1 < k) (v0 v1:Value):BlkN ((w.setCell ⟨g,j,none⟩ v0).setCell ⟨g,j+1,none⟩ v1) t g k∧w.grownBy ((w.setCell ⟨g,j,none⟩ v0).setCell ⟨g,j+1,none⟩ v1) (some g)∧(((w.setCell ⟨g,j,none⟩ v0).setCell ⟨g,j+1,none⟩ v1).cell? ⟨g,j,none⟩=some v0∧((w.setCell ⟨g,j,none⟩ v0).setCell ⟨g,j+1,none⟩ v1).cell? ⟨g,j+1,none⟩=some v1)∧∀ i,i < j→((w.setCell ⟨g,j,none⟩ v0).setCell ⟨g,j+1,none⟩ v1).cell? ⟨g,i,none⟩=w.cell? ⟨g,i,none⟩:=by
 obtain ⟨h1,k1,c1,o1⟩:=h.set j (by omega) v0;obtain ⟨h2,k2,c2,o2⟩:=h1.set (j+1) (by omega) v1;exact ⟨h2,gtr k1 k2,⟨(o2 j (by omega)).trans c1,c2⟩,fun i hi=>(o2 i (by omega)).trans (o1 i (by omega))⟩
theorem BlkN.put3 {w:World} {t:TypeId} {g k:Nat} (h:BlkN w t g k) (j:Nat) (hj:j+2 < k) (v0 v1 v2:Value):BlkN (((w.setCell ⟨g,j,none⟩ v0).setCell ⟨g,j+1,none⟩ v1).setCell ⟨g,j+2,none⟩ v2) t g k∧w.grownBy (((w.setCell ⟨g,j,none⟩ v0).setCell ⟨g,j+1,none⟩ v1).setCell ⟨g,j+2,none⟩ v2) (some g)∧((((w.setCell ⟨g,j,none⟩ v0).setCell ⟨g,j+1,none⟩ v1).setCell ⟨g,j+2,none⟩ v2).cell? ⟨g,j,none⟩=some v0∧(((w.setCell ⟨g,j,none⟩ v0).setCell ⟨g,j+1,none⟩ v1).setCell ⟨g,j+2,none⟩ v2).cell? ⟨g,j+1,none⟩=some v1∧(((w.setCell ⟨g,j,none⟩ v0).setCell ⟨g,j+1,none⟩ v1).setCell ⟨g,j+2,none⟩ v2).cell? ⟨g,j+2,none⟩=some v2)∧∀ i,i < j→(((w.setCell ⟨g,j,none⟩ v0).setCell ⟨g,j+1,none⟩ v1).setCell ⟨g,j+2,none⟩ v2).cell? ⟨g,i,none⟩=w.cell? ⟨g,i,none⟩:=by
 obtain ⟨h1,k1,⟨c0,c1⟩,o1⟩:=h.put2 j (by omega) v0 v1;obtain ⟨h2,k2,c2,o2⟩:=h1.set (j+2) (by omega) v2;exact ⟨h2,gtr k1 k2,⟨(o2 j (by omega)).trans c0,(o2 (j+1) (by omega)).trans c1,c2⟩,fun i hi=>(o2 i (by omega)).trans (o1 i (by omega))⟩
theorem toCosT (cs:List Co) (a:Option Addr) (l c:Nat) (w:World) (h:SlCo w a l cs) (hs:szCos cs≤1048576) :
  Calls Tryz.prog 91 #[.slice a l c] w fun e u=>∃ a' c',e = .returned (.slice a' l c')∧w.grownBy u none∧SlCo (hideZ u w.heap.size) a' l cs∧l≤c':=by
 have hlen:=szCos_len cs;have hl:=h.2.1;have hfl:=h.1;rcases h.cases with ⟨rfl,rfl⟩|⟨b,o,rfl,hin,hpos⟩
 ·
  have hmk:=makeCo0;go_enter Tryz.func91,Tryz.ntmps91;go_wp2;refine wp_loop_rounds 1 ?_;rw[rounds_succ];go_wp2;go_ret;exact ⟨_,_,rfl,gal _ _ _,⟨rfl,by omega,.inl rfl⟩,Nat.le_refl _⟩
 have hmk:=makeCo l (by omega);have hb0:=madeCo_blk w l;have IN:Hid (InCo w w cs b o):=hin;have HB:Hid _:=hb0;clear hin h hb0;go_enter Tryz.func91,Tryz.ntmps91;go_wp2
 go_loopw [4] (fun i wr=>∃ (j:Nat) (P R:List Co),j≤l∧i = .int .i64 j∧P.length=j∧R.length+j=l∧szCos R≤1048576∧Hid (w.grownBy wr none∧InCo w w R b (o+j * 2)∧BlkN wr 73 w.heap.size (l * 2)∧InCo wr (hideZ wr (w.heap.size+1)) P w.heap.size 0∧P++R=cs)) (fun i _=>l - (intOf i).toNat)
 case atStart=>exact ⟨0,[],cs,Nat.zero_le _,rfl,rfl,by omega,hs,gal _ _ _,by simpa using IN.out,HB.out,trivial,rfl⟩
 case round =>
  obtain ⟨j,P,R,hj,rfl,hPl,hRl,hRs,HR⟩:=hrel;by_cases hlt:j < l
  ·
   obtain ⟨x,R',rfl⟩:∃ x R',R=x::R':=by
    cases R with
    | nil=>simp at hRl;omega
    | cons x R'=>exact ⟨x,R',rfl⟩
   obtain ⟨hg,⟨⟨a1,n1,c1,a2,l2,c2,k0,k1,hd1,hd2⟩,hR2⟩,hB,hP,hcs⟩:=HR.out;rw[show o+j * 2+2=o+(j+1) * 2 by omega] at hR2;simp only[szCos] at hRs;simp only[lB] at hRl;have k0:=hg.cell k0 (by simp);have k1:=hg.cell k1 (by simp);have CC:Hid _:=toCoT x a1 n1 c1 a2 l2 c2 wr (hd1.none hg) (hd2.none hg) (by omega);have FX:Hid (w.grownBy wr none∧InCo w w R' b (o+(j+1) * 2)∧BlkN wr 73 w.heap.size (l * 2)∧InCo wr (hideZ wr (w.heap.size+1)) P w.heap.size 0∧(P++[x])++R' = cs):=⟨hg,hR2,hB,hP,by rw[List.append_assoc];exact hcs⟩;clear hd1 hd2 hR2 hg hB hP hcs IN HR hmk HB;go_wp2_with fail;refine Calls.mono CC.out ?_;rintro e u ⟨a3,c3,a4,c4,he,hgu,hr1,hr2⟩;subst he;have hBu:=FX.out.2.2.1.of (hgu.block _ FX.out.2.2.1.lt (by simp));obtain ⟨q0,qq0⟩:=hBu.has (j * 2) (by omega);have ff0:=hBu.free (j * 2);obtain ⟨q1,qq1⟩:=hBu.has (j * 2+1) (by omega);have ff1:=hBu.free (j * 2+1);have FY:Hid (BlkN u 73 w.heap.size (l * 2)∧wr.grownBy u none∧RdB (hideZ u wr.heap.size) a3 n1 x.name∧SlF (hideZ u wr.heap.size) a4 l2 x.flds):=⟨hBu,hgu,hr1,hr2⟩
   clear CC hgu hr1 hr2 hBu k0 k1;simp only[];go_wp2;obtain ⟨hg,hR2,hB,hP,hcs⟩:=FX.out;obtain ⟨hBu,hgu,hr1,hr2⟩:=FY.out;have hsz:=hB.lt;obtain ⟨hB3,hk3,tq,hoth⟩:=hBu.put2 (j * 2) (by omega) (.slice a3 n1 c3) (.slice a4 l2 c4);have hle:∀ i,i < j * 2→_:=hoth
   have hfx:∀ i,w.heap.size+1≤i→i < wr.heap.size→_=wr.heap[i]?:=fun i h1 h2=>(hk3.block i (Nat.lt_of_lt_of_le h2 hgu.size) (by simp;omega)).trans (hgu.block i h2 (by simp))
   have hfu:∀ i,wr.heap.size≤i→i < u.heap.size→_=u.heap[i]?:=fun i h1 h2=>hk3.block i h2 (by simp;omega)
   have hP2:=hP.move (b':=w.heap.size) (off':=0) (fun i v hi hv=>(hoth (0+i) (by rw[hPl] at hi;omega)).trans (hgu.cell hv (by simp))) (CLe.hidz (Nat.le_refl _) hfx);have cl:=CLe.hidz (lo':=w.heap.size+1) (by omega) hfu;have hQ:=hP2.app (Q:=[x]) ⟨⟨a3,n1,c3,a4,l2,c4,by rw[hPl,Nat.zero_add];exact tq.1,by rw[hPl,Nat.zero_add];exact tq.2,hr1.le cl,hr2.le cl⟩,trivial⟩;go_roundw
   case rel=>exact ⟨j+1,P++[x],R',by omega,by go_num,by simp [hPl],by omega,by omega,grown_into (gtr hg hgu) hk3 (Nat.le_refl _),hR2,hB3,hQ,hcs⟩
   case measure=>simp [intOf];omega
  ·
   obtain rfl:j=l:=by omega
   obtain rfl:R=[]:=List.eq_nil_of_length_eq_zero (by omega);obtain ⟨hg,-,hB,hP,hcs⟩:=HR.out;rw[List.append_nil] at hcs;subst hcs;have FQ:Hid (w.grownBy wr none∧SlCo (hideZ wr w.heap.size) (some ⟨w.heap.size,0,none⟩) j P):=⟨hg,hPl,by omega,.inr ⟨_,_,rfl,hP.move (fun i v hi hv=>(hideZ_cell (Nat.le_refl _) hB).trans hv) (CLe.hidz (Nat.le_succ _) (fun _ _ _=>rfl))⟩⟩;clear hg hB hP HR IN HB;go_wp2;go_ret;exact ⟨_,_,rfl,FQ.out.1,FQ.out.2,Nat.le_refl _⟩
theorem toDaT (x:Da) (a:Option Addr) (n c:Nat) (a':Option Addr) (l' c':Nat) (w:World) (h:RdB w a n x.name) (h':SlCo w a' l' x.cons) (hs:szDa x≤1048576) :
  Calls Tryz.prog 57 #[.agg #[.slice a n c,.int .i64 x.vars,.slice a' l' c']] w fun e u=>∃ a1 c1 a2 c2,e = .returned (.agg #[.slice a1 n c1,.int .i64 x.vars,.slice a2 l' c2])∧w.grownBy u none∧RdB (hideZ u w.heap.size) a1 n x.name∧SlCo (hideZ u w.heap.size) a2 l' x.cons:=by
 obtain ⟨b0,b1,b2,bsz⟩:=alloc3_blocks w (.cells #[.slice a n c,.int .i64 x.vars,.slice a' l' c'] 63) (.cells #[.slice none 0 0,.int .i64 0,.slice none 0 0] 68) (.cells #[.slice none 0 0,.int .i64 0,.slice none 0 0] 68);have g0:=grown_alloc (grown_alloc (grown_alloc (grf w none) (.cells #[.slice a n c,.int .i64 x.vars,.slice a' l' c'] 63)) (.cells #[.slice none 0 0,.int .i64 0,.slice none 0 0] 68)) (.cells #[.slice none 0 0,.int .i64 0,.slice none 0 0] 68);have hnl:=h.1.1;have C0:Hid _:=toB a n c x.name _ (h.none g0).1 (by unfold szDa at hs;omega);have HX:Hid (Byt x.name∧x.name.length=n∧szDa x≤1048576∧SlCo w a' l' x.cons):=⟨h.2.1,hnl,hs,h'⟩;have L0:Hid (w.grownBy _ none∧_=some (Obj.cells #[.slice a n c,.int .i64 x.vars,.slice a' l' c'] 63)∧_=some (Obj.cells #[.slice none 0 0,.int .i64 0,.slice none 0 0] 68)∧_=some (Obj.cells #[.slice none 0 0,.int .i64 0,.slice none 0 0] 68)∧_=w.heap.size+1+1+1):=⟨g0,b0,b1,b2,bsz⟩
 obtain ⟨⟨y0,y1,y2⟩,-⟩:=three b0;clear g0 b0 b1 b2 bsz h h' hnl hs;go_enter Tryz.func57,Tryz.ntmps57;go_wp2_with fail;refine Calls.mono C0.out ?_;rintro e u ⟨g,he,hg,hgl,hrow⟩;subst he;obtain ⟨g1,c0,c1,c2,hsz⟩:=L0.out;rw[hsz] at hgl;have c0':=(hg.block _ (lt_of_block c0) (by simp)).trans c0;have c1':=(hg.block _ (lt_of_block c1) (by simp)).trans c1;have c2':=(hg.block _ (lt_of_block c2) (by simp)).trans c2;have g2:=gtr g1 hg;clear C0 L0 g1 c0 c1 c2 hsz hg y0 y1 y2;generalize e0:w.heap.size=p0 at *;generalize e1:p0+1=p1 at *;generalize e2:p1+1=p2 at *
 have n02:p0≠p2:=by omega
 have n12:p1≠p2:=by omega
 have n01:p0≠p1:=by omega
 obtain ⟨⟨y0,y1,y2⟩,-⟩:=three c0';obtain ⟨⟨z0,z1,z2⟩,f0,f1,f2⟩:=three c2';have k2:=gtr (gsc u p2 0 (.slice (some ⟨g,0,none⟩) n n)) (gsc (u.setCell ⟨p2,0,none⟩ (.slice (some ⟨g,0,none⟩) n n)) p2 1 (.int .i64 x.vars));have gv:w.grownBy ((u.setCell ⟨p2,0,none⟩ (.slice (some ⟨g,0,none⟩) n n)).setCell ⟨p2,1,none⟩ (.int .i64 x.vars)) none:=grown_into g2 k2 (by omega);have d2:((u.setCell ⟨p2,0,none⟩ (.slice (some ⟨g,0,none⟩) n n)).setCell ⟨p2,1,none⟩ (.int .i64 x.vars)).heap[p2]? = some (Obj.cells #[.slice (some ⟨g,0,none⟩) n n,.int .i64 x.vars,.slice none 0 0] 68):=heap_setCell_same _ p2 1 _ _ (.int .i64 x.vars) (heap_setCell_same u p2 0 _ _ (.slice (some ⟨g,0,none⟩) n n) c2');have d1:=(k2.block _ (lt_of_block c1') (by simp;omega)).trans c1';have rw1:=hrow.kept k2 (by simp;omega);have C1:Hid _:=toCosT x.cons a' l' c' ((u.setCell ⟨p2,0,none⟩ (.slice (some ⟨g,0,none⟩) n n)).setCell ⟨p2,1,none⟩ (.int .i64 x.vars)) (HX.out.2.2.2.none gv) (by have:=HX.out.2.2.1;unfold szDa at this;omega)
 have L2:Hid (w.grownBy ((u.setCell ⟨p2,0,none⟩ (.slice (some ⟨g,0,none⟩) n n)).setCell ⟨p2,1,none⟩ (.int .i64 x.vars)) none∧((u.setCell ⟨p2,0,none⟩ (.slice (some ⟨g,0,none⟩) n n)).setCell ⟨p2,1,none⟩ (.int .i64 x.vars)).heap[p1]? = some (Obj.cells #[.slice none 0 0,.int .i64 0,.slice none 0 0] 68)∧((u.setCell ⟨p2,0,none⟩ (.slice (some ⟨g,0,none⟩) n n)).setCell ⟨p2,1,none⟩ (.int .i64 x.vars)).heap[p2]? = some (Obj.cells #[.slice (some ⟨g,0,none⟩) n n,.int .i64 x.vars,.slice none 0 0] 68)∧Row ((u.setCell ⟨p2,0,none⟩ (.slice (some ⟨g,0,none⟩) n n)).setCell ⟨p2,1,none⟩ (.int .i64 x.vars)) g n x.name∧p2 < g∧w.heap.size=p0∧p0+1=p1∧p1+1=p2):=⟨gv,d1,d2,rw1,by omega,e0,e1,e2⟩;clear gv d1 d2 rw1 hgl e0 e1 e2 g2 hrow c0' c1' c2' k2;simp only[];go_wp2_with fail;refine Calls.mono C1.out ?_;rintro e u2 ⟨a2,c2,he,hg,hN,-⟩;subst he;obtain ⟨gv,d1,d2,hrow,hpg,e0,e1,e2⟩:=L2.out;have d1':=(hg.block _ (lt_of_block d1) (by simp)).trans d1
 have d2':=(hg.block _ (lt_of_block d2) (by simp)).trans d2;have hp2v:=lt_of_block d2;have r2:=hrow.kept hg (by simp);obtain ⟨⟨v0,v1,v2⟩,q0,q1,q2⟩:=three d2';obtain ⟨⟨x0,x1,x2⟩,s0,s1,s2⟩:=three d1';have k3:=gsc u2 p2 2 (.slice a2 l' c2);have m2:(u2.setCell ⟨p2,2,none⟩ (.slice a2 l' c2)).heap[p2]? = some (Obj.cells #[.slice (some ⟨g,0,none⟩) n n,.int .i64 x.vars,.slice a2 l' c2] 68):=heap_setCell_same u2 p2 2 _ _ (.slice a2 l' c2) d2';have m1:=(k3.block _ (lt_of_block d1') (by simp;omega)).trans d1';obtain ⟨m4,k4⟩:=fill3 (.slice (some ⟨g,0,none⟩) n n) (.int .i64 x.vars) (.slice a2 l' c2) m1;have GF:=grown_into (grown_into (gtr gv hg) k3 (by omega)) k4 (by omega);have rf:=(r2.kept k3 (by simp;omega)).kept k4 (by simp;omega);have FQ:Hid _:=And.intro m4 (And.intro GF (And.intro (rf.hiz HX.out.1 HX.out.2.1 (by have:=HX.out.2.2.1;have:=HX.out.2.1;unfold szDa at *;omega) (lo:=p0) (by omega)) (hN.le (CLe.hidz (lo':=p0) (by omega) (fun i h1 h2=>(k4.block i (Nat.lt_of_lt_of_le h2 k3.size) (by simp;omega)).trans (k3.block i h2 (by simp;omega)))))))
 clear gv d1 d2 hrow hpg d1' d2' r2 k3 m2 m1 k4 m4 GF rf hg hN C1 L2 y0 y1 y2 z0 z1 z2 f0 f1 f2 hp2v
 have p12:p2≠p1:=by omega
 simp only[];go_wp2
 (try simp only[Exit.inBlock,Exit.then])
 refine bodyPost_ret (results_cell_row (P:=Tryz.prog) Tryz.results57 _ _ p1 _ _ _ _ rfl FQ.out.1 Tryz.underlying68 rfl (by kernel_rfl)) rfl ?_;refine ⟨_,_,a2,c2,rfl,?_⟩;rw[e0];exact FQ.out.2
theorem toDasT (cs:List Da) (a:Option Addr) (l c:Nat) (w:World) (h:SlDa w a l cs) (hs:szDas cs≤1048576) :
  Calls Tryz.prog 27 #[.slice a l c] w fun e u=>∃ a' c',e = .returned (.slice a' l c')∧w.grownBy u none∧SlDa (hideZ u w.heap.size) a' l cs∧l≤c':=by
 have hlen:=szDas_len cs;have hl:=h.2.1;have hfl:=h.1;rcases h.cases with ⟨rfl,rfl⟩|⟨b,o,rfl,hin,hpos⟩
 ·
  have hmk:=makeDa0;go_enter Tryz.func27,Tryz.ntmps27;go_wp2;refine wp_loop_rounds 1 ?_;rw[rounds_succ];go_wp2;go_ret;exact ⟨_,_,rfl,gal _ _ _,⟨rfl,by omega,.inl rfl⟩,Nat.le_refl _⟩
 have hmk:=makeDa l (by omega);have hb0:=madeDa_blk w l;have IN:Hid (InDa w w cs b o):=hin;have HB:Hid _:=hb0;clear hin h hb0;go_enter Tryz.func27,Tryz.ntmps27;go_wp2
 go_loopw [4] (fun i wr=>∃ (j:Nat) (P R:List Da),j≤l∧i = .int .i64 j∧P.length=j∧R.length+j=l∧szDas R≤1048576∧Hid (w.grownBy wr none∧InDa w w R b (o+j * 3)∧BlkN wr 68 w.heap.size (l * 3)∧InDa wr (hideZ wr (w.heap.size+1)) P w.heap.size 0∧P++R=cs)) (fun i _=>l - (intOf i).toNat)
 case atStart=>exact ⟨0,[],cs,Nat.zero_le _,rfl,rfl,by omega,hs,gal _ _ _,by simpa using IN.out,HB.out,trivial,rfl⟩
 case round =>
  obtain ⟨j,P,R,hj,rfl,hPl,hRl,hRs,HR⟩:=hrel;by_cases hlt:j < l
  ·
   obtain ⟨x,R',rfl⟩:∃ x R',R=x::R':=by
    cases R with
    | nil=>simp at hRl;omega
    | cons x R'=>exact ⟨x,R',rfl⟩
   obtain ⟨hg,⟨⟨a1,n1,c1,a2,l2,c2,k0,k1,k2,hd1,hd2⟩,hR2⟩,hB,hP,hcs⟩:=HR.out;rw[show o+j * 3+3=o+(j+1) * 3 by omega] at hR2;simp only[szDas] at hRs;simp only[lB] at hRl;have k0:=hg.cell k0 (by simp);have k1:=hg.cell k1 (by simp);have k2:=hg.cell k2 (by simp);have CC:Hid _:=toDaT x a1 n1 c1 a2 l2 c2 wr (hd1.none hg) (hd2.none hg) (by omega);have FX:Hid (w.grownBy wr none∧InDa w w R' b (o+(j+1) * 3)∧BlkN wr 68 w.heap.size (l * 3)∧InDa wr (hideZ wr (w.heap.size+1)) P w.heap.size 0∧(P++[x])++R' = cs):=⟨hg,hR2,hB,hP,by rw[List.append_assoc];exact hcs⟩;clear hd1 hd2 hR2 hg hB hP hcs IN HR hmk HB;go_wp2_with fail;refine Calls.mono CC.out ?_;rintro e u ⟨a3,c3,a4,c4,he,hgu,hr1,hr2⟩;subst he;have hBu:=FX.out.2.2.1.of (hgu.block _ FX.out.2.2.1.lt (by simp));obtain ⟨q0,qq0⟩:=hBu.has (j * 3) (by omega);have ff0:=hBu.free (j * 3);obtain ⟨q1,qq1⟩:=hBu.has (j * 3+1) (by omega);have ff1:=hBu.free (j * 3+1)
   obtain ⟨q2,qq2⟩:=hBu.has (j * 3+2) (by omega);have ff2:=hBu.free (j * 3+2);have FY:Hid (BlkN u 68 w.heap.size (l * 3)∧wr.grownBy u none∧RdB (hideZ u wr.heap.size) a3 n1 x.name∧SlCo (hideZ u wr.heap.size) a4 l2 x.cons):=⟨hBu,hgu,hr1,hr2⟩;clear CC hgu hr1 hr2 hBu k0 k1 k2;simp only[];go_wp2;obtain ⟨hg,hR2,hB,hP,hcs⟩:=FX.out;obtain ⟨hBu,hgu,hr1,hr2⟩:=FY.out;have hsz:=hB.lt;obtain ⟨hB3,hk3,tq,hoth⟩:=hBu.put3 (j * 3) (by omega) (.slice a3 n1 c3) (.int .i64 x.vars) (.slice a4 l2 c4);have hle:∀ i,i < j * 3→_:=hoth
   have hfx:∀ i,w.heap.size+1≤i→i < wr.heap.size→_=wr.heap[i]?:=fun i h1 h2=>(hk3.block i (Nat.lt_of_lt_of_le h2 hgu.size) (by simp;omega)).trans (hgu.block i h2 (by simp))
   have hfu:∀ i,wr.heap.size≤i→i < u.heap.size→_=u.heap[i]?:=fun i h1 h2=>hk3.block i h2 (by simp;omega)
   have hP2:=hP.move (b':=w.heap.size) (off':=0) (fun i v hi hv=>(hoth (0+i) (by rw[hPl] at hi;omega)).trans (hgu.cell hv (by simp))) (CLe.hidz (Nat.le_refl _) hfx);have cl:=CLe.hidz (lo':=w.heap.size+1) (by omega) hfu;have hQ:=hP2.app (Q:=[x]) ⟨⟨a3,n1,c3,a4,l2,c4,by rw[hPl,Nat.zero_add];exact tq.1,by rw[hPl,Nat.zero_add];exact tq.2.1,by rw[hPl,Nat.zero_add];exact tq.2.2,hr1.le cl,hr2.le cl⟩,trivial⟩;go_roundw
   case rel=>exact ⟨j+1,P++[x],R',by omega,by go_num,by simp [hPl],by omega,by omega,grown_into (gtr hg hgu) hk3 (Nat.le_refl _),hR2,hB3,hQ,hcs⟩
   case measure=>simp [intOf];omega
  ·
   obtain rfl:j=l:=by omega
   obtain rfl:R=[]:=List.eq_nil_of_length_eq_zero (by omega);obtain ⟨hg,-,hB,hP,hcs⟩:=HR.out;rw[List.append_nil] at hcs;subst hcs;have FQ:Hid (w.grownBy wr none∧SlDa (hideZ wr w.heap.size) (some ⟨w.heap.size,0,none⟩) j P):=⟨hg,hPl,by omega,.inr ⟨_,_,rfl,hP.move (fun i v hi hv=>(hideZ_cell (Nat.le_refl _) hB).trans hv) (CLe.hidz (Nat.le_succ _) (fun _ _ _=>rfl))⟩⟩;clear hg hB hP HR IN HB;go_wp2;go_ret;exact ⟨_,_,rfl,FQ.out.1,FQ.out.2,Nat.le_refl _⟩
def SzW (L:Int) (t:Nat) (e:Ending):Prop:=∃ r,e = .returned (.int .i64 r)∧(r = -1∨(0≤r∧r+t≤L))
theorem szByW (a:Option Addr) (n c:Nat) (zs:List Int) (L:Int) (w:World) (h:RdB w a n zs) (h0:0≤L) (h1:L≤1048576) :
  Calls Tryz.prog 41 #[.slice a n c,.int .i64 L] w fun e u=>SzW L zs.length e∧w.grownBy u none:=by
 have hn:=h.2.2;have hl:=h.1.1;clear h;by_cases hneg:L - (n:Int) < 0
 ·
  go_enter Tryz.func41,Tryz.ntmps41;go_wp2;go_ret;exact ⟨⟨-1,rfl,.inl rfl⟩,grf _ _⟩
 ·
  go_enter Tryz.func41,Tryz.ntmps41;go_wp2;go_ret;exact ⟨⟨_,rfl,.inr ⟨by omega,by omega⟩⟩,grf _ _⟩
theorem szWW (a:Option Addr) (l c:Nat) (cs:List (List Int)) (L:Int) (w:World) (h:SlSS w a l cs) (h0:0≤L) (h1:L≤1048576) :
  Calls Tryz.prog 120 #[.slice a l c,.int .i64 L] w fun e u=>SzW L (szW cs) e∧w.grownBy u none:=by
 have hlen:=szW_len cs;have hl:=h.2.1;have hfl:=h.1;by_cases hneg:L - (l:Int) < 0
 ·
  go_enter Tryz.func120,Tryz.ntmps120;go_wp2;go_ret;exact ⟨⟨-1,rfl,.inl rfl⟩,grf _ _⟩
 rcases h.cases with ⟨rfl,rfl⟩|⟨b,o,rfl,hin,hpos⟩
 ·
  go_enter Tryz.func120,Tryz.ntmps120;go_wp2;refine wp_loop_rounds 1 ?_;rw[rounds_succ];go_wp2;go_ret;exact ⟨⟨_,rfl,.inr ⟨by omega,by simp [szW]⟩⟩,grf _ _⟩
 have IN:Hid (InSS w w cs b o):=hin;clear hin h;go_enter Tryz.func120,Tryz.ntmps120;go_wp2
 go_loopw [1,5] (fun v i wr=>∃ (j:Nat) (R:List (List Int)) (Lj:Int),j≤l∧i = .int .i64 j∧v = .int .i64 Lj∧0≤Lj∧Lj≤1048576∧Hid (w.grownBy wr none∧InSS wr wr R b (o+j))∧R.length+j=l∧Hid (Lj - (szW R - R.length:Int)≤L - szW cs)) (fun _ i _=>l - (intOf i).toNat)
 case atStart =>
  refine ⟨0,cs,_,Nat.zero_le _,rfl,rfl,by omega,by omega,⟨grf _ _,by simpa using IN.out⟩,by omega,?_⟩
  show (_:Int)≤_
  omega
 case round =>
  obtain ⟨j,R,Lj,hj,rfl,rfl,hj0,hj1,HR,hRl,HV⟩:=hrel;by_cases hlt:j < l
  ·
   obtain ⟨x,R',rfl⟩:∃ x R',R=x::R':=by
    cases R with
    | nil=>simp at hRl;omega
    | cons x R'=>exact ⟨x,R',rfl⟩
   obtain ⟨hg,⟨a',n',c',k0,hd1⟩,hR2⟩:=HR.out;rw[show o+j+1=o+(j+1) by omega] at hR2;have CC:Hid _:=szByW a' n' c' x Lj wr hd1 hj0 hj1;have FX:Hid (InSS wr wr R' b (o+(j+1))∧w.grownBy wr none):=⟨hR2,hg⟩;clear hd1 hR2 hg IN HR;simp only[lB] at hRl;go_wp2_with fail;refine Calls.mono CC.out ?_;rintro e u ⟨⟨r,he,hr⟩,hgu⟩;subst he;have FY:Hid (w.grownBy u none∧InSS u u R' b (o+(j+1))):=⟨gtr FX.out.2 hgu,FX.out.1.le (CLe.grown hgu) (CLe.grown hgu)⟩;have hl2:=szW_len R';have hv:=HV.out;simp only[szW,lB] at hv;clear CC hgu FX k0 HV;simp only[];rcases hr with rfl|⟨hr0,hr1⟩
   ·
    go_wp2;go_ret;exact ⟨⟨-1,rfl,.inl rfl⟩,FY.out.1⟩
   ·
    have HV2:Hid (r - (szW R' - R'.length:Int)≤L - szW cs):=by show (_:Int)≤_;omega
    clear hv;go_wp2;go_roundw
    case rel=>exact ⟨j+1,R',r,by omega,by go_num,rfl,by omega,by omega,FY,by omega,HV2⟩
    case measure=>simp [intOf];omega
  ·
   obtain rfl:j=l:=by omega
   obtain rfl:R=[]:=List.eq_nil_of_length_eq_zero (by omega);have E:Hid ((Lj≤L - szW cs)∧w.grownBy wr none):=⟨by have:=HV.out;simp [szW] at this;omega,HR.out.1⟩;clear HR IN HV;go_wp2;go_ret;exact ⟨⟨Lj,rfl,.inr ⟨hj0,by have:=E.out.1;omega⟩⟩,E.out.2⟩
theorem eqWW (a a':Option Addr) (l c c':Nat) (cs:List (List Int)) (w:World) (h:SlSS w a l cs) (h':SlSS w a' l cs) (hs:szW cs≤1048576) :
  Calls Tryz.prog 126 #[.slice a l c,.slice a' l c'] w fun e u=>e = .returned (.bool true)∧w.grownBy u none:=by
 have hl:=h.2.1;have hfl:=h.1;rcases h.cases with ⟨rfl,rfl⟩|⟨b,o,rfl,hin,hpos⟩
 ·
  go_enter Tryz.func126,Tryz.ntmps126;go_wp2;refine wp_loop_rounds 1 ?_;rw[rounds_succ];go_wp2;go_ret;exact ⟨rfl,grf _ _⟩
 rcases h'.cases with ⟨rfl,rfl⟩|⟨b',o',rfl,hin',-⟩
 ·
  exact absurd hpos (by omega)
 have IN:Hid (InSS w w cs b o∧InSS w w cs b' o'):=⟨hin,hin'⟩;clear hin hin' h h';go_enter Tryz.func126,Tryz.ntmps126;go_wp2
 go_loopw [5] (fun i wr=>∃ (j:Nat) (R:List (List Int)),j≤l∧i = .int .i64 j∧Hid (w.grownBy wr none∧InSS wr wr R b (o+j)∧InSS wr wr R b' (o' + j))∧szW R≤1048576∧R.length+j=l) (fun i _=>l - (intOf i).toNat)
 case atStart=>exact ⟨0,cs,Nat.zero_le _,rfl,⟨grf _ _,by simpa using IN.out.1,by simpa using IN.out.2⟩,hs,by omega⟩
 case round =>
  obtain ⟨j,R,hj,rfl,HR,hRs,hRl⟩:=hrel;by_cases hlt:j < l
  ·
   obtain ⟨x,R',rfl⟩:∃ x R',R=x::R':=by
    cases R with
    | nil=>simp at hRl;omega
    | cons x R'=>exact ⟨x,R',rfl⟩
   obtain ⟨hg,⟨⟨a1,n1,c1,k0,hd1⟩,hR2⟩,⟨⟨a3,n3,c3,m0,hd3⟩,hR3⟩⟩:=HR.out;rw[show o+j+1=o+(j+1) by omega] at hR2;rw[show o' + j+1=o' + (j+1) by omega] at hR3
   obtain rfl:n1=n3:=by have:=hd1.1.1;have:=hd3.1.1;omega
   simp only[szW] at hRs;have gd:=grown_drew (grf wr none);have gc:=CLe.grown gd;have CC:Hid _:=eqBy a1 a3 n1 c1 c3 x wr.drew (hd1.none gd).1 (hd3.none gd).1 (by have:=hd1.1.1;omega)
   have TT:Hid (∀ u,wr.grownBy u none→u.cell? ⟨b,o+j,none⟩=some (.slice a1 n1 c1)∧u.cell? ⟨b',o' + j,none⟩=some (.slice a3 n1 c3)):=fun u hu=>⟨hu.cell k0 (by simp),hu.cell m0 (by simp)⟩
   have FX:Hid (w.grownBy wr.drew none∧InSS wr.drew wr.drew R' b (o+(j+1))∧InSS wr.drew wr.drew R' b' (o' + (j+1))∧wr.grownBy wr.drew none):=⟨gtr hg gd,hR2.le gc gc,hR3.le gc gc,gd⟩;clear hd1 hd3 hR2 hR3 hg IN HR gd gc k0 m0;simp only[lB] at hRl;go_wp2_with fail;refine wp_region_held_drew (S:=(fun u=>u.cell? ⟨b,o+j,none⟩=some (.slice a1 n1 c1)∧u.cell? ⟨b',o' + j,none⟩=some (.slice a3 n1 c3))) (by kernel_rfl) (TT.out _ FX.out.2.2.2) (fun hH=>?_);generalize wr.drew=u at *;simp only[List.size_toArray,lB,lC,Nat.reduceAdd,Array.replicate,List.replicate];refine tk 0 ?_;refine tk 1 ?_;refine tk 2 ?_;refine tk 3 ?_;refine tk 4 ?_;refine tk 5 ?_;refine tk 6 ?_;refine tk 7 ?_;refine rd 8 rfl (fun K hK=>?_);go_simp;refine Calls.mono CC.out ?_;rintro e u2 ⟨he,hgu⟩;subst he;refine hK.out _ _ (TT.out _ (gtr FX.out.2.2.2 hgu)) ?_;clear hK K hH;intro hH;have FY:Hid (w.grownBy u2 none∧InSS u2 u2 R' b (o+(j+1))∧InSS u2 u2 R' b' (o' + (j+1))):=⟨gtr FX.out.1 hgu,FX.out.2.1.le (CLe.grown hgu) (CLe.grown hgu),FX.out.2.2.1.le (CLe.grown hgu) (CLe.grown hgu)⟩
   clear FX hgu CC TT;simp only[Act.put,nA,nB,nC,nD,nE,nF];refine tk 9 ?_;refine wpAnyH_done (by kernel_rfl) ?_ _;go_wp2;go_roundw
   case rel=>exact ⟨j+1,R',by omega,by go_num,FY,by omega,by omega⟩
   case measure=>simp [intOf];omega
  ·
   obtain rfl:j=l:=by omega
   have E:Hid (w.grownBy wr none):=HR.out.1;clear HR IN;go_wp2;go_ret;exact ⟨rfl,E.out⟩
theorem infoWW:(Tryz.prog.info? 23).map (fun i=>(i.zero,i.size,i.bytes))=some (some (.slice none 0 0),1,24):=by kernel_rfl
theorem makeWW (n:Nat) (hn:n≤4194304) (w:World):(Instr.makeSlice 85 (.int .i64 (n:Int)) (.int .i64 (n:Int))).run Tryz.prog w = .ok (.slice (some ⟨w.heap.size,0,none⟩) n n) (w.alloc (.cells (madeCells #[.slice none 0 0] n) 23)):=by
 obtain ⟨i0,hi,hz0,hz1,hz2⟩:=info_parts infoWW;have h:=run_make (P:=Tryz.prog) (w:=w) 85 23 i0 _ Tryz.underlying85 hi hz0 .i64 .i64 (n:Int) (n:Int) (by omega) (by omega) (by rw[hz2];omega) (by omega);rw[hz1] at h;simpa [Value.cells] using h
theorem makeWW0 (w:World):(Instr.makeSlice 85 (.int .i64 0) (.int .i64 0)).run Tryz.prog w = .ok (.slice (some ⟨w.heap.size,0,none⟩) 0 0) (w.alloc (.cells (madeCells #[.slice none 0 0] 0) 23)):=makeWW 0 (by omega) w
theorem madeWW_blk (w:World) (n:Nat):BlkN (w.alloc (.cells (madeCells #[.slice none 0 0] n) 23)) 23 w.heap.size n:=⟨_,heap_alloc_new w _,by simp [madeCells]⟩
theorem toWW (a:Option Addr) (l c:Nat) (cs:List (List Int)) (w:World) (h:SlSS w a l cs) (hs:szW cs≤1048576) :
  Calls Tryz.prog 124 #[.slice a l c] w fun e u=>∃ a' c',e = .returned (.slice a' l c')∧w.grownBy u none∧SlSC (hideZ u w.heap.size) a' l c' cs:=by
 have hlen:=szW_len cs;have hl:=h.2.1;have hfl:=h.1;rcases h.cases with ⟨rfl,rfl⟩|⟨b,o,rfl,hin,hpos⟩
 ·
  have hmk:=makeWW0;go_enter Tryz.func124,Tryz.ntmps124;go_wp2;refine wp_loop_rounds 1 ?_;rw[rounds_succ];go_wp2;go_ret;exact ⟨_,_,rfl,gal _ _ _,⟨⟨rfl,by omega,.inl rfl⟩,Nat.le_refl _⟩⟩
 have hmk:=makeWW l (by omega);have hb0:=madeWW_blk w l;have IN:Hid (InSS w w cs b o):=hin;have HB:Hid _:=hb0;clear hin h hb0;go_enter Tryz.func124,Tryz.ntmps124;go_wp2
 go_loopw [4] (fun i wr=>∃ (j:Nat) (P R:List (List Int)),j≤l∧i = .int .i64 j∧P.length=j∧R.length+j=l∧szW R≤1048576∧Hid (w.grownBy wr none∧InSS w w R b (o+j)∧BlkN wr 23 w.heap.size l∧InSS wr (hideZ wr (w.heap.size+1)) P w.heap.size 0∧P++R=cs)) (fun i _=>l - (intOf i).toNat)
 case atStart=>exact ⟨0,[],cs,Nat.zero_le _,rfl,rfl,by omega,hs,gal _ _ _,by simpa using IN.out,HB.out,trivial,rfl⟩
 case round =>
  obtain ⟨j,P,R,hj,rfl,hPl,hRl,hRs,HR⟩:=hrel;by_cases hlt:j < l
  ·
   obtain ⟨x,R',rfl⟩:∃ x R',R=x::R':=by
    cases R with
    | nil=>simp at hRl;omega
    | cons x R'=>exact ⟨x,R',rfl⟩
   obtain ⟨hg,⟨⟨a1,n1,c1,k0,hd1⟩,hR2⟩,hB,hP,hcs⟩:=HR.out;rw[show o+j+1=o+(j+1) by omega] at hR2;simp only[szW] at hRs;simp only[lB] at hRl;have k0:=hg.cell k0 (by simp)
   have hnx:n1≤1048576:=by have:=hd1.1.1;omega
   have CC:Hid _:=toB a1 n1 c1 x wr (hd1.none hg).1 hnx;have FX:Hid (w.grownBy wr none∧InSS w w R' b (o+(j+1))∧BlkN wr 23 w.heap.size l∧InSS wr (hideZ wr (w.heap.size+1)) P w.heap.size 0∧(P++[x])++R' = cs∧Byt x∧x.length=n1):=⟨hg,hR2,hB,hP,by rw[List.append_assoc];exact hcs,hd1.2.1,hd1.1.1⟩;clear hd1 hR2 hg hB hP hcs IN HR hmk HB;go_wp2_with fail;refine Calls.mono CC.out ?_;rintro e u ⟨g,he,hgu,hgl,hrow⟩;subst he;have hBu:=FX.out.2.2.1.of (hgu.block _ FX.out.2.2.1.lt (by simp));obtain ⟨_,q0⟩:=hBu.has j (by omega);have ff0:=hBu.free j;have FY:Hid (BlkN u 23 w.heap.size l∧wr.grownBy u none∧RdB (hideZ u wr.heap.size) (some ⟨g,0,none⟩) n1 x):=⟨hBu,hgu,hrow.hiz FX.out.2.2.2.2.2.1 FX.out.2.2.2.2.2.2 hnx hgl⟩;clear CC hgu hrow hBu k0 hgl;simp only[];go_wp2;obtain ⟨hg,hR2,hB,hP,hcs,-,-⟩:=FX.out;obtain ⟨hBu,hgu,hr1⟩:=FY.out;have hsz:=hB.lt;obtain ⟨hB3,hk3,tq,hoth⟩:=hBu.set j (by omega) (.slice (some ⟨g,0,none⟩) n1 n1)
   have hfx:∀ i,w.heap.size+1≤i→i < wr.heap.size→_=wr.heap[i]?:=fun i h1 h2=>(hk3.block i (Nat.lt_of_lt_of_le h2 hgu.size) (by simp;omega)).trans (hgu.block i h2 (by simp))
   have hfu:∀ i,wr.heap.size≤i→i < u.heap.size→_=u.heap[i]?:=fun i h1 h2=>hk3.block i h2 (by simp;omega)
   have hP2:=hP.move (b':=w.heap.size) (off':=0) (fun i v hi hv=>(hoth (0+i) (by rw[hPl] at hi;omega)).trans (hgu.cell hv (by simp))) (CLe.hidz (Nat.le_refl _) hfx);have cl:=CLe.hidz (lo':=w.heap.size+1) (by omega) hfu;have hQ:=hP2.app (Q:=[x]) ⟨⟨_,n1,_,by rw[hPl,Nat.zero_add];exact tq,hr1.le cl⟩,trivial⟩;go_roundw
   case rel=>exact ⟨j+1,P++[x],R',by omega,by go_num,by simp [hPl],by omega,by omega,grown_into (gtr hg hgu) hk3 (Nat.le_refl _),hR2,hB3,hQ,hcs⟩
   case measure=>simp [intOf];omega
  ·
   obtain rfl:j=l:=by omega
   obtain rfl:R=[]:=List.eq_nil_of_length_eq_zero (by omega);obtain ⟨hg,-,hB,hP,hcs⟩:=HR.out;rw[List.append_nil] at hcs;subst hcs;have FQ:Hid (w.grownBy wr none∧SlSS (hideZ wr w.heap.size) (some ⟨w.heap.size,0,none⟩) j P):=⟨hg,hPl,by omega,.inr ⟨_,_,rfl,hP.move (fun i v hi hv=>(hideZ_cell (Nat.le_refl _) hB).trans hv) (CLe.hidz (Nat.le_succ _) (fun _ _ _=>rfl))⟩⟩;clear hg hB hP HR IN HB hmk;go_wp2;go_ret;exact ⟨_,_,rfl,FQ.out.1,FQ.out.2,Nat.le_refl _⟩
end Go.Proofs.YtblbnillilbacaaGreatDoor.By
