/-
  No statement is proved here.
-/
import Derived.Test.YtblbnillilbacaaGreatDoorEEqAlsoa
namespace Go.Proofs.YtblbnillilbacaaGreatDoor.By
set_option maxRecDepth 100000
set_option maxHeartbeats 16000000
open Go.RowKit
set_option linter.unusedVariables false
set_option linter.unusedSimpArgs false
def SzA (L:Int) (t:Nat) (e:Ending):Prop:=∃ r,e = .returned (.int .i64 r)∧((r = -1∧L < t)∨(0≤r∧r+t=L))
def szCo (x:Co):Nat:=x.name.length+x.flds.size
def szCos:List Co→Nat
 | []=>0
 | x::r=>1+szCo x+szCos r
def szDa (x:Da):Nat:=x.name.length+szCos x.cons
def szDas:List Da→Nat
 | []=>0
 | x::r=>1+szDa x+szDas r
theorem szCos_len:∀ cs:List Co,cs.length≤szCos cs
 | []=>Nat.le_refl _
 | x::r=>by have:=szCos_len r;simp only[lB,szCos];omega
theorem szDas_len:∀ ds:List Da,ds.length≤szDas ds
 | []=>Nat.le_refl _
 | x::r=>by have:=szDas_len r;simp only[lB,szDas];omega
theorem two2 {w:World} {g:Nat} {t:TypeId} {c0 c1:Value} (h:w.heap[g]? = some (.cells #[c0,c1] t (0,0))):(w.cell? ⟨g,0,none⟩=some c0∧w.cell? ⟨g,1,none⟩=some c1)∧w.frozen? ⟨g,0,none⟩=false∧w.frozen? ⟨g,1,none⟩=false:=by
 refine ⟨⟨?_,?_⟩,frozen_of_row w g _ _ t h,frozen_of_row w g _ _ t h⟩ <;> (rw[cell_of_row w g _ _ t (0,0) h];rfl)
theorem szBy (a:Option Addr) (n c:Nat) (zs:List Int) (L:Int) (w:World) (h:RdB w a n zs) (h0:0≤L) (h1:L≤1048576) :
  Calls Tryz.prog 41 #[.slice a n c,.int .i64 L] w fun e u=>SzA L zs.length e∧w.grownBy u none:=by
 have hn:=h.2.2;have hl:=h.1.1;clear h;by_cases hneg:L - (n:Int) < 0
 ·
  go_enter Tryz.func41,Tryz.ntmps41;go_wp2;go_ret;exact ⟨⟨-1,rfl,.inl ⟨rfl,by omega⟩⟩,grf _ _⟩
 ·
  go_enter Tryz.func41,Tryz.ntmps41;go_wp2;go_ret;exact ⟨⟨_,rfl,.inr ⟨by omega,by omega⟩⟩,grf _ _⟩
theorem szCoT (x:Co) (a:Option Addr) (n c:Nat) (a':Option Addr) (l' c':Nat) (L:Int) (w:World) (h:RdB w a n x.name) (h':SlF w a' l' x.flds) (h0:0≤L) (h1:L≤1048576) :
  Calls Tryz.prog 119 #[.agg #[.slice a n c,.slice a' l' c'],.int .i64 L] w fun e u=>SzA L (szCo x) e∧w.grownBy u none:=by
 have g0:=gal w (.cells #[.slice a n c,.slice a' l' c'] 155) none;have b0:=heap_alloc_new w (.cells #[.slice a n c,.slice a' l' c'] 155);have C0:Hid _:=szBy a n c x.name L _ (h.none g0) h0 h1;have L0:Hid (w.grownBy _ none∧_=some (Obj.cells #[.slice a n c,.slice a' l' c'] 155)∧SlF _ a' l' x.flds):=⟨g0,b0,h'.none g0⟩;obtain ⟨⟨y0,y1⟩,-⟩:=two2 b0;clear g0 b0 h h';go_enter Tryz.func119,Tryz.ntmps119;go_wp2_with fail;refine Calls.mono C0.out ?_;rintro e u ⟨⟨r,he,hr⟩,hg⟩;subst he;have L1:Hid (w.grownBy u none∧u.heap[w.heap.size]? = some (Obj.cells #[.slice a n c,.slice a' l' c'] 155)∧SlF u a' l' x.flds):=⟨gtr L0.out.1 hg,(hg.block _ (lt_of_block L0.out.2.1) (by simp)).trans L0.out.2.1,L0.out.2.2.none hg⟩;clear C0 hg L0 y0 y1;simp only[];rcases hr with ⟨rfl,hL⟩|⟨hr0,hr1⟩
 ·
  go_wp2;go_ret;exact ⟨⟨-1,rfl,.inl ⟨rfl,by unfold szCo;omega⟩⟩,L1.out.1⟩
 ·
  have C1:Hid _:=szS x.flds.size x.flds a' l' c' r u (Nat.le_refl _) L1.out.2.2 hr0 (by omega);obtain ⟨⟨y0,y1⟩,-⟩:=two2 L1.out.2.1;go_wp2_with fail;refine Calls.mono C1.out ?_;rintro e u2 ⟨he,hg⟩;subst he;have G2:Hid (w.grownBy u2 none):=gtr L1.out.1 hg;clear C1 hg L1 y0 y1;simp only[];by_cases hs:(x.flds.size:Int)≤r
  ·
   have e1:szV x.flds r=r - x.flds.size:=if_pos hs;rw[e1];clear e1;go_wp2;go_ret;exact ⟨⟨_,rfl,.inr ⟨by omega,by unfold szCo;omega⟩⟩,G2.out⟩
  ·
   have e1:szV x.flds r = -1:=if_neg hs;rw[e1];clear e1;go_wp2;go_ret;exact ⟨⟨-1,rfl,.inl ⟨rfl,by unfold szCo;omega⟩⟩,G2.out⟩
theorem szCosT (cs:List Co) (a:Option Addr) (l c:Nat) (L:Int) (w:World) (h:SlCo w a l cs) (h0:0≤L) (h1:L≤1048576) :
  Calls Tryz.prog 82 #[.slice a l c,.int .i64 L] w fun e u=>SzA L (szCos cs) e∧w.grownBy u none:=by
 have hlen:=szCos_len cs;have hl:=h.2.1;have hfl:=h.1;by_cases hneg:L - (l:Int) < 0
 ·
  go_enter Tryz.func82,Tryz.ntmps82;go_wp2;go_ret;exact ⟨⟨-1,rfl,.inl ⟨rfl,by omega⟩⟩,grf _ _⟩
 rcases h.cases with ⟨rfl,rfl⟩|⟨b,o,rfl,hin,hpos⟩
 ·
  go_enter Tryz.func82,Tryz.ntmps82;go_wp2;refine wp_loop_rounds 1 ?_;rw[rounds_succ];go_wp2;go_ret;exact ⟨⟨_,rfl,.inr ⟨by omega,by simp [szCos]⟩⟩,grf _ _⟩
 have IN:Hid (InCo w w cs b o):=hin;clear hin h;go_enter Tryz.func82,Tryz.ntmps82;go_wp2
 go_loopw [1,5] (fun v i wr=>∃ (j:Nat) (R:List Co) (Lj:Int),j≤l∧i = .int .i64 j∧v = .int .i64 Lj∧0≤Lj∧Lj≤1048576∧Hid (w.grownBy wr none∧InCo wr wr R b (o+j * 2))∧R.length+j=l∧Hid (L - szCos cs=Lj - (szCos R - R.length:Int))) (fun _ i _=>l - (intOf i).toNat)
 case atStart =>
  refine ⟨0,cs,_,Nat.zero_le _,rfl,rfl,by omega,by omega,⟨grf _ _,by simpa using IN.out⟩,by omega,?_⟩
  show (_:Int)=_
  omega
 case round =>
  obtain ⟨j,R,Lj,hj,rfl,rfl,hj0,hj1,HR,hRl,HV⟩:=hrel;by_cases hlt:j < l
  ·
   obtain ⟨x,R',rfl⟩:∃ x R',R=x::R':=by
    cases R with
    | nil=>simp at hRl;omega
    | cons x R'=>exact ⟨x,R',rfl⟩
   obtain ⟨hg,⟨a',n',c',a2,l2,c2,k0,k1,hd1,hd2⟩,hR2⟩:=HR.out;rw[show o+j * 2+2=o+(j+1) * 2 by omega] at hR2;have CC:Hid _:=szCoT x a' n' c' a2 l2 c2 Lj wr hd1 hd2 hj0 hj1;have FX:Hid (InCo wr wr R' b (o+(j+1) * 2)∧w.grownBy wr none):=⟨hR2,hg⟩;clear hd1 hd2 hR2 hg IN HR;simp only[lB] at hRl;go_wp2_with fail;refine Calls.mono CC.out ?_;rintro e u ⟨⟨r,he,hr⟩,hgu⟩;subst he;have FY:Hid (w.grownBy u none∧InCo u u R' b (o+(j+1) * 2)):=⟨gtr FX.out.2 hgu,FX.out.1.le (CLe.grown hgu) (CLe.grown hgu)⟩;have hl2:=szCos_len R';have hv:=HV.out;simp only[szCos,lB] at hv
   have HV2:Hid (L - szCos cs=Lj - szCo x - (szCos R' - R'.length:Int)):=by show (_:Int)=_;omega
   clear CC hgu FX k0 k1 HV hv;simp only[];rcases hr with ⟨rfl,hL⟩|⟨hr0,hr1⟩
   ·
    go_wp2;go_ret;exact ⟨⟨-1,rfl,.inl ⟨rfl,by have:=HV2.out;omega⟩⟩,FY.out.1⟩
   ·
    go_wp2;go_roundw
    case rel=>exact ⟨j+1,R',r,by omega,by go_num,rfl,by omega,by omega,FY,by omega,by show (_:Int)=_;have:=HV2.out;omega⟩
    case measure=>simp [intOf];omega
  ·
   obtain rfl:j=l:=by omega
   obtain rfl:R=[]:=List.eq_nil_of_length_eq_zero (by omega);have E:Hid ((L - szCos cs=Lj)∧w.grownBy wr none):=⟨by have:=HV.out;simp [szCos] at this;omega,HR.out.1⟩;clear HR IN HV;go_wp2;go_ret;exact ⟨⟨Lj,rfl,.inr ⟨hj0,by have:=E.out.1;omega⟩⟩,E.out.2⟩
theorem szDaT (x:Da) (a:Option Addr) (n c:Nat) (a':Option Addr) (l' c':Nat) (L:Int) (w:World) (h:RdB w a n x.name) (h':SlCo w a' l' x.cons) (h0:0≤L) (h1:L≤1048576) :
  Calls Tryz.prog 40 #[.agg #[.slice a n c,.int .i64 x.vars,.slice a' l' c'],.int .i64 L] w fun e u=>SzA L (szDa x) e∧w.grownBy u none:=by
 have g0:=gal w (.cells #[.slice a n c,.int .i64 x.vars,.slice a' l' c'] 63) none;have b0:=heap_alloc_new w (.cells #[.slice a n c,.int .i64 x.vars,.slice a' l' c'] 63);have C0:Hid _:=szBy a n c x.name L _ (h.none g0) h0 h1;have L0:Hid (w.grownBy _ none∧_=some (Obj.cells #[.slice a n c,.int .i64 x.vars,.slice a' l' c'] 63)∧SlCo _ a' l' x.cons):=⟨g0,b0,h'.none g0⟩;obtain ⟨⟨y0,y1,y2⟩,-⟩:=three b0;clear g0 b0 h h';go_enter Tryz.func40,Tryz.ntmps40;go_wp2_with fail;refine Calls.mono C0.out ?_;rintro e u ⟨⟨r,he,hr⟩,hg⟩;subst he;have L1:Hid (w.grownBy u none∧u.heap[w.heap.size]? = some (Obj.cells #[.slice a n c,.int .i64 x.vars,.slice a' l' c'] 63)∧SlCo u a' l' x.cons):=⟨gtr L0.out.1 hg,(hg.block _ (lt_of_block L0.out.2.1) (by simp)).trans L0.out.2.1,L0.out.2.2.none hg⟩;clear C0 hg L0 y0 y1 y2;simp only[];rcases hr with ⟨rfl,hL⟩|⟨hr0,hr1⟩
 ·
  go_wp2;go_ret;exact ⟨⟨-1,rfl,.inl ⟨rfl,by unfold szDa;omega⟩⟩,L1.out.1⟩
 ·
  have C1:Hid _:=szCosT x.cons a' l' c' r u L1.out.2.2 hr0 (by omega);obtain ⟨⟨y0,y1,y2⟩,-⟩:=three L1.out.2.1;go_wp2_with fail;refine Calls.mono C1.out ?_;rintro e u2 ⟨⟨r2,he,hr2⟩,hg⟩;subst he;have G2:Hid (w.grownBy u2 none):=gtr L1.out.1 hg;clear C1 hg L1 y0 y1 y2;simp only[];rcases hr2 with ⟨rfl,hL⟩|⟨hr20,hr21⟩
  ·
   go_wp2;go_ret;exact ⟨⟨-1,rfl,.inl ⟨rfl,by unfold szDa;omega⟩⟩,G2.out⟩
  ·
   go_wp2;go_ret;exact ⟨⟨r2,rfl,.inr ⟨by omega,by unfold szDa;omega⟩⟩,G2.out⟩
theorem szDasT (cs:List Da) (a:Option Addr) (l c:Nat) (L:Int) (w:World) (h:SlDa w a l cs) (h0:0≤L) (h1:L≤1048576) :
  Calls Tryz.prog 22 #[.slice a l c,.int .i64 L] w fun e u=>SzA L (szDas cs) e∧w.grownBy u none:=by
 have hlen:=szDas_len cs;have hl:=h.2.1;have hfl:=h.1;by_cases hneg:L - (l:Int) < 0
 ·
  go_enter Tryz.func22,Tryz.ntmps22;go_wp2;go_ret;exact ⟨⟨-1,rfl,.inl ⟨rfl,by omega⟩⟩,grf _ _⟩
 rcases h.cases with ⟨rfl,rfl⟩|⟨b,o,rfl,hin,hpos⟩
 ·
  go_enter Tryz.func22,Tryz.ntmps22;go_wp2;refine wp_loop_rounds 1 ?_;rw[rounds_succ];go_wp2;go_ret;exact ⟨⟨_,rfl,.inr ⟨by omega,by simp [szDas]⟩⟩,grf _ _⟩
 have IN:Hid (InDa w w cs b o):=hin;clear hin h;go_enter Tryz.func22,Tryz.ntmps22;go_wp2
 go_loopw [1,5] (fun v i wr=>∃ (j:Nat) (R:List Da) (Lj:Int),j≤l∧i = .int .i64 j∧v = .int .i64 Lj∧0≤Lj∧Lj≤1048576∧Hid (w.grownBy wr none∧InDa wr wr R b (o+j * 3))∧R.length+j=l∧Hid (L - szDas cs=Lj - (szDas R - R.length:Int))) (fun _ i _=>l - (intOf i).toNat)
 case atStart =>
  refine ⟨0,cs,_,Nat.zero_le _,rfl,rfl,by omega,by omega,⟨grf _ _,by simpa using IN.out⟩,by omega,?_⟩
  show (_:Int)=_
  omega
 case round =>
  obtain ⟨j,R,Lj,hj,rfl,rfl,hj0,hj1,HR,hRl,HV⟩:=hrel;by_cases hlt:j < l
  ·
   obtain ⟨x,R',rfl⟩:∃ x R',R=x::R':=by
    cases R with
    | nil=>simp at hRl;omega
    | cons x R'=>exact ⟨x,R',rfl⟩
   obtain ⟨hg,⟨a',n',c',a2,l2,c2,k0,k1,k2,hd1,hd2⟩,hR2⟩:=HR.out;rw[show o+j * 3+3=o+(j+1) * 3 by omega] at hR2;have CC:Hid _:=szDaT x a' n' c' a2 l2 c2 Lj wr hd1 hd2 hj0 hj1;have FX:Hid (InDa wr wr R' b (o+(j+1) * 3)∧w.grownBy wr none):=⟨hR2,hg⟩;clear hd1 hd2 hR2 hg IN HR;simp only[lB] at hRl;go_wp2_with fail;refine Calls.mono CC.out ?_;rintro e u ⟨⟨r,he,hr⟩,hgu⟩;subst he;have FY:Hid (w.grownBy u none∧InDa u u R' b (o+(j+1) * 3)):=⟨gtr FX.out.2 hgu,FX.out.1.le (CLe.grown hgu) (CLe.grown hgu)⟩;have hl2:=szDas_len R';have hv:=HV.out;simp only[szDas,lB] at hv
   have HV2:Hid (L - szDas cs=Lj - szDa x - (szDas R' - R'.length:Int)):=by show (_:Int)=_;omega
   clear CC hgu FX k0 k1 k2 HV hv;simp only[];rcases hr with ⟨rfl,hL⟩|⟨hr0,hr1⟩
   ·
    go_wp2;go_ret;exact ⟨⟨-1,rfl,.inl ⟨rfl,by have:=HV2.out;omega⟩⟩,FY.out.1⟩
   ·
    go_wp2;go_roundw
    case rel=>exact ⟨j+1,R',r,by omega,by go_num,rfl,by omega,by omega,FY,by omega,by show (_:Int)=_;have:=HV2.out;omega⟩
    case measure=>simp [intOf];omega
  ·
   obtain rfl:j=l:=by omega
   obtain rfl:R=[]:=List.eq_nil_of_length_eq_zero (by omega);have E:Hid ((L - szDas cs=Lj)∧w.grownBy wr none):=⟨by have:=HV.out;simp [szDas] at this;omega,HR.out.1⟩;clear HR IN HV;go_wp2;go_ret;exact ⟨⟨Lj,rfl,.inr ⟨hj0,by have:=E.out.1;omega⟩⟩,E.out.2⟩
theorem eqCoT (x:Co) (a a2:Option Addr) (n c c2:Nat) (a' a2':Option Addr) (l' c' c2':Nat) (w:World) (h:RdB w a n x.name) (h':SlF w a' l' x.flds) (k:RdB w a2 n x.name) (k':SlF w a2' l' x.flds) (hn:n≤4194304) :
  Calls Tryz.prog 125 #[.agg #[.slice a n c,.slice a' l' c'],.agg #[.slice a2 n c2,.slice a2' l' c2']] w fun e u=>e = .returned (.bool true)∧w.grownBy u none:=by
 obtain ⟨b0,b1,bsz⟩:=alloc2_blocks w (.cells #[.slice a n c,.slice a' l' c'] 73) (.cells #[.slice a2 n c2,.slice a2' l' c2'] 73);have g0:=grown_alloc (grown_alloc (grf w none) (.cells #[.slice a n c,.slice a' l' c'] 73)) (.cells #[.slice a2 n c2,.slice a2' l' c2'] 73);have C0:Hid _:=eqBy a a2 n c c2 x.name _ (h.none g0).1 (k.none g0).1 hn;have L0:Hid (w.grownBy _ none∧_=some (Obj.cells #[.slice a n c,.slice a' l' c'] 73)∧_=some (Obj.cells #[.slice a2 n c2,.slice a2' l' c2'] 73)∧SlF _ a' l' x.flds∧SlF _ a2' l' x.flds):=⟨g0,b0,b1,h'.none g0,k'.none g0⟩;obtain ⟨⟨y0,y1⟩,-⟩:=two2 b0;obtain ⟨⟨z0,z1⟩,-⟩:=two2 b1;clear g0 b0 b1 h h' k k' bsz;go_enter Tryz.func125,Tryz.ntmps125;go_wp2_with fail;refine Calls.mono C0.out ?_;rintro e u ⟨he,hg⟩;subst he;have L1:Hid (w.grownBy u none∧u.heap[w.heap.size]? = some (Obj.cells #[.slice a n c,.slice a' l' c'] 73)∧u.heap[w.heap.size+1]? = some (Obj.cells #[.slice a2 n c2,.slice a2' l' c2'] 73)∧SlF u a' l' x.flds∧SlF u a2' l' x.flds):=⟨gtr L0.out.1 hg,(hg.block _ (lt_of_block L0.out.2.1) (by simp)).trans L0.out.2.1,(hg.block _ (lt_of_block L0.out.2.2.1) (by simp)).trans L0.out.2.2.1,L0.out.2.2.2.1.none hg,L0.out.2.2.2.2.none hg⟩
 clear C0 hg L0 y0 y1 z0 z1;simp only[];have C1:Hid _:=eqS x.flds.size x.flds a' a2' l' c' c2' u (Nat.le_refl _) L1.out.2.2.2.1 L1.out.2.2.2.2;obtain ⟨⟨y0,y1⟩,-⟩:=two2 L1.out.2.1;obtain ⟨⟨z0,z1⟩,-⟩:=two2 L1.out.2.2.1;go_wp2_with fail;refine Calls.mono C1.out ?_;rintro e u2 ⟨he,hg⟩;subst he;have G2:Hid (w.grownBy u2 none):=gtr L1.out.1 hg;clear C1 hg L1 y0 y1 z0 z1;simp only[];go_wp2;go_ret;exact ⟨rfl,G2.out⟩
theorem eqCosT (cs:List Co) (a a':Option Addr) (l c c':Nat) (w:World) (h:SlCo w a l cs) (h':SlCo w a' l cs) (hs:szCos cs≤1048576) :
  Calls Tryz.prog 93 #[.slice a l c,.slice a' l c'] w fun e u=>e = .returned (.bool true)∧w.grownBy u none:=by
 have hl:=h.2.1;have hfl:=h.1;rcases h.cases with ⟨rfl,rfl⟩|⟨b,o,rfl,hin,hpos⟩
 ·
  go_enter Tryz.func93,Tryz.ntmps93;go_wp2;refine wp_loop_rounds 1 ?_;rw[rounds_succ];go_wp2;go_ret;exact ⟨rfl,grf _ _⟩
 rcases h'.cases with ⟨rfl,rfl⟩|⟨b',o',rfl,hin',-⟩
 ·
  exact absurd hpos (by omega)
 have IN:Hid (InCo w w cs b o∧InCo w w cs b' o'):=⟨hin,hin'⟩;clear hin hin' h h';go_enter Tryz.func93,Tryz.ntmps93;go_wp2
 go_loopw [5] (fun i wr=>∃ (j:Nat) (R:List Co),j≤l∧i = .int .i64 j∧Hid (w.grownBy wr none∧InCo wr wr R b (o+j * 2)∧InCo wr wr R b' (o' + j * 2))∧szCos R≤1048576∧R.length+j=l) (fun i _=>l - (intOf i).toNat)
 case atStart=>exact ⟨0,cs,Nat.zero_le _,rfl,⟨grf _ _,by simpa using IN.out.1,by simpa using IN.out.2⟩,hs,by omega⟩
 case round =>
  obtain ⟨j,R,hj,rfl,HR,hRs,hRl⟩:=hrel;by_cases hlt:j < l
  ·
   obtain ⟨x,R',rfl⟩:∃ x R',R=x::R':=by
    cases R with
    | nil=>simp at hRl;omega
    | cons x R'=>exact ⟨x,R',rfl⟩
   obtain ⟨hg,⟨⟨a1,n1,c1,a2,l2,c2,k0,k1,hd1,hd2⟩,hR2⟩,⟨⟨a3,n3,c3,a4,l4,c4,m0,m1,hd3,hd4⟩,hR3⟩⟩:=HR.out;rw[show o+j * 2+2=o+(j+1) * 2 by omega] at hR2;rw[show o' + j * 2+2=o' + (j+1) * 2 by omega] at hR3
   obtain rfl:n3=n1:=by have:=hd1.1.1;have:=hd3.1.1;omega
   obtain rfl:l4=l2:=by have:=hd2.1;have:=hd4.1;omega
   simp only[szCos,szCo] at hRs;have gd:=grown_drew (grf wr none);have gc:=CLe.grown gd;have CC:Hid _:=eqCoT x a1 a3 n3 c1 c3 a2 a4 l4 c2 c4 wr.drew (hd1.none gd) (hd2.none gd) (hd3.none gd) (hd4.none gd) (by have:=hd1.1.1;omega)
   have TT:Hid (∀ u,wr.grownBy u none→(u.cell? ⟨b,o+j * 2,none⟩=some (.slice a1 n3 c1)∧u.cell? ⟨b,o+j * 2+1,none⟩=some (.slice a2 l4 c2))∧u.cell? ⟨b',o' + j * 2,none⟩=some (.slice a3 n3 c3)∧u.cell? ⟨b',o' + j * 2+1,none⟩=some (.slice a4 l4 c4)):=fun u hu=>⟨⟨hu.cell k0 (by simp),hu.cell k1 (by simp)⟩,hu.cell m0 (by simp),hu.cell m1 (by simp)⟩
   have FX:Hid (w.grownBy wr.drew none∧InCo wr.drew wr.drew R' b (o+(j+1) * 2)∧InCo wr.drew wr.drew R' b' (o' + (j+1) * 2)∧wr.grownBy wr.drew none):=⟨gtr hg gd,hR2.le gc gc,hR3.le gc gc,gd⟩;clear hd1 hd2 hd3 hd4 hR2 hR3 hg IN HR gd gc k0 k1 m0 m1;simp only[lB] at hRl;go_wp2_with fail;refine wp_region_held_drew (S:=(fun u=>(u.cell? ⟨b,o+j * 2,none⟩=some (.slice a1 n3 c1)∧u.cell? ⟨b,o+j * 2+1,none⟩=some (.slice a2 l4 c2))∧u.cell? ⟨b',o' + j * 2,none⟩=some (.slice a3 n3 c3)∧u.cell? ⟨b',o' + j * 2+1,none⟩=some (.slice a4 l4 c4))) (by kernel_rfl) (TT.out _ FX.out.2.2.2) (fun hH=>?_);generalize wr.drew=u at *;simp only[List.size_toArray,lB,lC,Nat.reduceAdd,Array.replicate,List.replicate];refine tk 0 ?_;refine tk 1 ?_;refine tk 2 ?_;refine tk 3 ?_;refine tk 4 ?_;refine tk 5 ?_;refine tk 6 ?_;refine tk 7 ?_;refine rd 8 rfl (fun K hK=>?_);go_simp;refine Calls.mono CC.out ?_;rintro e u2 ⟨he,hgu⟩;subst he
   refine hK.out _ _ (TT.out _ (gtr FX.out.2.2.2 hgu)) ?_;clear hK K hH;intro hH;have FY:Hid (w.grownBy u2 none∧InCo u2 u2 R' b (o+(j+1) * 2)∧InCo u2 u2 R' b' (o' + (j+1) * 2)):=⟨gtr FX.out.1 hgu,FX.out.2.1.le (CLe.grown hgu) (CLe.grown hgu),FX.out.2.2.1.le (CLe.grown hgu) (CLe.grown hgu)⟩;clear FX hgu CC TT;simp only[Act.put,nA,nB,nC,nD,nE,nF];refine tk 9 ?_;refine wpAnyH_done (by kernel_rfl) ?_ _;go_wp2;go_roundw
   case rel=>exact ⟨j+1,R',by omega,by go_num,FY,by omega,by omega⟩
   case measure=>simp [intOf];omega
  ·
   obtain rfl:j=l:=by omega
   have E:Hid (w.grownBy wr none):=HR.out.1;clear HR IN;go_wp2;go_ret;exact ⟨rfl,E.out⟩
theorem eqDaT (x:Da) (a a2:Option Addr) (n c c2:Nat) (a' a2':Option Addr) (l' c' c2':Nat) (w:World) (h:RdB w a n x.name) (h':SlCo w a' l' x.cons) (k:RdB w a2 n x.name) (k':SlCo w a2' l' x.cons) (hn:n≤4194304) (hs:szCos x.cons≤1048576) :
  Calls Tryz.prog 61 #[.agg #[.slice a n c,.int .i64 x.vars,.slice a' l' c'],.agg #[.slice a2 n c2,.int .i64 x.vars,.slice a2' l' c2']] w fun e u=>e = .returned (.bool true)∧w.grownBy u none:=by
 obtain ⟨b0,b1,bsz⟩:=alloc2_blocks w (.cells #[.slice a n c,.int .i64 x.vars,.slice a' l' c'] 68) (.cells #[.slice a2 n c2,.int .i64 x.vars,.slice a2' l' c2'] 68);have g0:=grown_alloc (grown_alloc (grf w none) (.cells #[.slice a n c,.int .i64 x.vars,.slice a' l' c'] 68)) (.cells #[.slice a2 n c2,.int .i64 x.vars,.slice a2' l' c2'] 68);have C0:Hid _:=eqBy a a2 n c c2 x.name _ (h.none g0).1 (k.none g0).1 hn;have L0:Hid (w.grownBy _ none∧_=some (Obj.cells #[.slice a n c,.int .i64 x.vars,.slice a' l' c'] 68)∧_=some (Obj.cells #[.slice a2 n c2,.int .i64 x.vars,.slice a2' l' c2'] 68)∧SlCo _ a' l' x.cons∧SlCo _ a2' l' x.cons):=⟨g0,b0,b1,h'.none g0,k'.none g0⟩;obtain ⟨⟨y0,y1,y2⟩,-⟩:=three b0;obtain ⟨⟨z0,z1,z2⟩,-⟩:=three b1;clear g0 b0 b1 h h' k k' bsz;go_enter Tryz.func61,Tryz.ntmps61;go_wp2_with fail;refine Calls.mono C0.out ?_;rintro e u ⟨he,hg⟩;subst he;have L1:Hid (w.grownBy u none∧u.heap[w.heap.size]? = some (Obj.cells #[.slice a n c,.int .i64 x.vars,.slice a' l' c'] 68)∧u.heap[w.heap.size+1]? = some (Obj.cells #[.slice a2 n c2,.int .i64 x.vars,.slice a2' l' c2'] 68)∧SlCo u a' l' x.cons∧SlCo u a2' l' x.cons):=⟨gtr L0.out.1 hg,(hg.block _ (lt_of_block L0.out.2.1) (by simp)).trans L0.out.2.1,(hg.block _ (lt_of_block L0.out.2.2.1) (by simp)).trans L0.out.2.2.1,L0.out.2.2.2.1.none hg,L0.out.2.2.2.2.none hg⟩
 clear C0 hg L0 y0 y1 y2 z0 z1 z2;simp only[];have C1:Hid _:=eqCosT x.cons a' a2' l' c' c2' u L1.out.2.2.2.1 L1.out.2.2.2.2 hs;obtain ⟨⟨y0,y1,y2⟩,-⟩:=three L1.out.2.1;obtain ⟨⟨z0,z1,z2⟩,-⟩:=three L1.out.2.2.1;go_wp2_with fail;refine Calls.mono C1.out ?_;rintro e u2 ⟨he,hg⟩;subst he;have G2:Hid (w.grownBy u2 none):=gtr L1.out.1 hg;clear C1 hg L1 y0 y1 y2 z0 z1 z2;simp only[];go_wp2;go_ret;exact ⟨rfl,G2.out⟩
theorem eqDasT (cs:List Da) (a a':Option Addr) (l c c':Nat) (w:World) (h:SlDa w a l cs) (h':SlDa w a' l cs) (hs:szDas cs≤1048576) :
  Calls Tryz.prog 29 #[.slice a l c,.slice a' l c'] w fun e u=>e = .returned (.bool true)∧w.grownBy u none:=by
 have hl:=h.2.1;have hfl:=h.1;rcases h.cases with ⟨rfl,rfl⟩|⟨b,o,rfl,hin,hpos⟩
 ·
  go_enter Tryz.func29,Tryz.ntmps29;go_wp2;refine wp_loop_rounds 1 ?_;rw[rounds_succ];go_wp2;go_ret;exact ⟨rfl,grf _ _⟩
 rcases h'.cases with ⟨rfl,rfl⟩|⟨b',o',rfl,hin',-⟩
 ·
  exact absurd hpos (by omega)
 have IN:Hid (InDa w w cs b o∧InDa w w cs b' o'):=⟨hin,hin'⟩;clear hin hin' h h';go_enter Tryz.func29,Tryz.ntmps29;go_wp2
 go_loopw [5] (fun i wr=>∃ (j:Nat) (R:List Da),j≤l∧i = .int .i64 j∧Hid (w.grownBy wr none∧InDa wr wr R b (o+j * 3)∧InDa wr wr R b' (o' + j * 3))∧szDas R≤1048576∧R.length+j=l) (fun i _=>l - (intOf i).toNat)
 case atStart=>exact ⟨0,cs,Nat.zero_le _,rfl,⟨grf _ _,by simpa using IN.out.1,by simpa using IN.out.2⟩,hs,by omega⟩
 case round =>
  obtain ⟨j,R,hj,rfl,HR,hRs,hRl⟩:=hrel;by_cases hlt:j < l
  ·
   obtain ⟨x,R',rfl⟩:∃ x R',R=x::R':=by
    cases R with
    | nil=>simp at hRl;omega
    | cons x R'=>exact ⟨x,R',rfl⟩
   obtain ⟨hg,⟨⟨a1,n1,c1,a2,l2,c2,k0,k1,k2,hd1,hd2⟩,hR2⟩,⟨⟨a3,n3,c3,a4,l4,c4,m0,m1,m2,hd3,hd4⟩,hR3⟩⟩:=HR.out;rw[show o+j * 3+3=o+(j+1) * 3 by omega] at hR2;rw[show o' + j * 3+3=o' + (j+1) * 3 by omega] at hR3
   obtain rfl:n3=n1:=by have:=hd1.1.1;have:=hd3.1.1;omega
   obtain rfl:l4=l2:=by have:=hd2.1;have:=hd4.1;omega
   simp only[szDas,szDa] at hRs;have gd:=grown_drew (grf wr none);have gc:=CLe.grown gd;have CC:Hid _:=eqDaT x a1 a3 n3 c1 c3 a2 a4 l4 c2 c4 wr.drew (hd1.none gd) (hd2.none gd) (hd3.none gd) (hd4.none gd) (by have:=hd1.1.1;omega) (by omega)
   have TT:Hid (∀ u,wr.grownBy u none→(u.cell? ⟨b,o+j * 3,none⟩=some (.slice a1 n3 c1)∧u.cell? ⟨b,o+j * 3+1,none⟩=some (.int .i64 x.vars)∧u.cell? ⟨b,o+j * 3+2,none⟩=some (.slice a2 l4 c2))∧u.cell? ⟨b',o' + j * 3,none⟩=some (.slice a3 n3 c3)∧u.cell? ⟨b',o' + j * 3+1,none⟩=some (.int .i64 x.vars)∧u.cell? ⟨b',o' + j * 3+2,none⟩=some (.slice a4 l4 c4)):=fun u hu=>⟨⟨hu.cell k0 (by simp),hu.cell k1 (by simp),hu.cell k2 (by simp)⟩,hu.cell m0 (by simp),hu.cell m1 (by simp),hu.cell m2 (by simp)⟩
   have FX:Hid (w.grownBy wr.drew none∧InDa wr.drew wr.drew R' b (o+(j+1) * 3)∧InDa wr.drew wr.drew R' b' (o' + (j+1) * 3)∧wr.grownBy wr.drew none):=⟨gtr hg gd,hR2.le gc gc,hR3.le gc gc,gd⟩;clear hd1 hd2 hd3 hd4 hR2 hR3 hg IN HR gd gc k0 k1 k2 m0 m1 m2;simp only[lB] at hRl;go_wp2_with fail;refine wp_region_held_drew (S:=(fun u=>(u.cell? ⟨b,o+j * 3,none⟩=some (.slice a1 n3 c1)∧u.cell? ⟨b,o+j * 3+1,none⟩=some (.int .i64 x.vars)∧u.cell? ⟨b,o+j * 3+2,none⟩=some (.slice a2 l4 c2))∧u.cell? ⟨b',o' + j * 3,none⟩=some (.slice a3 n3 c3)∧u.cell? ⟨b',o' + j * 3+1,none⟩=some (.int .i64 x.vars)∧u.cell? ⟨b',o' + j * 3+2,none⟩=some (.slice a4 l4 c4))) (by kernel_rfl) (TT.out _ FX.out.2.2.2) (fun hH=>?_);generalize wr.drew=u at *;simp only[List.size_toArray,lB,lC,Nat.reduceAdd,Array.replicate,List.replicate];refine tk 0 ?_;refine tk 1 ?_;refine tk 2 ?_;refine tk 3 ?_;refine tk 4 ?_;refine tk 5 ?_;refine tk 6 ?_
   refine tk 7 ?_;refine rd 8 rfl (fun K hK=>?_);go_simp;refine Calls.mono CC.out ?_;rintro e u2 ⟨he,hgu⟩;subst he;refine hK.out _ _ (TT.out _ (gtr FX.out.2.2.2 hgu)) ?_;clear hK K hH;intro hH;have FY:Hid (w.grownBy u2 none∧InDa u2 u2 R' b (o+(j+1) * 3)∧InDa u2 u2 R' b' (o' + (j+1) * 3)):=⟨gtr FX.out.1 hgu,FX.out.2.1.le (CLe.grown hgu) (CLe.grown hgu),FX.out.2.2.1.le (CLe.grown hgu) (CLe.grown hgu)⟩;clear FX hgu CC TT;simp only[Act.put,nA,nB,nC,nD,nE,nF];refine tk 9 ?_;refine wpAnyH_done (by kernel_rfl) ?_ _;go_wp2;go_roundw
   case rel=>exact ⟨j+1,R',by omega,by go_num,FY,by omega,by omega⟩
   case measure=>simp [intOf];omega
  ·
   obtain rfl:j=l:=by omega
   have E:Hid (w.grownBy wr none):=HR.out.1;clear HR IN;go_wp2;go_ret;exact ⟨rfl,E.out⟩
end Go.Proofs.YtblbnillilbacaaGreatDoor.By
