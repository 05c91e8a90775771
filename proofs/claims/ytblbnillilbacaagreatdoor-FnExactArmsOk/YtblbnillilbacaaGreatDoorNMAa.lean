/-
  No statement is proved here.
-/
import Derived.Test.YtblbnillilbacaaGreatDoorEXa
import Derived.Test.YtblbnillilbacaaGreatDoorEPAlsoa
import Derived.Test.YtblbnillilbacaaGreatDoorNHa
namespace Go.Proofs.YtblbnillilbacaaGreatDoor.By
set_option maxRecDepth 100000
set_option maxHeartbeats 16000000
open Go.RowKit
set_option linter.unusedVariables false
set_option linter.unusedSimpArgs false
def bdV (k:Int) (nm ar:List Int) (i:Nat):List (List Int) :=
 if k=7∧i=0 then [nm,ar] else if k=4∨k=7∨(k=6∧i=1)∨(k=18∧i=1) then [nm] else []
def hdS (al:Bool) (hv:List (List Int)) (k:Int) (nm ar:List Int) (i:Nat):List (List Int):=if al then hv else bdV k nm ar i
def ownV (S:List (List Int)) (p:PE):Bool:=!decide (p.k=3) || amV p.name S
def nmG:List (List Int)→Bool→Int→List Int→List Int→Nat→GE→Bool
 | _,_,_,_,_,_,.nil=>true
 | S,al,k,nm,ar,i,.cons hc hv p kids alts rest=>(ownV (hdS al hv k nm ar i++S) p && nmG (hdS al hv k nm ar i++S) false p.k p.name p.arg 0 kids && nmG (hdS al hv k nm ar i++S) true p.k p.name p.arg 0 alts) && nmG S al k nm ar (i+1) rest
def nmE (S:List (List Int)) (p:PE) (kids alts:GE):Bool:=ownV S p && nmG S false p.k p.name p.arg 0 kids && nmG S true p.k p.name p.arg 0 alts
theorem nmG_cons (S:List (List Int)) (al:Bool) (k:Int) (nm ar:List Int) (i:Nat) (hc:List Int) (hv:List (List Int)) (p:PE) (kids alts rest:GE):nmG S al k nm ar i (.cons hc hv p kids alts rest)=(nmE (hdS al hv k nm ar i++S) p kids alts && nmG S al k nm ar (i+1) rest):=rfl
theorem namV_app (z:List Int) (A B:List (List Int)):amV z (A++B)=(amV z A || amV z B):=by unfold amV;rw[List.any_append]
theorem namV_rev (z:List Int) (A:List (List Int)):amV z A.reverse=amV z A:=by unfold amV;rw[List.any_reverse]
theorem namV_cons (z x:List Int) (A:List (List Int)):amV z (x::A)=(decide (x=z) || amV z A):=rfl
theorem nmG_congr:∀ (g:GE) {S T:List (List Int)} (al:Bool) (k:Int) (nm ar:List Int) (i:Nat),(∀ z,amV z S=amV z T)→nmG S al k nm ar i g=nmG T al k nm ar i g
 | .nil,_,_,_,_,_,_,_,_=>rfl
 | .cons hc hv p kids alts rest,S,T,al,k,nm,ar,i,h=>by
  have h':∀ z,amV z (hdS al hv k nm ar i++S)=amV z (hdS al hv k nm ar i++T):=fun z=>by rw[namV_app,namV_app,h]
  simp only[nmG,ownV];rw[nmG_congr kids _ _ _ _ _ h',nmG_congr alts _ _ _ _ _ h',nmG_congr rest _ _ _ _ _ h,h']
theorem nmE_congr {S T:List (List Int)} (p:PE) (kids alts:GE) (h:∀ z,amV z S=amV z T):nmE S p kids alts=nmE T p kids alts:=by
 unfold nmE ownV;rw[nmG_congr kids _ _ _ _ _ h,nmG_congr alts _ _ _ _ _ h,h]
def kAt (z:List Int):List Co→Option Co
 | []=>none
 | y::r=>if y.name=z then some y else kAt z r
def cAt (z:List Int):List Da→Option Co
 | []=>none
 | x::r=>match kAt z x.cons with
  | some y=>some y
  | none=>cAt z r
def cnOk (ds:List Da) (z:List Int) (n:Nat):Bool:=match cAt z ds with
 | some y=>decide (y.flds.len=n)
 | none=>false
theorem kIx_at (z:List Int):∀ (cs:List Co) (i:Nat),(kIx z cs i = -1∧kAt z cs=none)∨∃ (k:Nat) (y:Co),kIx z cs i=((i+k:Nat):Int)∧cs[k]? = some y∧kAt z cs=some y
 | [],_=>.inl ⟨rfl,rfl⟩
 | y::r,i=>by
  unfold kIx kAt;by_cases h:y.name=z
  ·
   rw[if_pos h,if_pos h];exact .inr ⟨0,y,by simp,rfl,rfl⟩
  ·
   rw[if_neg h,if_neg h];rcases kIx_at z r (i+1) with h1|⟨k,y',h1,h2,h3⟩
   ·
    exact .inl h1
   ·
    exact .inr ⟨k+1,y',by rw[h1];congr 1;omega,by simpa using h2,h3⟩
theorem cIx_here (z:List Int):∀ (ds:List Da) (i:Nat),(cIx z ds i=(-1,-1)∧cAt z ds=none)∨∃ (j k:Nat) (x:Da) (y:Co),cIx z ds i=(((i+j:Nat):Int),(k:Int))∧ds[j]? = some x∧x.cons[k]? = some y∧cAt z ds=some y
 | [],_=>.inl ⟨rfl,rfl⟩
 | x::r,i=>by
  rw[cIx_cons];unfold cAt;rcases kIx_at z x.cons 0 with ⟨h1,h2⟩|⟨k,y,h1,h2,h3⟩
  ·
   rw[h1,h2,if_neg (by omega)];rcases cIx_here z r (i+1) with h|⟨j,k,x',y',h4,h5,h6,h7⟩
   ·
    exact .inl h
   ·
    exact .inr ⟨j+1,k,x',y',by rw[h4];congr 2;omega,by simpa using h5,h6,h7⟩
  ·
   rw[h1,h3,if_pos (by omega)];exact .inr ⟨0,k,x,y,by simp,rfl,h2,rfl⟩
def badC (ds:List Da):GE→Bool
 | .nil=>false
 | .cons hc hv _ _ _ r=>(decide (0 < hc.length) && !cnOk ds hc hv.length) || badC ds r
def cnE (ds:List Da) (p:PE) (kids alts:GE):Bool:=!(decide (p.k=15) && !cnOk ds p.name kids.len) && !badC ds alts
def epG (ds:List Da):GE→Bool
 | .nil=>true
 | .cons _ _ p kids alts rest=>(cnE ds p kids alts && epG ds kids && epG ds alts) && epG ds rest
def epE (ds:List Da) (p:PE) (kids alts:GE):Bool:=cnE ds p kids alts && epG ds kids && epG ds alts
theorem epG_cons (ds:List Da) (hc:List Int) (hv:List (List Int)) (p:PE) (kids alts rest:GE):epG ds (.cons hc hv p kids alts rest)=(epE ds p kids alts && epG ds rest):=rfl
def l6G (ds:List Da):List (List Int)→Bool→Int→List Int→List Int→Nat→GE→Bool
 | _,_,_,_,_,_,.nil=>true
 | S,al,k,nm,ar,i,.cons hc hv p kids alts rest=>((!al || !decide (0 < hc.length) || cnOk ds hc hv.length) && (if p.k=3 then amV p.name (hdS al hv k nm ar i++S) else (!decide (p.k=15) || cnOk ds p.name kids.len) && l6G ds (hdS al hv k nm ar i++S) false p.k p.name p.arg 0 kids && l6G ds (hdS al hv k nm ar i++S) true p.k p.name p.arg 0 alts)) && l6G ds S al k nm ar (i+1) rest
def l6E (ds:List Da) (S:List (List Int)) (p:PE) (kids alts:GE):Bool:=if p.k=3 then amV p.name S else (!decide (p.k=15) || cnOk ds p.name kids.len) && l6G ds S false p.k p.name p.arg 0 kids && l6G ds S true p.k p.name p.arg 0 alts
theorem l6G_cons (ds:List Da) (S:List (List Int)) (al:Bool) (k:Int) (nm ar:List Int) (i:Nat) (hc:List Int) (hv:List (List Int)) (p:PE) (kids alts rest:GE):l6G ds S al k nm ar i (.cons hc hv p kids alts rest)=(((!al || !decide (0 < hc.length) || cnOk ds hc hv.length) && l6E ds (hdS al hv k nm ar i++S) p kids alts) && l6G ds S al k nm ar (i+1) rest):=rfl
theorem l6G_congr (ds:List Da):∀ (g:GE) {S T:List (List Int)} (al:Bool) (k:Int) (nm ar:List Int) (i:Nat),(∀ z,amV z S=amV z T)→l6G ds S al k nm ar i g=l6G ds T al k nm ar i g
 | .nil,_,_,_,_,_,_,_,_=>rfl
 | .cons hc hv p kids alts rest,S,T,al,k,nm,ar,i,h=>by
  have h':∀ z,amV z (hdS al hv k nm ar i++S)=amV z (hdS al hv k nm ar i++T):=fun z=>by rw[namV_app,namV_app,h]
  simp only[l6G];rw[l6G_congr ds kids _ _ _ _ _ h',l6G_congr ds alts _ _ _ _ _ h',l6G_congr ds rest _ _ _ _ _ h,h']
theorem l6E_congr (ds:List Da) {S T:List (List Int)} (p:PE) (kids alts:GE) (h:∀ z,amV z S=amV z T):l6E ds S p kids alts=l6E ds T p kids alts:=by
 unfold l6E;rw[l6G_congr ds kids _ _ _ _ _ h,l6G_congr ds alts _ _ _ _ _ h,h]
def SnI (w wn:World):Option Addr→List (List Int)→Prop
 | q,[]=>q=none
 | q,x::R=>∃ (b:Nat) (a:Option Addr) (n c:Nat) (v1 v2 v3 v4:Value) (q':Option Addr),q=some ⟨b,0,none⟩∧w.heap[b]? = some (.cells #[.slice a n c,v1,v2,v3,v4,.pointer q'] 172 (0,0))∧RdB wn a n x∧SnI w wn q' R
theorem SnI.fix {w u wn un:World} (k:∀ (b:Nat) (a:Option Addr) (n c:Nat) (v1 v2 v3 v4:Value) (q':Option Addr),w.heap[b]? = some (.cells #[.slice a n c,v1,v2,v3,v4,.pointer q'] 172 (0,0))→u.heap[b]? = w.heap[b]?) (kn:CLe wn un):∀ {R:List (List Int)} {q:Option Addr},SnI w wn q R→SnI u un q R
 | [],_,h=>h
 | x::R,q,h=>by
  obtain ⟨b,a,n,c,v1,v2,v3,v4,q',e,hb,hr,ht⟩:=h;exact ⟨b,a,n,c,v1,v2,v3,v4,q',e,(k _ _ _ _ _ _ _ _ _ hb).trans hb,hr.le kn,ht.fix k kn⟩
theorem SnI.grown {w u wn un:World} {R:List (List Int)} {q:Option Addr} (h:SnI w wn q R) (k:w.grownBy u none) (kn:CLe wn un):SnI u un q R:=h.fix (fun b _ _ _ _ _ _ _ _ hb=>k.block b (lt_of_block hb) (by simp)) kn
theorem SnI.turn {w u wn:World} {R:List (List Int)} {q:Option Addr} {p:Nat} {v:Value} {t:TypeId} {fr:Nat × Nat} (h:SnI w wn q R) (k:w.grownBy u (some p)) (hp:w.heap[p]? = some (.cells #[v] t fr)):SnI u wn q R:=h.fix (fun b _ _ _ _ _ _ _ _ hb=>k.block b (lt_of_block hb) (fun e=>by have e1:b=p:=(by injection e);subst e1;rw[hp] at hb;cases hb)) (fun _ _ hv=>hv)
theorem blkSn {w:World} {g:Nat} {t:TypeId} {v0 v1 v2 v3 v4 v5:Value} (h:w.heap[g]? = some (.cells #[v0,v1,v2,v3,v4,v5] t (0,0))):w.cell? ⟨g,0,none⟩=some v0∧w.cell? ⟨g,1,none⟩=some v1∧w.cell? ⟨g,2,none⟩=some v2∧w.cell? ⟨g,3,none⟩=some v3∧w.cell? ⟨g,4,none⟩=some v4∧w.cell? ⟨g,5,none⟩=some v5:=by
 refine ⟨?_,?_,?_,?_,?_,?_⟩ <;> (rw[cell_of_row w g _ _ t (0,0) h];rfl)
theorem findT (S:List (List Int)) (q:Option Addr) (z:List Int) (a':Option Addr) (n' c':Nat) (w:World) (h:SnI w w q S) (hz:RdB w a' n' z) :
  Calls Tryz.prog 112 #[.pointer q,.slice a' n' c'] w fun e u=>((amV z S=true∧∃ ad,e = .returned (.pointer (some ad)))∨(amV z S=false∧e = .returned (.pointer none)))∧w.grownBy u none:=by
 have IN:Hid (SnI w w q S∧RdB w a' n' z):=⟨h,hz⟩;clear h hz;go_enter Tryz.func112,Tryz.ntmps112;go_wp2
 go_loopg [0] S.length (fun k s wr=>∃ (R:List (List Int)) (r:Option Addr),s = .pointer r∧Hid (k=R.length∧w.grownBy wr none∧SnI w w r R∧amV z S=amV z R))
 case atStart=>exact ⟨S,q,rfl,rfl,grf _ _,IN.out.1,rfl⟩
 case round =>
  obtain ⟨R,r,rfl,HR⟩:=hrel
  cases R with
  | nil =>
   obtain rfl:r=none:=HR.out.2.2.1;have E:Hid (amV z S=false∧w.grownBy wr none):=⟨HR.out.2.2.2,HR.out.2.1⟩;clear HR;go_wp2;go_ret;exact ⟨.inr ⟨E.out.1,rfl⟩,E.out.2⟩
  | cons x R =>
   obtain ⟨hk,hg,⟨b,a,n,c,v1,v2,v3,v4,r',rfl,hb,hr,ht⟩,hv⟩:=HR.out;obtain ⟨y0,-,-,-,-,y5⟩:=blkSn ((hg.block _ (lt_of_block hb) (by simp)).trans hb);have CC:Hid _:=bytesEqT a a' n c n' c' x z wr (hr.none hg) (IN.out.2.none hg);have FX:Hid (gk=(x::R).length∧w.grownBy wr none∧SnI w w r' R∧amV z S=(decide (x=z) || amV z R)∧w.heap[b]? = some (.cells #[.slice a n c,v1,v2,v3,v4,.pointer r'] 172 (0,0))):=⟨hk,hg,ht,hv,hb⟩;clear hk hg hr ht hv HR hb;go_wp2_with fail;refine Calls.mono CC.out ?_;rintro e u ⟨he,hgu⟩;subst he;have FY:Hid (w.grownBy u none):=gtr FX.out.2.1 hgu;clear CC hgu y0 y5;obtain ⟨y0,-,-,-,-,y5⟩:=blkSn ((FY.out.block _ (lt_of_block FX.out.2.2.2.2) (by simp)).trans FX.out.2.2.2.2);simp only[];by_cases hxz:x=z
   ·
    have E:Hid (amV z S=true):=by show _=_;rw[FX.out.2.2.2.1];simp [hxz]
    have hd2:decide (x=z)=true:=by simp [hxz]
    rw[hd2];clear hxz hd2 FX;go_wp2;go_ret;exact ⟨.inl ⟨E.out,_,rfl⟩,FY.out⟩
   ·
    have E:Hid (amV z S=amV z R):=by show _=_;rw[FX.out.2.2.2.1];simp [hxz]
    have hd2:decide (x=z)=false:=by simp [hxz]
    rw[hd2];clear hxz hd2;go_wp2;go_roundg R.length
    case measure=>have:=FX.out.1;simp only[lB] at this;omega
    case rel=>exact ⟨R,r',rfl,rfl,FY.out,FX.out.2.2.1,E.out⟩
theorem with1T (q:Option Addr) (a:Option Addr) (n c:Nat) (v0 v1 v2 v3:Value) (p:Nat) (w:World) (hp:w.heap[p]? = some (.cells #[.pointer q] 139 (0,0))) :
  Calls Tryz.prog 145 #[.slice a n c,.agg #[v0,v1,v2,v3],.pointer (some ⟨p,0,none⟩)] w fun e u=>e = .returned (.bool true)∧u=((w.setCell ⟨p,0,none⟩ (.pointer (some ⟨w.heap.size+1,0,none⟩))).alloc (.cells #[v0,v1,v2,v3] 143)).alloc (.cells #[.slice a n c,v0,v1,v2,v3,.pointer q] 172):=by
 have hlt:=lt_of_block hp
 have y0:w.cell? ⟨p,0,none⟩=some (.pointer q):=by rw[cell_of_row w p _ _ _ (0,0) hp];rfl
 have f0:w.frozen? ⟨p,0,none⟩=false:=frozen_of_row w p _ _ _ hp;clear hp;go_enter Tryz.func145,Tryz.ntmps145;go_wp2;go_ret;exact ⟨rfl,rfl⟩
theorem with1A {w u:World} {p:Nat} {q:Option Addr} {v:Value} {t:TypeId} {a:Option Addr} {n c:Nat} {v0 v1 v2 v3:Value} (hp:w.heap[p]? = some (.cells #[v] t (0,0))) (hu:u=((w.setCell ⟨p,0,none⟩ (.pointer (some ⟨w.heap.size+1,0,none⟩))).alloc (.cells #[v0,v1,v2,v3] 143)).alloc (.cells #[.slice a n c,v0,v1,v2,v3,.pointer q] 172)) :
  w.grownBy u (some p)∧u.heap[p]? = some (.cells #[.pointer (some ⟨w.heap.size+1,0,none⟩)] t (0,0))∧u.heap[w.heap.size+1]? = some (.cells #[.slice a n c,v0,v1,v2,v3,.pointer q] 172 (0,0)):=by
 have g0:=gsc w p 0 (.pointer (some ⟨w.heap.size+1,0,none⟩));subst hu;have h0:(w.setCell ⟨p,0,none⟩ (.pointer (some ⟨w.heap.size+1,0,none⟩))).heap[p]? = some (.cells #[.pointer (some ⟨w.heap.size+1,0,none⟩)] t (0,0)):=heap_setCell_same _ p 0 _ t _ hp
 have es:(w.setCell ⟨p,0,none⟩ (.pointer (some ⟨w.heap.size+1,0,none⟩))).heap.size=w.heap.size:=by simp
 obtain ⟨b0,b1,bsz⟩:=alloc2_blocks (w.setCell ⟨p,0,none⟩ (.pointer (some ⟨w.heap.size+1,0,none⟩))) (.cells #[v0,v1,v2,v3] 143) (.cells #[.slice a n c,v0,v1,v2,v3,.pointer q] 172);have g1:=grown_alloc (grown_alloc (grf (w.setCell ⟨p,0,none⟩ (.pointer (some ⟨w.heap.size+1,0,none⟩))) none) (.cells #[v0,v1,v2,v3] 143)) (.cells #[.slice a n c,v0,v1,v2,v3,.pointer q] 172);rw[es] at b1;exact ⟨gtr g0 ⟨g1.os,g1.tape,g1.output,g1.size,fun i hi _=>g1.block i hi (by simp)⟩,(g1.block _ (lt_of_block h0) (by simp)).trans h0,b1⟩
def ZT (w:World) (ta:Option Addr) (l:Nat):Prop:=l=0∨∃ b o,ta=some ⟨b,o,none⟩∧∀ i,i < l * 4→∃ v:Value,w.cell? ⟨b,o+i,none⟩=some v
theorem togetherT (xs S:List (List Int)) (q:Option Addr) (a:Option Addr) (l c:Nat) (ta:Option Addr) (tc p:Nat) (w W:World) (hW:w.grownBy W none) (hp:W.heap[p]? = some (.cells #[.pointer q] 139 (0,0))) (hpl:w.heap.size≤p) (hS:SnI w w q S) (hN:SlSS w a l xs) (hT:ZT w ta l) :
  Calls Tryz.prog 144 #[.slice a l c,.slice ta l tc,.func (Fn.func 145) #[] #[.pointer (some ⟨p,0,none⟩)]] W fun e u=>e = .returned (.bool true)∧∃ q',w.grownBy u none∧u.heap[p]? = some (.cells #[.pointer q'] 139 (0,0))∧SnI u w q' (xs.reverse++S):=by
 have hl:=hN.2.1;have hfl:=hN.1;have HS:Hid (SnI W w q S):=hS.grown hW (fun _ _ h=>h);have HW:Hid (w.grownBy W none∧W.heap[p]? = some (.cells #[.pointer q] 139 (0,0))∧w.heap.size≤p):=⟨hW,hp,hpl⟩;clear hS hW hp hpl;rcases hN.cases with ⟨rfl,rfl⟩|⟨b,o,rfl,hin,hpos⟩
 ·
  clear hN hT;go_enter Tryz.func144,Tryz.ntmps144;go_wp2;refine wp_loop_rounds 1 ?_;rw[rounds_succ];go_wp2;go_ret;exact ⟨rfl,q,HW.out.1,HW.out.2.1,HS.out⟩
 rcases hT with h0|⟨tb,tf,rfl,hz⟩
 ·
  omega
 have IN:Hid (InSS w w xs b o∧∀ i,i < l * 4→∃ v:Value,w.cell? ⟨tb,tf+i,none⟩=some v):=⟨hin,hz⟩;clear hin hz hN;go_enter Tryz.func144,Tryz.ntmps144;go_wp2
 go_loopw [16] (fun i wr=>∃ (j:Nat) (P R:List (List Int)) (q':Option Addr),j≤l∧i = .int .i64 j∧P.length=j∧R.length+j=l∧Hid (w.grownBy wr none∧wr.heap[p]? = some (.cells #[.pointer q'] 139 (0,0))∧SnI wr w q' (P.reverse++S)∧InSS w w R b (o+j)∧P++R=xs)) (fun i _=>l - (intOf i).toNat)
 case atStart=>exact ⟨0,[],xs,q,Nat.zero_le _,rfl,rfl,by omega,HW.out.1,HW.out.2.1,HS.out,by simpa using IN.out.1,rfl⟩
 case round =>
  clear HS;obtain ⟨j,P,R,q',hj,rfl,hPl,hRl,HR⟩:=hrel;by_cases hlt:j < l
  ·
   obtain ⟨x,R',rfl⟩:∃ x R',R=x::R':=by
    cases R with
    | nil=>simp at hRl;omega
    | cons x R'=>exact ⟨x,R',rfl⟩
   obtain ⟨hg,hp,hS,⟨⟨a1,n1,c1,k0,hd⟩,hR2⟩,hPR⟩:=HR.out;rw[show o+j+1=o+(j+1) by omega] at hR2;have k0:=hg.cell k0 (by simp);obtain ⟨v0,z0⟩:=IN.out.2 (j * 4) (by omega);obtain ⟨v1,z1⟩:=IN.out.2 (j * 4+1) (by omega);obtain ⟨v2,z2⟩:=IN.out.2 (j * 4+2) (by omega);obtain ⟨v3,z3⟩:=IN.out.2 (j * 4+3) (by omega);rw[← Nat.add_assoc] at z1 z2 z3;have z0:=hg.cell z0 (by simp);have z1:=hg.cell z1 (by simp);have z2:=hg.cell z2 (by simp);have z3:=hg.cell z3 (by simp);have CC:Hid _:=with1T q' a1 n1 c1 v0 v1 v2 v3 p wr hp;have FX:Hid (w.grownBy wr none∧wr.heap[p]? = some (.cells #[.pointer q'] 139 (0,0))∧SnI wr w q' (P.reverse++S)∧InSS w w R' b (o+(j+1))∧(P++[x])++R' = xs∧RdB w a1 n1 x):=⟨hg,hp,hS,hR2,by rw[List.append_assoc];exact hPR,hd⟩;clear hg hp hS hR2 hPR hd HR;simp only[lB] at hRl;go_wp2_with fail;refine Calls.mono CC.out ?_;rintro e u ⟨he,hu⟩;subst he;obtain ⟨g1,g2,g3⟩:=with1A FX.out.2.1 hu
   have FY:Hid (w.grownBy u none∧u.heap[p]? = some (.cells #[.pointer (some ⟨wr.heap.size+1,0,none⟩)] 139 (0,0))∧SnI u w (some ⟨wr.heap.size+1,0,none⟩) ((P++[x]).reverse++S)):=⟨grown_into FX.out.1 g1 HW.out.2.2,g2,by
    rw[List.reverse_append]
    exact ⟨_,a1,n1,c1,v0,v1,v2,v3,q',rfl,g3,FX.out.2.2.2.2.2,FX.out.2.2.1.turn g1 FX.out.2.1⟩⟩
   clear hu g1 g2 g3 CC k0 z0 z1 z2 z3;simp only[];go_wp2;go_roundw
   case rel=>exact ⟨j+1,P++[x],R',some ⟨wr.heap.size+1,0,none⟩,by omega,by go_num,by simp [hPl],by omega,FY.out.1,FY.out.2.1,FY.out.2.2,FX.out.2.2.2.1,FX.out.2.2.2.2.1⟩
   case measure=>simp [intOf];omega
  ·
   obtain rfl:j=l:=by omega
   obtain rfl:R=[]:=List.eq_nil_of_length_eq_zero (by omega);obtain ⟨hg,hp,hS,-,hPR⟩:=HR.out;rw[List.append_nil] at hPR;subst hPR;have E:Hid (w.grownBy wr none∧wr.heap[p]? = some (.cells #[.pointer q'] 139 (0,0))∧SnI wr w q' (P.reverse++S)):=⟨hg,hp,hS⟩;clear HR hg hp hS;go_wp2;go_ret;exact ⟨rfl,q',E.out⟩
theorem withT (xs S:List (List Int)) (q:Option Addr) (a:Option Addr) (l c:Nat) (ta:Option Addr) (tc:Nat) (w:World) (hS:SnI w w q S) (hN:SlSS w a l xs) (hT:ZT w ta l) :
  Calls Tryz.prog 114 #[.pointer q,.slice a l c,.slice ta l tc] w fun e u=>∃ q',e = .returned (.pointer q')∧w.grownBy u none∧SnI u u q' (xs.reverse++S):=by
 have ga:=gal w (.cells #[.pointer q] 139) none;have ba:=heap_alloc_new w (.cells #[.pointer q] 139);have CC:Hid _:=togetherT xs S q a l c ta tc w.heap.size w _ ga ba (Nat.le_refl _) hS hN hT;clear hS hN hT ga ba;go_enter Tryz.func114,Tryz.ntmps114;go_wp2_with fail;refine Calls.mono CC.out ?_;rintro e u ⟨he,q',hg,hb,hs⟩;subst he
 have y0:u.cell? ⟨w.heap.size,0,none⟩=some (.pointer q'):=by rw[cell_of_row u _ _ _ _ (0,0) hb];rfl
 have F:Hid (w.grownBy u none∧SnI u u q' (xs.reverse++S)):=⟨hg,hs.grown (grf _ _) (CLe.grown hg)⟩;clear hg hb hs CC;simp only[];go_wp2;go_ret;exact ⟨q',rfl,F.out⟩
theorem infoTp:(Tryz.prog.info? 143).map (fun i=>(i.zero,i.size,i.bytes))=some (some (.agg #[.int .i64 0,.int .i64 0,.slice none 0 0,.slice none 0 0]),4,64):=by kernel_rfl
theorem makeTp (n:Nat) (hn:n≤4194304) (w:World):(Instr.makeSlice 146 (.int .i64 (n:Int)) (.int .i64 (n:Int))).run Tryz.prog w = .ok (.slice (some ⟨w.heap.size,0,none⟩) n n) (w.alloc (.cells (madeCells #[.int .i64 0,.int .i64 0,.slice none 0 0,.slice none 0 0] (n * 4)) 143)):=by
 obtain ⟨i0,hi,hz0,hz1,hz2⟩:=info_parts infoTp;have h:=run_make (P:=Tryz.prog) (w:=w) 146 143 i0 _ Tryz.underlying146 hi hz0 .i64 .i64 (n:Int) (n:Int) (by omega) (by omega) (by rw[hz2];omega) (by omega);rw[hz1] at h;simpa [Value.cells] using h
theorem madeTp (w:World) (n:Nat):ZT (w.alloc (.cells (madeCells #[.int .i64 0,.int .i64 0,.slice none 0 0,.slice none 0 0] (n * 4)) 143)) (some ⟨w.heap.size,0,none⟩) n:=by
 refine .inr ⟨w.heap.size,0,rfl,fun i hi=>?_⟩;have hb:=heap_alloc_new w (.cells (madeCells #[.int .i64 0,.int .i64 0,.slice none 0 0,.slice none 0 0] (n * 4)) 143)
 have hs:(madeCells #[.int .i64 0,.int .i64 0,.slice none 0 0,.slice none 0 0] (n * 4)).size=n * 4:=by simp [madeCells]
 rw[Nat.zero_add,cell_of_row _ _ _ _ _ (0,0) hb];exact ⟨_,Array.getElem?_eq_getElem (by rw[hs];exact hi)⟩
theorem ss1 {w u:World} {g:Nat} {t:TypeId} {a:Option Addr} {n c:Nat} {x:List Int} (hb:u.heap[g]? = some (.cells #[.slice a n c] t (0,0))) (k:w.grownBy u none) (h:RdB w a n x):SlSS u (some ⟨g,0,none⟩) 1 [x] :=
 ⟨rfl,by omega,.inr ⟨g,0,rfl,⟨a,n,c,by rw[cell_of_row u _ _ _ _ (0,0) hb];rfl,h.none k⟩,trivial⟩⟩
theorem ss2 {w u:World} {g:Nat} {t:TypeId} {a:Option Addr} {n c:Nat} {x:List Int} {a':Option Addr} {n' c':Nat} {x':List Int} (hb:u.heap[g]? = some (.cells #[.slice a n c,.slice a' n' c'] t (0,0))) (k:w.grownBy u none) (h:RdB w a n x) (h':RdB w a' n' x'):SlSS u (some ⟨g,0,none⟩) 2 [x,x'] :=
 ⟨rfl,by omega,.inr ⟨g,0,rfl,⟨a,n,c,by rw[cell_of_row u _ _ _ _ (0,0) hb];rfl,h.none k⟩,⟨a',n',c',by rw[cell_of_row u _ _ _ _ (0,0) hb];rfl,h'.none k⟩,trivial⟩⟩
def NiA (w:World) (xs:List (List Int)) (e:Ending) (u:World):Prop:=∃ a c,e = .returned (.slice a xs.length c)∧w.grownBy u none∧SlSS u a xs.length xs
theorem namesInK (k n:Int) (nm ar:List Int) (v4:Value) (a1:Option Addr) (l1 c1:Nat) (a2:Option Addr) (l2 c2:Nat) (a4:Option Addr) (l4 c4:Nat) (a5:Option Addr) (l5 c5:Nat) (i:Nat) (w:World) (h1:RdB w a1 l1 nm) (h2:RdB w a2 l2 ar) (hi:i < l4) :
  Calls Tryz.prog 113 #[.agg #[.int .i64 k,.int .i64 n,.slice a1 l1 c1,.slice a2 l2 c2,v4,.slice a4 l4 c4,.slice a5 l5 c5],.int .i64 (i:Nat)] w fun e u=>NiA w (bdV k nm ar i) e u:=by
 have G0:Hid _:=gal w (.cells #[.int .i64 k,.int .i64 n,.slice a1 l1 c1,.slice a2 l2 c2,v4,.slice a4 l4 c4,.slice a5 l5 c5] 36) none;obtain ⟨⟨y0,y1,y2,y3,y4,y5,y6⟩,-⟩:=blkE (heap_alloc_new w (.cells #[.int .i64 k,.int .i64 n,.slice a1 l1 c1,.slice a2 l2 c2,v4,.slice a4 l4 c4,.slice a5 l5 c5] 36));have HN:Hid (RdB w a1 l1 nm∧RdB w a2 l2 ar):=⟨h1,h2⟩
 have hge:¬ (i:Int) ≥ (l4:Int):=by omega
 have hge':¬ (l4:Int)≤(i:Int):=by omega
 clear h1 h2 hi;by_cases h7:k=7
 ·
  have b7:(k == 7)=true:=by simpa using h7
  have b4:(k == 4)=false:=by subst h7;decide
  by_cases i0:i=0
  ·
   have EV:Hid (bdV k nm ar i=[nm,ar]):=by show _=_;unfold bdV;rw[if_pos ⟨h7,i0⟩]
   have bi:((i:Int) == 0)=true:=by subst i0;decide
   have b1:=(alloc2_blocks w (.cells #[.int .i64 k,.int .i64 n,.slice a1 l1 c1,.slice a2 l2 c2,v4,.slice a4 l4 c4,.slice a5 l5 c5] 36) (.cells #[.slice a1 l1 c1,.slice a2 l2 c2] 23)).2.1;have HQ:Hid (SlSS _ (some ⟨w.heap.size+1,0,none⟩) 2 [nm,ar]∧w.grownBy _ none):=⟨ss2 b1 (grown_alloc G0.out (.cells #[.slice a1 l1 c1,.slice a2 l2 c2] 23)) HN.out.1 HN.out.2,grown_alloc G0.out (.cells #[.slice a1 l1 c1,.slice a2 l2 c2] 23)⟩;clear b1 h7 i0;go_enter Tryz.func113,Tryz.ntmps113;go_wp2;go_ret;rw[EV.out];exact ⟨_,_,rfl,HQ.out.2,HQ.out.1⟩
  ·
   have EV:Hid (bdV k nm ar i=[nm]):=by show _=_;unfold bdV;rw[if_neg (fun h=>i0 h.2),if_pos (.inr (.inl h7))]
   have bi:((i:Int) == 0)=false:=by simp;omega
   clear h7 i0;have b1:=(alloc2_blocks w (.cells #[.int .i64 k,.int .i64 n,.slice a1 l1 c1,.slice a2 l2 c2,v4,.slice a4 l4 c4,.slice a5 l5 c5] 36) (.cells #[.slice a1 l1 c1] 23)).2.1;have HQ:Hid (SlSS _ (some ⟨w.heap.size+1,0,none⟩) 1 [nm]∧w.grownBy _ none):=⟨ss1 b1 (grown_alloc G0.out (.cells #[.slice a1 l1 c1] 23)) HN.out.1,grown_alloc G0.out (.cells #[.slice a1 l1 c1] 23)⟩;clear b1;go_enter Tryz.func113,Tryz.ntmps113;go_wp2;go_ret;rw[EV.out];exact ⟨_,_,rfl,HQ.out.2,HQ.out.1⟩
 have b7:(k == 7)=false:=by simpa using h7
 have e7:bdV k nm ar i=if k=4∨k=7∨(k=6∧i=1)∨(k=18∧i=1) then [nm] else []:=by unfold bdV;rw[if_neg (fun h=>h7 h.1)]
 by_cases h4:k=4
 ·
  have EV:Hid (bdV k nm ar i=[nm]):=by show _=_;rw[e7,if_pos (.inl h4)]
  have b4:(k == 4)=true:=by simpa using h4
  clear h7 h4 e7;have b1:=(alloc2_blocks w (.cells #[.int .i64 k,.int .i64 n,.slice a1 l1 c1,.slice a2 l2 c2,v4,.slice a4 l4 c4,.slice a5 l5 c5] 36) (.cells #[.slice a1 l1 c1] 23)).2.1;have HQ:Hid (SlSS _ (some ⟨w.heap.size+1,0,none⟩) 1 [nm]∧w.grownBy _ none):=⟨ss1 b1 (grown_alloc G0.out (.cells #[.slice a1 l1 c1] 23)) HN.out.1,grown_alloc G0.out (.cells #[.slice a1 l1 c1] 23)⟩;clear b1;go_enter Tryz.func113,Tryz.ntmps113;go_wp2;go_ret;rw[EV.out];exact ⟨_,_,rfl,HQ.out.2,HQ.out.1⟩
 have b4:(k == 4)=false:=by simpa using h4
 by_cases h6:k=6
 ·
  have b6:(k == 6)=true:=by simpa using h6
  have b18:(k == 18)=false:=by subst h6;decide
  by_cases i1:i=1
  ·
   have EV:Hid (bdV k nm ar i=[nm]):=by show _=_;rw[e7,if_pos (.inr (.inr (.inl ⟨h6,i1⟩)))]
   have bi:((i:Int) == 1)=true:=by subst i1;decide
   clear h7 h4 e7 h6 i1;have b1:=(alloc2_blocks w (.cells #[.int .i64 k,.int .i64 n,.slice a1 l1 c1,.slice a2 l2 c2,v4,.slice a4 l4 c4,.slice a5 l5 c5] 36) (.cells #[.slice a1 l1 c1] 23)).2.1;have HQ:Hid (SlSS _ (some ⟨w.heap.size+1,0,none⟩) 1 [nm]∧w.grownBy _ none):=⟨ss1 b1 (grown_alloc G0.out (.cells #[.slice a1 l1 c1] 23)) HN.out.1,grown_alloc G0.out (.cells #[.slice a1 l1 c1] 23)⟩;clear b1;go_enter Tryz.func113,Tryz.ntmps113;go_wp2;go_ret;rw[EV.out];exact ⟨_,_,rfl,HQ.out.2,HQ.out.1⟩
  ·
   have EV:Hid (bdV k nm ar i=[]):=by show _=_;rw[e7,if_neg (by omega)]
   have bi:((i:Int) == 1)=false:=by simp;omega
   clear h7 h4 e7 h6 i1;go_enter Tryz.func113,Tryz.ntmps113;go_wp2;go_ret;rw[EV.out];exact ⟨_,_,rfl,G0.out,rfl,by simp,.inl rfl⟩
 have b6:(k == 6)=false:=by simpa using h6
 by_cases h18:k=18
 ·
  have b18:(k == 18)=true:=by simpa using h18
  by_cases i1:i=1
  ·
   have EV:Hid (bdV k nm ar i=[nm]):=by show _=_;rw[e7,if_pos (.inr (.inr (.inr ⟨h18,i1⟩)))]
   have bi:((i:Int) == 1)=true:=by subst i1;decide
   clear h7 h4 e7 h6 i1 h18;have b1:=(alloc2_blocks w (.cells #[.int .i64 k,.int .i64 n,.slice a1 l1 c1,.slice a2 l2 c2,v4,.slice a4 l4 c4,.slice a5 l5 c5] 36) (.cells #[.slice a1 l1 c1] 23)).2.1;have HQ:Hid (SlSS _ (some ⟨w.heap.size+1,0,none⟩) 1 [nm]∧w.grownBy _ none):=⟨ss1 b1 (grown_alloc G0.out (.cells #[.slice a1 l1 c1] 23)) HN.out.1,grown_alloc G0.out (.cells #[.slice a1 l1 c1] 23)⟩;clear b1;go_enter Tryz.func113,Tryz.ntmps113;go_wp2;go_ret;rw[EV.out];exact ⟨_,_,rfl,HQ.out.2,HQ.out.1⟩
  ·
   have EV:Hid (bdV k nm ar i=[]):=by show _=_;rw[e7,if_neg (by omega)]
   have bi:((i:Int) == 1)=false:=by simp;omega
   clear h7 h4 e7 h6 i1 h18;go_enter Tryz.func113,Tryz.ntmps113;go_wp2;go_ret;rw[EV.out];exact ⟨_,_,rfl,G0.out,rfl,by simp,.inl rfl⟩
 have b18:(k == 18)=false:=by simpa using h18
 have EV:Hid (bdV k nm ar i=[]):=by show _=_;rw[e7,if_neg (by omega)]
 clear h7 h4 e7 h6 h18;go_enter Tryz.func113,Tryz.ntmps113;go_wp2;go_ret;rw[EV.out];exact ⟨_,_,rfl,G0.out,rfl,by simp,.inl rfl⟩
theorem namesInA (k n:Int) (v2 v3 v4:Value) (hc:List Int) (hv:List (List Int)) (pp:PE) (kk aa R:GE) (a4:Option Addr) (l4 c4:Nat) (a5:Option Addr) (l5 c5:Nat) (q:Nat) (w:World) (h:TlA w a5 q l5 (.cons hc hv pp kk aa R)) (hl:l4+q≤1048576) (h5:l5≤c5) :
  Calls Tryz.prog 113 #[.agg #[.int .i64 k,.int .i64 n,v2,v3,v4,.slice a4 l4 c4,.slice a5 l5 c5],.int .i64 ((l4+q:Nat):Int)] w fun e u=>NiA w hv e u:=by
 have G0:Hid _:=gal w (.cells #[.int .i64 k,.int .i64 n,v2,v3,v4,.slice a4 l4 c4,.slice a5 l5 c5] 36) none;obtain ⟨⟨y0,y1,y2,y3,y4,y5,y6⟩,-⟩:=blkE (heap_alloc_new w (.cells #[.int .i64 k,.int .i64 n,v2,v3,v4,.slice a4 l4 c4,.slice a5 l5 c5] 36));obtain ⟨hql,hin⟩:=h;rcases hin with hin|⟨b,o,rfl,hin⟩
 ·
  cases hin
 obtain ⟨e0,q0,d0,e1,q1,d1,b1,m1,n1,b2,m2,n2,b3,m3,n3,b4,m4,n4,b5,m5,n5,⟨z0,z1⟩,⟨-,hsc⟩,-,-,-⟩:=hin.alt;have z1:=G0.out.cell z1 (by simp);have HS:Hid (SlSS w e1 q1 hv):=hsc.1;have hq1:=hsc.1.1
 have hge:((l4+q:Nat):Int) ≥ (l4:Int):=by omega
 have hge':(l4:Int)≤((l4+q:Nat):Int):=by omega
 have hsub:((l4+q:Nat):Int) - (l4:Int)=(q:Int):=by omega
 simp only[GE.len] at hql
 have hlt:(q:Int) < (l5:Int):=by omega
 clear hin hsc z0;generalize ((l4+q:Nat):Int)=I at *;go_enter Tryz.func113,Tryz.ntmps113;go_wp2;go_ret;refine ⟨e1,d1,?_,G0.out,?_⟩
 ·
  rw[hq1];rfl
 ·
  rw[hq1];exact SlSS.le (show SlSS w e1 q1 hv from HS.out) (CLe.grown G0.out)
def FcA (z:List Int) (ds:List Da) (e:Ending):Prop:=(cIx z ds 0=(-1,-1)∧e = .returned (.tuple #[.int .i64 0,.int .i64 0,.bool false]))∨∃ j k:Nat,cIx z ds 0=((j:Int),(k:Int))∧e = .returned (.tuple #[.int .i64 j,.int .i64 k,.bool true])
theorem findConT (ds:List Da) (a:Option Addr) (l c:Nat) (z:List Int) (a':Option Addr) (n' c':Nat) (w:World) (h:SlDa w a l ds) (hz:RdB w a' n' z) :
  Calls Tryz.prog 118 #[.slice a l c,.slice a' n' c'] w fun e u=>FcA z ds e∧w.grownBy u none:=by
 have hl:=h.2.1;have hfl:=h.1;rcases h.cases with ⟨rfl,rfl⟩|⟨b,o,rfl,hin,hpos⟩
 ·
  go_enter Tryz.func118,Tryz.ntmps118;go_wp2;refine wp_loop_rounds 1 ?_;rw[rounds_succ];go_wp2;refine bodyPost_ret (results_tmp3 Tryz.results118 _ _ _) rfl ?_;exact ⟨.inl ⟨rfl,rfl⟩,grf _ _⟩
 have IN:Hid (InDa w w ds b o∧RdB w a' n' z):=⟨hin,hz⟩;clear hin h hz;go_enter Tryz.func118,Tryz.ntmps118;go_wp2
 go_loopw [13] (fun i wr=>∃ (j:Nat) (R:List Da),j≤l∧i = .int .i64 j∧R.length+j=l∧Hid (w.grownBy wr none∧InDa w w R b (o+j * 3)∧cIx z ds 0=cIx z R j)) (fun i _=>l - (intOf i).toNat)
 case atStart=>exact ⟨0,ds,Nat.zero_le _,rfl,by omega,grf _ _,by simpa using IN.out.1,rfl⟩
 case round =>
  obtain ⟨j,R,hj,rfl,hRl,HR⟩:=hrel;by_cases hlt:j < l
  ·
   obtain ⟨x,R',rfl⟩:∃ x R',R=x::R':=by
    cases R with
    | nil=>simp at hRl;omega
    | cons x R'=>exact ⟨x,R',rfl⟩
   obtain ⟨hg,⟨⟨a1,n1,c1,a2,l2,c2,k0,k1,k2,hd1,hd2⟩,hR2⟩,hv⟩:=HR.out;rw[show o+j * 3+3=o+(j+1) * 3 by omega] at hR2;have k0:=hg.cell k0 (by simp);have k1:=hg.cell k1 (by simp);have k2:=hg.cell k2 (by simp);have ga:=gal wr (.cells #[.slice a1 n1 c1,.int .i64 x.vars,.slice a2 l2 c2] 68) none;have FX:Hid (w.grownBy (wr.alloc (.cells #[.slice a1 n1 c1,.int .i64 x.vars,.slice a2 l2 c2] 68)) none∧InDa w w R' b (o+(j+1) * 3)∧cIx z ds 0=cIx z (x::R') j∧SlCo w a2 l2 x.cons):=⟨gtr hg ga,hR2,hv,hd2⟩;have hl2:=hd2.1;have hl2m:=hd2.2.1;clear hg hd1 hR2 hv ga HR;simp only[lB] at hRl;rcases hd2.cases with ⟨r1,r2⟩|⟨b2,o2,r1,hin2,r3⟩
   ·
    have E2:Hid (cIx z ds 0=cIx z R' (j+1)):=by show _=_;rw[FX.out.2.2.1,cIx_cons,r2,if_neg (by unfold kIx;omega)]
    subst r1;clear r2 hl2 hd2;go_wp2;refine wp_loop_rounds 1 ?_;rw[rounds_succ];go_wp2;go_roundw
    case rel=>exact ⟨j+1,R',by omega,by go_num,by omega,FX.out.1,FX.out.2.1,E2.out⟩
    case measure=>simp [intOf];omega
   ·
    subst r1;have IN2:Hid (InCo w w x.cons b2 o2):=hin2;clear hin2 hd2;go_wp2;generalize wr.alloc (.cells #[.slice a1 n1 c1,.int .i64 x.vars,.slice (some ⟨b2,o2,none⟩) l2 c2] 68)=wq at *;clear k0 k1 k2
    go_loopw [21] (fun i wr2=>∃ (q:Nat) (S:List Co),q≤l2∧i = .int .i64 q∧S.length+q=l2∧Hid (w.grownBy wr2 none∧InCo w w S b2 (o2+q * 2)∧kIx z x.cons 0=kIx z S q)) (fun i _=>l2 - (intOf i).toNat)
    case atStart=>exact ⟨0,x.cons,Nat.zero_le _,rfl,by omega,FX.out.1,by simpa using IN2.out,rfl⟩
    case round =>
     obtain ⟨q,S,hq,rfl,hSl,HQ⟩:=hrel;by_cases hltq:q < l2
     ·
      obtain ⟨y,S',rfl⟩:∃ y S',S=y::S':=by
       cases S with
       | nil=>simp at hSl;omega
       | cons y S'=>exact ⟨y,S',rfl⟩
      obtain ⟨hg,⟨⟨a4,n4,c4,a5,l5,c5,m0,m1,hd4,hd5⟩,hS2⟩,hv⟩:=HQ.out;rw[show o2+q * 2+2=o2+(q+1) * 2 by omega] at hS2;have m0:=hg.cell m0 (by simp);have m1:=hg.cell m1 (by simp);have ga:=gal wr (.cells #[.slice a4 n4 c4,.slice a5 l5 c5] 73) none;have gg:=gtr hg ga;have CC:Hid _:=bytesEqT a4 a' n4 c4 n' c' y.name z _ (hd4.none gg) (IN.out.2.none gg);have FZ:Hid (w.grownBy (wr.alloc (.cells #[.slice a4 n4 c4,.slice a5 l5 c5] 73)) none∧InCo w w S' b2 (o2+(q+1) * 2)∧kIx z x.cons 0=kIx z (y::S') q):=⟨gg,hS2,hv⟩;clear hd4 hd5 hS2 hg hv HQ ga gg;simp only[lB] at hSl;go_wp2_with fail;refine Calls.mono CC.out ?_;rintro e u ⟨he,hgu⟩;subst he;have FY:Hid (w.grownBy u none):=gtr FZ.out.1 hgu;clear CC hgu m0 m1;simp only[];by_cases hxz:y.name=z
      ·
       have E3:Hid (cIx z ds 0=((j:Int),(q:Int))):=by
        have E2:kIx z x.cons 0=(q:Int):=by rw[FZ.out.2.2,kIx_cons,if_pos hxz]
        show _=_;rw[FX.out.2.2.1,cIx_cons,E2,if_pos (by omega)]
       have hd2:decide (y.name=z)=true:=by simp [hxz]
       rw[hd2];clear hxz hd2;go_wp2;refine bodyPost_ret (results_tmp3 Tryz.results118 _ _ _) rfl ?_;exact ⟨.inr ⟨j,q,E3.out,rfl⟩,FY.out⟩
      ·
       have E2:Hid (kIx z x.cons 0=kIx z S' (q+1)):=by show _=_;rw[FZ.out.2.2,kIx_cons,if_neg hxz]
       have hd2:decide (y.name=z)=false:=by simp [hxz]
       rw[hd2];clear hxz hd2;go_wp2;go_roundw
       case rel=>exact ⟨q+1,S',by omega,by go_num,by omega,FY.out,FZ.out.2.1,E2.out⟩
       case measure=>simp [intOf];omega
     ·
      obtain rfl:q=l2:=by omega
      obtain rfl:S=[]:=List.eq_nil_of_length_eq_zero (by omega);have E2:Hid (cIx z ds 0=cIx z R' (j+1)∧w.grownBy wr none):=⟨by rw[FX.out.2.2.1,cIx_cons,HQ.out.2.2,if_neg (by unfold kIx;omega)],HQ.out.1⟩;clear HQ;go_wp2;go_roundw
      case rel=>exact ⟨j+1,R',by omega,by go_num,by omega,E2.out.2,FX.out.2.1,E2.out.1⟩
      case measure=>simp [intOf];omega
  ·
   obtain rfl:j=l:=by omega
   obtain rfl:R=[]:=List.eq_nil_of_length_eq_zero (by omega);have E:Hid (cIx z ds 0=(-1,-1)∧w.grownBy wr none):=⟨HR.out.2.2,HR.out.1⟩;clear HR;go_wp2;refine bodyPost_ret (results_tmp3 Tryz.results118 _ _ _) rfl ?_;exact ⟨.inl ⟨E.out.1,rfl⟩,E.out.2⟩
theorem InCo.nth {w wp:World}:∀ {cs:List Co} {b off i:Nat},InCo w wp cs b off→i < cs.length→∃ y a n c a' l' c',cs[i]? = some y∧w.cell? ⟨b,off+i * 2,none⟩=some (.slice a n c)∧w.cell? ⟨b,off+i * 2+1,none⟩=some (.slice a' l' c')∧RdB wp a n y.name∧SlF wp a' l' y.flds
 | [],_,_,i,_,h=>by simp at h
 | x::r,b,off,0,h,_=>by
  obtain ⟨⟨a,n,c,a',l',c',h0,h1,h2,h3⟩,-⟩:=h;exact ⟨x,a,n,c,a',l',c',rfl,by simpa using h0,by simpa using h1,h2,h3⟩
 | x::r,b,off,i+1,h,hi=>by
  obtain ⟨x',a,n,c,a',l',c',g0,g1,g2,g3,g4⟩:=InCo.nth h.2 (i:=i) (by simp at hi;omega);rw[show off+2+i * 2=off+(i+1) * 2 by omega] at g1 g2;exact ⟨x',a,n,c,a',l',c',by simpa using g0,g1,g2,g3,g4⟩
theorem con_cells {w:World} {ds:List Da} {a:Option Addr} {l:Nat} {z:List Int} {j k:Nat} (h:SlDa w a l ds) (he:cIx z ds 0=((j:Int),(k:Int))) :
  ∃ (b o b2 o2 l2 c2:Nat) (y:Co) (a3:Option Addr) (l3 c3:Nat),a=some ⟨b,o,none⟩∧j < l∧w.cell? ⟨b,o+j * 3+2,none⟩=some (.slice (some ⟨b2,o2,none⟩) l2 c2)∧k < l2∧w.cell? ⟨b2,o2+k * 2+1,none⟩=some (.slice a3 l3 c3)∧y.flds.len=l3∧cAt z ds=some y∧l3≤9223372036854775807:=by
 rcases cIx_here z ds 0 with ⟨h1,-⟩|⟨j',k',x,y,h1,h2,h3,h4⟩
 ·
  rw[h1] at he;injection he with e1 e2;omega
 rw[h1] at he;injection he with e1 e2
 obtain rfl:j' = j:=by omega
 obtain rfl:k' = k:=by omega
 have hjl:=(List.getElem?_eq_some_iff.1 h2).1;have hkl:=(List.getElem?_eq_some_iff.1 h3).1;rcases h.cases with ⟨r1,r2⟩|⟨b,o,rfl,hin,hpos⟩
 ·
  subst r2;simp at hjl
 obtain ⟨x',a1,n1,c1,a2,l2,c2,g0,-,-,g3,-,g5⟩:=hin.nth hjl;rw[h2] at g0;obtain rfl:=Option.some.inj g0;have hl2:=g5.1;rcases g5.cases with ⟨r1,r2⟩|⟨b2,o2,rfl,hin2,hpos2⟩
 ·
  rw[r2] at hkl;simp at hkl
 obtain ⟨y',a4,n4,c4,a3,l3,c3,f0,-,f2,-,f4⟩:=hin2.nth hkl;rw[h3] at f0;obtain rfl:=Option.some.inj f0;exact ⟨b,o,b2,o2,l2,c2,y,a3,l3,c3,rfl,by have:=h.1;omega,g3,by omega,f2,f4.1,h4,f4.2.1⟩
theorem conThereT (ds:List Da) (a:Option Addr) (l c:Nat) (z:List Int) (a':Option Addr) (n' c':Nat) (n:Nat) (w:World) (h:SlDa w a l ds) (hz:RdB w a' n' z) :
  Calls Tryz.prog 115 #[.slice a l c,.slice a' n' c',.int .i64 (n:Nat)] w fun e u=>e = .returned (.bool (cnOk ds z n))∧w.grownBy u none:=by
 have CC:Hid _:=findConT ds a l c z a' n' c' w h hz;have HS:Hid (SlDa w a l ds):=h;clear h hz;go_enter Tryz.func115,Tryz.ntmps115;go_wp2_with fail;refine Calls.mono CC.out ?_;rintro e u ⟨he,hg⟩;have G:Hid (w.grownBy u none):=hg;clear CC hg;rcases he with ⟨h1,rfl⟩|⟨j,k,h1,rfl⟩
 ·
  have EV:Hid (cnOk ds z n=false):=by
   show _=_
   rcases cIx_here z ds 0 with ⟨-,h2⟩|⟨j',k',x,y,h2,-,-,-⟩
   ·
    unfold cnOk;rw[h2]
   ·
    rw[h2] at h1;injection h1 with e1 e2;omega
  clear h1;simp only[];go_wp2;go_ret;exact ⟨by rw[EV.out];rfl,G.out⟩
 ·
  obtain ⟨b,o,b2,o2,l2,c2,y,a3,l3,c3,rfl,hj,k2,hk,m1,hyl,hc,hl3⟩:=con_cells (HS.out.none G.out) h1
  have EV:Hid (cnOk ds z n=decide (l3=n)):=by show _=_;unfold cnOk;rw[hc];simp only[];rw[hyl]
  have hj':(j:Int) < (l:Int):=by omega
  have hk':(k:Int) < (l2:Int):=by omega
  clear h1 hc hyl;simp only[];by_cases hn:l3=n
  ·
   have hb:((l3:Int) == (n:Int))=true:=by simp [hn]
   have E2:Hid (decide (l3=n)=true):=by show _=_;simp [hn]
   clear hn;go_wp2;go_ret;exact ⟨by rw[EV.out,E2.out];rfl,G.out⟩
  ·
   have hb:((l3:Int) == (n:Int))=false:=by simp;omega
   have E2:Hid (decide (l3=n)=false):=by show _=_;simp [hn]
   clear hn;go_wp2;go_ret;exact ⟨by rw[EV.out,E2.out];rfl,G.out⟩
theorem RdVs.appL {w:World}:∀ {vs us:List Value} {xs ys:List (List Int)},RdVs w vs xs→RdVs w us ys→RdVs w (vs++us) (xs++ys)
 | [],_,[],_,_,k=>k
 | _::_,_,_::_,_,h,k=>⟨h.1,RdVs.appL h.2 k⟩
 | [],_,_::_,_,h,_=>h.elim
 | _::_,_,[],_,h,_=>h.elim
theorem InSS.vs {w wp:World}:∀ {xs:List (List Int)} {b o:Nat},InSS w wp xs b o→∃ vs,RdVs wp vs xs∧(∀ j u,vs[j]? = some u→w.cell? ⟨b,o+j,none⟩=some u)∧∀ u ∈ vs,u.oneCell' = true
 | [],b,o,_=>⟨[],trivial,fun j u hu=>by simp at hu,fun u hu=>by simp at hu⟩
 | x::r,b,o,h=>by
  obtain ⟨⟨a,n,c,h0,hd⟩,hr⟩:=h;obtain ⟨vs,h1,h2,h3⟩:=hr.vs;refine ⟨.slice a n c::vs,⟨⟨a,n,c,rfl,hd⟩,h1⟩,fun j u hu=>?_,fun u hu=>?_⟩
  ·
   match j,hu with
   | 0,hu=>obtain rfl:=Option.some.inj hu;simpa using h0
   | j+1,hu =>
    have:=h2 j u (by simpa using hu);rw[show o+(j+1)=o+1+j by omega];exact this
  ·
   rcases List.mem_cons.1 hu with rfl|hu
   ·
    rfl
   ·
    exact h3 u hu
structure OwNm (B:Nat) (w wn:World) (a:Option Addr) (n c:Nat) (xs:List (List Int)):Prop where
 blk:∃ g,a=some ⟨g,0,none⟩∧B≤g
 len:xs.length=n
 own:∃ vs,w.ownsRow B 23 1 (.slice a n c) n vs∧RdVs wn vs xs
theorem OwNm.none {B:Nat} {w u wn:World} {a:Option Addr} {n c:Nat} {xs:List (List Int)} (h:OwNm B w wn a n c xs) (k:w.grownBy u Option.none):OwNm B u wn a n c xs:=by
 obtain ⟨vs,h1,h2⟩:=h.own;exact ⟨h.blk,h.len,vs,owns_none h1 k,h2⟩
theorem OwNm.read {B:Nat} {w wn:World} {a:Option Addr} {n c:Nat} {xs:List (List Int)} (h:OwNm B w wn a n c xs) (k:CLe wn w) (hn:n≤4194304):SlSS w a n xs:=by
 obtain ⟨⟨g,rfl,hg⟩,hl,vs,⟨h1,h2⟩,h3⟩:=h;refine ⟨hl,by omega,?_⟩;rcases h2 with ⟨e,h2⟩|⟨g',cap,cur,e,hb,hh,hnc,hcm,hsz,ht⟩
 ·
  exact .inl h2
 ·
  injection e with e1 e2 e3;injection e1 with e1;injection e1 with e1;subst e1;refine .inr ⟨g,0,rfl,inSS_of (h3.le k) (fun j v hv=>?_)⟩
  have hj:j < n:=by have:=(List.getElem?_eq_some_iff.1 hv).1;omega
  rw[Nat.zero_add,cell_of_row w g j cur _ (0,0) hh];rw[← ht,List.getElem?_take_of_lt (by omega),Array.getElem?_toList] at hv;exact hv
theorem OwNm.new (w wn:World):OwNm w.heap.size (w.alloc (.cells #[] 23)) wn (some ⟨w.heap.size,0,Option.none⟩) 0 0 [] :=
 ⟨⟨_,rfl,Nat.le_refl _⟩,rfl,[],⟨rfl,.inr ⟨w.heap.size,0,#[],rfl,Nat.le_refl _,heap_alloc_new w _,Nat.le_refl _,by simp [maxLen],rfl,rfl⟩⟩,trivial⟩
def SlS2 (w wn:World) (a:Option Addr) (l:Nat) (xs:List (List Int)):Prop:=xs.length=l∧(l=0∨∃ b o,a=some ⟨b,o,none⟩∧InSS w wn xs b o)
theorem SlSS.two {w wn:World} {a:Option Addr} {l:Nat} {xs:List (List Int)} (h:SlSS wn a l xs) (k:CLe wn w):SlS2 w wn a l xs:=by
 refine ⟨h.1,?_⟩;rcases h.2.2 with h|⟨b,o,e,h⟩
 ·
  exact .inl h
 ·
  exact .inr ⟨b,o,e,h.le k (fun _ _ h=>h)⟩
theorem s21 {w wn:World} {g:Nat} {t:TypeId} {a:Option Addr} {n c:Nat} {x:List Int} (hb:w.heap[g]? = some (.cells #[.slice a n c] t (0,0))) (h:RdB wn a n x):SlS2 w wn (some ⟨g,0,none⟩) 1 [x] :=
 ⟨rfl,.inr ⟨g,0,rfl,⟨a,n,c,by rw[cell_of_row w _ _ _ _ (0,0) hb];rfl,h⟩,trivial⟩⟩
theorem run_appW {P:Program} {w wn:World} (t ty:TypeId) (B:Nat) (i:TypeInfo) (z:Value) (ht:P.underlying t=some (.slice 23)) (hi:P.info? 23=some i) (hz:i.zero=some z)
  (hsize:i.size=1) (hby:i.bytes=24) (hzs:z.cells.size=1) (a:Option Addr) (n c:Nat) (xs:List (List Int)) (h:OwNm B w wn a n c xs) (src:Option Addr) (m cs:Nat) (ys:List (List Int))
  (hr:SlS2 w wn src m ys) (hm:n+m≤4194304) (hB:B≤w.heap.size) :
  ∃ a' c' w',(Builtin.append_ #[t,t] ty #[.slice a n c,.slice src m cs]).run P w = .ok (.slice a' (n+m) c') w'∧OwNm B w' wn a' (n+m) c' (xs++ys)∧(∀ wb:World,wb.grownBy w none→wb.heap.size≤B→wb.grownBy w' none):=by
 obtain ⟨⟨g,rfl,hBg⟩,hl,vs,hown,hv⟩:=h
 cases src with
 | some ad =>
  obtain ⟨us,hu1,hu2,hu3⟩:∃ us,RdVs wn us ys∧(∀ j u,us[j]? = some u→w.cell? (ad.add j)=some u)∧∀ u ∈ us,u.oneCell' = true:=by
   rcases hr.2 with r1|⟨b,o,e,hin⟩
   ·
    obtain rfl:ys=[]:=List.eq_nil_of_length_eq_zero (by have:=hr.1;omega);exact ⟨[],trivial,fun j u hu=>by simp at hu,fun u hu=>by simp at hu⟩
   ·
    injection e with e;subst e;obtain ⟨us,h1,h2,h3⟩:=hin.vs;exact ⟨us,h1,fun j u hu=>by rw[Go.WideShapes.add_plain];exact h2 j u hu,h3⟩
  have hul:=hu1.len;obtain ⟨v',w',r,o1,o2,o3⟩:=run_append_own (P:=P) w B t ty 23 i z 1 24 ht hi hz hsize hby hzs (by decide) _ n vs hown ad m cs us (by rw[hul,hr.1,Nat.mul_one]) hu2 hu3 (by simp [maxLen];omega) (by omega) hB;rcases o1.2 with ⟨e,-⟩|⟨g',cap,cur,e,hb,hrest⟩
  ·
   exact absurd (o3.1 e).1 (by intro h;cases h)
  ·
   subst e;exact ⟨_,_,w',r,⟨⟨g',rfl,hb⟩,by simp [hl,hr.1],_,o1,hv.appL hu1⟩,fun wb k hk=>grown_into k (show w.grownBy w' (some g) from o2) (by omega)⟩
 | none =>
  obtain ⟨hl2,hr3⟩:=hr
  obtain rfl:m=0:=by
   rcases hr3 with h|⟨_,_,h,_⟩
   ·
    exact h
   ·
    cases h
  obtain rfl:ys=[]:=List.eq_nil_of_length_eq_zero (by omega);have hown':=hown;rcases hown.2 with ⟨e,-⟩|⟨g',cap,cur,e,hb,hh,hnc,hcm,hcs,htake⟩
  ·
   cases e
  injection e with e1 e2 e3;injection e1 with e1;injection e1 with e1;subst e1 e3;have r:=run_append_room_src (P:=P) w t t ty 23 i ht hi g 0 n c (.slice none 0 cs) 0 [] (Src.ofNil w ht cs) (by omega) (by intro j hj;simp at hj) (by intro j hj;simp at hj);have e0:w.setCells g (0+n * i.size) []=w:=rfl;rw[e0] at r;exact ⟨_,_,_,r,⟨⟨g,rfl,hBg⟩,by simpa using hl,vs,hown',by simpa using hv⟩,fun wb k _=>k⟩
theorem wp_appW {P:Program} {w:World} {o:Oper} {ac:Act} {K:Act→World→Prop} {Q:Exit→Act→World→Prop} (wn:World)
  (s x:Operand) (t:TypeId) (ho:o.op = .call { callee:=.builtin .append,args:=#[s,x],argTypes:=#[t,t] })
  (B:Nat) (i:TypeInfo) (z:Value) (ht:P.underlying t=some (.slice 23)) (hi:P.info? 23=some i) (hz:i.zero=some z) (hsize:i.size=1) (hby:i.bytes=24) (hzs:z.cells.size=1)
  (a:Option Addr) (n c:Nat) (xs:List (List Int)) (hs:ac.eval s = .slice a n c) (h:OwNm B w wn a n c xs) (src:Option Addr) (m cs:Nat) (ys:List (List Int)) (hx:ac.eval x = .slice src m cs)
  (hr:SlS2 w wn src m ys) (hm:n+m≤4194304) (hB:B≤w.heap.size)
  (H:∀ a' N c' w',N=n+m→OwNm B w' wn a' N c' (xs++ys)→(∀ wb:World,wb.grownBy w none→wb.heap.size≤B→wb.grownBy w' none)→K (ac.put o.dst (.slice a' N c')) w') :
  Oper.wp P o ac w K Q:=by
 obtain ⟨a',c',w',hr',h2,h3⟩:=run_appW (P:=P) (w:=w) t o.type B i z ht hi hz hsize hby hzs a n c xs h src m cs ys hr hm hB;unfold Oper.wp execOp;simp only[ho,resolve,invoke,builtin,Sem.run_bind,Sem.run_pure,Result.andThen_ok,List.map_toArray,List.map_cons,List.map_nil,hs,hx,hr'];exact H a' _ c' w' rfl h2 h3
theorem wpList_appW {P:Program} {w:World} {ops:Array Oper} {rest:List Oper} {o:Oper} {ac:Act} {Q:Exit→Act→World→Prop} (hgd:o.guard=none) (wn:World)
  (s x:Operand) (t:TypeId) (ho:o.op = .call { callee:=.builtin .append,args:=#[s,x],argTypes:=#[t,t] })
  (B:Nat) (i:TypeInfo) (z:Value) (ht:P.underlying t=some (.slice 23)) (hi:P.info? 23=some i) (hz:i.zero=some z) (hsize:i.size=1) (hby:i.bytes=24) (hzs:z.cells.size=1)
  (a:Option Addr) (n c:Nat) (xs:List (List Int)) (hs:ac.eval s = .slice a n c) (h:OwNm B w wn a n c xs) (src:Option Addr) (m cs:Nat) (ys:List (List Int)) (hx:ac.eval x = .slice src m cs)
  (hr:SlS2 w wn src m ys) (hm:n+m≤4194304) (hB:B≤w.heap.size)
  (H:∀ a' N c' w',N=n+m→OwNm B w' wn a' N c' (xs++ys)→(∀ wb:World,wb.grownBy w none→wb.heap.size≤B→wb.grownBy w' none)→wpList P ops Q rest (ac.put o.dst (.slice a' N c')) w') :
  wpList P ops Q (o::rest) ac w :=
 wpList_plain hgd fun K hK=>wp_appW wn s x t ho B i z ht hi hz hsize hby hzs a n c xs hs h src m cs ys hx hr hm hB fun a' N c' w' h0 h1 h2=>hK _ _ (H a' N c' w' h0 h1 h2)
theorem nmG_alt (k:Int) (nm ar:List Int):∀ (g:GE) (S:List (List Int)) (i:Nat),nmG S true k nm ar i g=nmG S true k nm ar 0 g
 | .nil,_,_=>rfl
 | .cons hc hv p kids alts rest,S,i=>by rw[nmG_cons,nmG_cons,nmG_alt k nm ar rest S (i+1),nmG_alt k nm ar rest S (0+1)];rfl
def NbR (w:World) (S:List (List Int)) (p:PE) (kids alts:GE) (l4:Nat) (a5:Option Addr) (l5:Nat) (ap:Option Addr) (N j:Nat) (wr:World):Prop :=
 ∃ (Rk Ra:GE),w.grownBy wr none∧TlK wr ap j N (Rk.app (bod Ra))∧((Rk.len+j=l4∧Ra=alts)∨(Rk = .nil∧∃ t,j=l4+t∧TlA w a5 t l5 Ra))∧Rk.size+Ra.size≤kids.size+alts.size∧nmE S p kids alts=(nmG S false p.k p.name p.arg j Rk && nmG S true p.k p.name p.arg 0 Ra)
theorem NbR.last {w:World} {S:List (List Int)} {p:PE} {kids alts:GE} {l4:Nat} {a5:Option Addr} {l5:Nat} {ap:Option Addr} {N:Nat} {wr:World} (h:NbR w S p kids alts l4 a5 l5 ap N N wr):nmE S p kids alts=true∧w.grownBy wr none:=by
 obtain ⟨Rk,Ra,hg,⟨hl,-⟩,-,-,hv⟩:=h;rw[GE.app_len,bod_len] at hl;obtain rfl:Rk = .nil:=GE.nil_of_len (by omega);obtain rfl:Ra = .nil:=GE.nil_of_len (by simp [GE.len] at hl;omega);exact ⟨hv,hg⟩
theorem NbR.next {w:World} {S:List (List Int)} {p:PE} {kids alts:GE} {a1:Option Addr} {l1 c1:Nat} {a2:Option Addr} {l2 c2:Nat} {a3:Option Addr} {l3 c3:Nat} {a4:Option Addr} {l4 c4:Nat} {a5:Option Addr} {l5 c5:Nat} {ap:Option Addr} {N j:Nat} {wr:World} (hn:NdE w p kids alts a1 l1 c1 a2 l2 c2 a3 l3 c3 a4 l4 c4 a5 l5 c5) (hs:kids.size+alts.size≤1048576) (h:NbR w S p kids alts l4 a5 l5 ap N j wr) (hj:j < N) :
  ∃ (xs:List (List Int)) (pp:PE) (kk aa:GE) (b o:Nat) (b1:Option Addr) (m1 n1:Nat) (b2:Option Addr) (m2 n2:Nat) (b3:Option Addr) (m3 n3:Nat) (b4:Option Addr) (m4 n4:Nat) (b5:Option Addr) (m5 n5:Nat),ap=some ⟨b,o,none⟩∧CelE wr b (o+j * 7) (.int .i64 pp.k) (.int .i64 pp.n) (.slice b1 m1 n1) (.slice b2 m2 n2) (.slice b3 m3 n3) (.slice b4 m4 n4) (.slice b5 m5 n5)∧NdE wr pp kk aa b1 m1 n1 b2 m2 n2 b3 m3 n3 b4 m4 n4 b5 m5 n5∧kk.size+aa.size < kids.size+alts.size∧xs.length≤4194304 ∧
   (∀ W,w.grownBy W none→Calls Tryz.prog 113 #[.agg #[.int .i64 p.k,.int .i64 p.n,.slice a1 l1 c1,.slice a2 l2 c2,.slice a3 l3 c3,.slice a4 l4 c4,.slice a5 l5 c5],.int .i64 (j:Nat)] W fun e u=>NiA W xs e u) ∧
   (nmE (xs++S) pp kk aa=false→nmE S p kids alts=false)∧(nmE (xs++S) pp kk aa=true→∀ u,wr.grownBy u none→NbR w S p kids alts l4 a5 l5 ap N (j+1) u):=by
 obtain ⟨Rk,Ra,hg,⟨hl,hin⟩,hpos,hsz,hv⟩:=h;have hk4:=hn.2.2.2.1.1;have hk5:=hn.2.2.2.2.1
 cases Rk with
 | cons hc hv2 pp kk aa R =>
  rcases hpos with ⟨hp,rfl⟩|⟨hp,-⟩
  case inr=>cases hp
  simp only[GE.len] at hp;simp only[GE.app] at hin;rcases hin with hin|⟨b,o,rfl,hin⟩
  ·
   cases hin
  obtain ⟨-,b1,m1,n1,b2,m2,n2,b3,m3,n3,b4,m4,n4,b5,m5,n5,hcel,hnd,hR⟩:=hin.kid;simp only[GE.size] at hsz;rw[nmG_cons] at hv
  have hlx:(bdV p.k p.name p.arg j).length≤2:=by unfold bdV;split <;> (try split) <;> simp
  refine ⟨bdV p.k p.name p.arg j,pp,kk,aa,b,o,b1,m1,n1,b2,m2,n2,b3,m3,n3,b4,m4,n4,b5,m5,n5,rfl,hcel,hnd,by omega,by omega,fun W hW=>namesInK p.k p.n p.name p.arg _ a1 l1 c1 a2 l2 c2 a4 l4 c4 a5 l5 c5 j W (hn.1.none hW) (hn.2.1.none hW) (by omega),fun h0=>?_,fun h1 u hu=>?_⟩
  ·
   rw[hv,show hdS false hv2 p.k p.name p.arg j=bdV p.k p.name p.arg j from rfl,h0];rfl
  ·
   refine ⟨R,Ra,gtr hg hu,⟨?_,.inr ⟨b,o,rfl,?_⟩⟩,.inl ⟨by omega,rfl⟩,by omega,?_⟩
   ·
    simp only[GE.app,GE.len] at hl;omega
   ·
    rw[show o+j * 7+7=o+(j+1) * 7 by omega] at hR;exact hR.le (CLe.grown hu) (CLe.grown hu)
   ·
    rw[hv,show hdS false hv2 p.k p.name p.arg j=bdV p.k p.name p.arg j from rfl,h1,Bool.true_and]
 | nil =>
  obtain ⟨t,ht,hA⟩:∃ t,j=l4+t∧TlA w a5 t l5 Ra:=by
   rcases hpos with ⟨hp,rfl⟩|⟨-,h⟩
   ·
    exact ⟨0,by simp only[GE.len] at hp;omega,hn.2.2.2.2.tlA⟩
   ·
    exact h
  cases Ra with
  | nil=>simp only[GE.app,bod,GE.len] at hl;omega
  | cons hc hv2 pp kk aa R =>
   simp only[GE.app,bod] at hin;rcases hin with hin|⟨b,o,rfl,hin⟩
   ·
    cases hin
   obtain ⟨-,b1,m1,n1,b2,m2,n2,b3,m3,n3,b4,m4,n4,b5,m5,n5,hcel,hnd,hR⟩:=hin.kid;simp only[GE.size] at hsz;rw[nmG_cons,nmG_alt] at hv;have hlx:=szW_len hv2;have hA0:=hA;obtain ⟨hAl,hAi⟩:=hA;simp only[GE.len] at hAl;have hll4:=kids.len_le;have hll5:=alts.len_le;refine ⟨hv2,pp,kk,aa,b,o,b1,m1,n1,b2,m2,n2,b3,m3,n3,b4,m4,n4,b5,m5,n5,rfl,hcel,hnd,by omega,by omega,fun W hW=>?_,fun h0=>?_,fun h1 u hu=>?_⟩
   ·
    subst ht;refine namesInA p.k p.n _ _ _ hc hv2 pp kk aa R a4 l4 c4 a5 l5 c5 t W ⟨hA0.1,?_⟩ (by omega) hn.2.2.2.2.2.2.1.1;rcases hA0.2 with h|⟨b',o',e',h⟩
    ·
     exact .inl h
    ·
     exact .inr ⟨b',o',e',h.le (CLe.grown hW) (CLe.grown hW)⟩
   ·
    rw[hv,show hdS true hv2 p.k p.name p.arg 0=hv2 from rfl,h0];simp
   ·
    refine ⟨.nil,R,gtr hg hu,⟨?_,.inr ⟨b,o,rfl,?_⟩⟩,.inr ⟨rfl,t+1,by omega,⟨by omega,?_⟩⟩,by simp only[GE.size];omega,?_⟩
    ·
     simp only[GE.app,bod,GE.len] at hl ⊢;omega
    ·
     rw[show o+j * 7+7=o+(j+1) * 7 by omega] at hR;exact hR.le (CLe.grown hu) (CLe.grown hu)
    ·
     rcases hAi with h|⟨b',o',e',h⟩
     ·
      cases h
     ·
      obtain ⟨e0,q0,d0,e1,q1,d1,f1,g1,h1',f2,g2,h2',f3,g3,h3',f4,g4,h4',f5,g5,h5',-,-,-,-,hT⟩:=h.alt;exact .inr ⟨b',o',e',by rw[show o' + t * 9+9=o' + (t+1) * 9 by omega] at hT;exact hT⟩
    ·
     rw[hv,show hdS true hv2 p.k p.name p.arg 0=hv2 from rfl,h1];simp [nmG]
theorem nbT (M:Nat):∀ (p:PE) (kids alts:GE) (a1:Option Addr) (l1 c1:Nat) (a2:Option Addr) (l2 c2:Nat) (a3:Option Addr) (l3 c3:Nat) (a4:Option Addr) (l4 c4:Nat) (a5:Option Addr) (l5 c5:Nat) (S:List (List Int)) (q:Option Addr) (w:World),kids.size+alts.size < M→kids.size+alts.size≤1048576→NdE w p kids alts a1 l1 c1 a2 l2 c2 a3 l3 c3 a4 l4 c4 a5 l5 c5→SnI w w q S →
  Calls Tryz.prog 75 #[.agg #[.int .i64 p.k,.int .i64 p.n,.slice a1 l1 c1,.slice a2 l2 c2,.slice a3 l3 c3,.slice a4 l4 c4,.slice a5 l5 c5],.pointer q] w fun e u=>e = .returned (.bool (nmE S p kids alts))∧w.grownBy u none:=by
 induction M with
 | zero=>intro p kids alts a1 l1 c1 a2 l2 c2 a3 l3 c3 a4 l4 c4 a5 l5 c5 S q w hM;exact absurd hM (Nat.not_lt_zero _)
 | succ M ih =>
  intro p kids alts a1 l1 c1 a2 l2 c2 a3 l3 c3 a4 l4 c4 a5 l5 c5 S q w hM hsz h hS;have IH:Hid _:=ih;have g0:=gal w (.cells #[.int .i64 p.k,.int .i64 p.n,.slice a1 l1 c1,.slice a2 l2 c2,.slice a3 l3 c3,.slice a4 l4 c4,.slice a5 l5 c5] 36) none;have b0:=heap_alloc_new w (.cells #[.int .i64 p.k,.int .i64 p.n,.slice a1 l1 c1,.slice a2 l2 c2,.slice a3 l3 c3,.slice a4 l4 c4,.slice a5 l5 c5] 36);have HS:Hid (NdE w p kids alts a1 l1 c1 a2 l2 c2 a3 l3 c3 a4 l4 c4 a5 l5 c5∧SnI w w q S∧kids.size+alts.size < M+1):=⟨h,hS,hM⟩;have L0:Hid (w.grownBy (w.alloc (.cells #[.int .i64 p.k,.int .i64 p.n,.slice a1 l1 c1,.slice a2 l2 c2,.slice a3 l3 c3,.slice a4 l4 c4,.slice a5 l5 c5] 36)) none∧(w.alloc (.cells #[.int .i64 p.k,.int .i64 p.n,.slice a1 l1 c1,.slice a2 l2 c2,.slice a3 l3 c3,.slice a4 l4 c4,.slice a5 l5 c5] 36)).heap[w.heap.size]? = some (Obj.cells #[.int .i64 p.k,.int .i64 p.n,.slice a1 l1 c1,.slice a2 l2 c2,.slice a3 l3 c3,.slice a4 l4 c4,.slice a5 l5 c5] 36)):=⟨g0,b0⟩
  have C0:Hid _:=findT S q p.name a1 l1 c1 _ (hS.grown g0 (CLe.grown g0)) (h.1.none g0);obtain ⟨⟨y0,y1,y2,y3,y4,y5,y6⟩,-⟩:=blkE b0;clear g0 b0 h hS ih hM;go_enter Tryz.func75,Tryz.ntmps75;go_upto_region 1 with fail;generalize w.alloc (.cells #[.int .i64 p.k,.int .i64 p.n,.slice a1 l1 c1,.slice a2 l2 c2,.slice a3 l3 c3,.slice a4 l4 c4,.slice a5 l5 c5] 36)=w0 at *
  go_cut [17] (fun s wx=>∃ bb:Bool,s = .bool bb∧Hid (bb = !ownV S p∧w0.grownBy wx none))
  case first =>
   by_cases h3:p.k=3
   ·
    have b3:(p.k == 3)=true:=by simpa using h3
    have EO:Hid (ownV S p=amV p.name S):=by show _=_;unfold ownV;simp [h3]
    clear h3;go_wp2_with fail;refine Calls.mono C0.out ?_;rintro e u ⟨he,hg⟩;have G:Hid (w0.grownBy u none):=hg;clear C0 hg y0 y1 y2 y3 y4 y5 y6;rcases he with ⟨he,ad,rfl⟩|⟨he,rfl⟩
    ·
     have E2:Hid (ownV S p=true):=by show _=_;rw[EO.out,he]
     clear he;simp only[];go_wp2;go_meet
     case rel=>exact ⟨false,rfl,by rw[E2.out];rfl,G.out⟩
    ·
     have E2:Hid (ownV S p=false):=by show _=_;rw[EO.out,he]
     clear he;simp only[];go_wp2;go_meet
     case rel=>exact ⟨true,rfl,by rw[E2.out];rfl,G.out⟩
   ·
    have b3:(p.k == 3)=false:=by simpa using h3
    have EO:Hid (ownV S p=true):=by show _=_;unfold ownV;simp [h3]
    clear h3;go_wp2;go_meet
    case rel=>exact ⟨false,rfl,by rw[EO.out];rfl,grf _ _⟩
  case rest =>
  obtain ⟨bb,rfl,HB⟩:=hcut;clear C0 y0 y1 y2 y3 y4 y5 y6;have L1:Hid (w.grownBy wc none∧wc.heap[w.heap.size]? = some (Obj.cells #[.int .i64 p.k,.int .i64 p.n,.slice a1 l1 c1,.slice a2 l2 c2,.slice a3 l3 c3,.slice a4 l4 c4,.slice a5 l5 c5] 36)):=⟨gtr L0.out.1 HB.out.2,(HB.out.2.block _ (lt_of_block L0.out.2) (by simp)).trans L0.out.2⟩;have E1:Hid (bb = !ownV S p):=HB.out.1;clear HB L0;obtain ⟨⟨y0,y1,y2,y3,y4,y5,y6⟩,-⟩:=blkE L1.out.2
  cases bb with
  | true =>
   have EV:Hid (nmE S p kids alts=false):=by show _=_;have:=E1.out;unfold nmE;cases ho:ownV S p <;> simp [ho] at this ⊢
   go_wp2;go_ret;exact ⟨by rw[EV.out];rfl,L1.out.1⟩
  | false =>
   have hO:ownV S p=true:=by have:=E1.out;cases ho:ownV S p <;> simp [ho] at this ⊢
   have C1:Hid _:=partsOfT p kids alts a1 l1 c1 a2 l2 c2 a3 l3 c3 a4 l4 c4 a5 l5 c5 wc (HS.out.1.none L1.out.1) (by have h1:=kids.len_le;have h2:=alts.len_le;have h3:=HS.out.1.2.2.2.1.1;have h4:=HS.out.1.2.2.2.2.1;omega);have HO:Hid (ownV S p=true):=hO;clear hO E1;go_wp2_with fail;refine Calls.mono C1.out ?_;rintro e u2 ⟨ap,cp,rfl,hg,hSl⟩
   have hNb:l4+l5≤1048576:=by have h1:=kids.len_le;have h2:=alts.len_le;have h3:=HS.out.1.2.2.2.1.1;have h4:=HS.out.1.2.2.2.2.1;omega
   have L2:Hid (NbR w S p kids alts l4 a5 l5 ap (l4+l5) 0 u2∧u2.heap[w.heap.size]? = some (Obj.cells #[.int .i64 p.k,.int .i64 p.n,.slice a1 l1 c1,.slice a2 l2 c2,.slice a3 l3 c3,.slice a4 l4 c4,.slice a5 l5 c5] 36)):=⟨⟨kids,alts,gtr L1.out.1 hg,hSl.tlK,.inl ⟨by have:=HS.out.1.2.2.2.1.1;omega,rfl⟩,Nat.le_refl _,by unfold nmE;rw[HO.out,Bool.true_and]⟩,(hg.block _ (lt_of_block L1.out.2) (by simp)).trans L1.out.2⟩;clear C1 hg hSl L1 y0 y1 y2 y3 y4 y5 y6;generalize l4+l5=N at *;simp only[];go_wp2
   go_loopw [21] (fun i wr=>∃ (j:Nat),j≤N∧i = .int .i64 j∧Hid (NbR w S p kids alts l4 a5 l5 ap N j wr∧wr.heap[w.heap.size]? = some (Obj.cells #[.int .i64 p.k,.int .i64 p.n,.slice a1 l1 c1,.slice a2 l2 c2,.slice a3 l3 c3,.slice a4 l4 c4,.slice a5 l5 c5] 36))) (fun i _=>N - (intOf i).toNat)
   case atStart=>exact ⟨0,Nat.zero_le _,rfl,L2.out⟩
   case round =>
    clear L2;obtain ⟨j,hj,rfl,HR⟩:=hrel;by_cases hlt:j < N
    ·
     obtain ⟨xs,pp,kk,aa,b,o,b1,m1,n1,b2,m2,n2,b3,m3,n3,b4,m4,n4,b5,m5,n5,rfl,⟨k0,k1,k2,k3,k4,k5,k6⟩,hnd,hsm,hxl,hC,hno,hyes⟩:=NbR.next HS.out.1 hsz HR.out.1 hlt
     have hgw:w.grownBy wr none:=by obtain ⟨_,_,h,_⟩:=HR.out.1;exact h
     have ga:=gal wr (.cells #[.int .i64 pp.k,.int .i64 pp.n,.slice b1 m1 n1,.slice b2 m2 n2,.slice b3 m3 n3,.slice b4 m4 n4,.slice b5 m5 n5] 36) none;have ba:=heap_alloc_new wr (.cells #[.int .i64 pp.k,.int .i64 pp.n,.slice b1 m1 n1,.slice b2 m2 n2,.slice b3 m3 n3,.slice b4 m4 n4,.slice b5 m5 n5] 36);have C2:Hid _:=hC _ (gtr hgw ga);have HY:Hid ((nmE (xs++S) pp kk aa=false→nmE S p kids alts=false)∧(nmE (xs++S) pp kk aa=true→∀ u,wr.grownBy u none→NbR w S p kids alts l4 a5 l5 (some ⟨b,o,none⟩) N (j+1) u)∧kk.size+aa.size < kids.size+alts.size∧NdE wr pp kk aa b1 m1 n1 b2 m2 n2 b3 m3 n3 b4 m4 n4 b5 m5 n5∧w.grownBy wr none):=⟨hno,hyes,hsm,hnd,hgw⟩;have L3:Hid (wr.grownBy (wr.alloc (.cells #[.int .i64 pp.k,.int .i64 pp.n,.slice b1 m1 n1,.slice b2 m2 n2,.slice b3 m3 n3,.slice b4 m4 n4,.slice b5 m5 n5] 36)) none∧(wr.alloc (.cells #[.int .i64 pp.k,.int .i64 pp.n,.slice b1 m1 n1,.slice b2 m2 n2,.slice b3 m3 n3,.slice b4 m4 n4,.slice b5 m5 n5] 36)).heap[wr.heap.size]? = some (Obj.cells #[.int .i64 pp.k,.int .i64 pp.n,.slice b1 m1 n1,.slice b2 m2 n2,.slice b3 m3 n3,.slice b4 m4 n4,.slice b5 m5 n5] 36)∧(wr.alloc (.cells #[.int .i64 pp.k,.int .i64 pp.n,.slice b1 m1 n1,.slice b2 m2 n2,.slice b3 m3 n3,.slice b4 m4 n4,.slice b5 m5 n5] 36)).heap[w.heap.size]? = some (Obj.cells #[.int .i64 p.k,.int .i64 p.n,.slice a1 l1 c1,.slice a2 l2 c2,.slice a3 l3 c3,.slice a4 l4 c4,.slice a5 l5 c5] 36)):=⟨ga,ba,(ga.block _ (lt_of_block HR.out.2) (by simp)).trans HR.out.2⟩
     obtain ⟨⟨y0,y1,y2,y3,y4,y5,y6⟩,-⟩:=blkE HR.out.2;have hlq:=lt_of_block HR.out.2;clear HR hnd hsm hC hno hyes hgw ga ba;go_wp2_with fail;refine Calls.mono C2.out ?_;rintro e u3 ⟨an,cn,rfl,hg,hss⟩;generalize wr.alloc (.cells #[.int .i64 pp.k,.int .i64 pp.n,.slice b1 m1 n1,.slice b2 m2 n2,.slice b3 m3 n3,.slice b4 m4 n4,.slice b5 m5 n5] 36)=wb at *;generalize wr.heap.size=p3 at *;have gd:=grown_drew (grf u3 none);have gu:=gtr hg gd;have L4:Hid (wr.grownBy u3.drew none∧u3.drew.heap[p3]? = some (Obj.cells #[.int .i64 pp.k,.int .i64 pp.n,.slice b1 m1 n1,.slice b2 m2 n2,.slice b3 m3 n3,.slice b4 m4 n4,.slice b5 m5 n5] 36)∧u3.drew.heap[w.heap.size]? = some (Obj.cells #[.int .i64 p.k,.int .i64 p.n,.slice a1 l1 c1,.slice a2 l2 c2,.slice a3 l3 c3,.slice a4 l4 c4,.slice a5 l5 c5] 36)∧SlSS u3.drew an xs.length xs):=⟨gtr L3.out.1 gu,(gu.block _ (lt_of_block L3.out.2.1) (by simp)).trans L3.out.2.1,(gu.block _ (lt_of_block L3.out.2.2) (by simp)).trans L3.out.2.2,hss.le (CLe.grown gd)⟩
     have HB:Hid (∀ u,u3.drew.grownBy u none→u.cell? ⟨p3,0,none⟩=some (.int .i64 pp.k)∧u.cell? ⟨p3,1,none⟩=some (.int .i64 pp.n)∧u.cell? ⟨p3,2,none⟩=some (.slice b1 m1 n1)∧u.cell? ⟨p3,3,none⟩=some (.slice b2 m2 n2)∧u.cell? ⟨p3,4,none⟩=some (.slice b3 m3 n3)∧u.cell? ⟨p3,5,none⟩=some (.slice b4 m4 n4)∧u.cell? ⟨p3,6,none⟩=some (.slice b5 m5 n5)):=fun u hu=>(blkE ((hu.block _ (lt_of_block L4.out.2.1) (by simp)).trans L4.out.2.1)).1
     clear C2 L3 hg hss gd gu k0 k1 k2 k3 k4 k5 k6 y0 y1 y2 y3 y4 y5 y6
     have hmk:=fun x=>makeTp xs.length hxl x
     generalize hXL:xs.length=XL at *;clear hXL;go_wp2_with fail;refine wp_region_held_drew (S:=(fun u=>u.cell? ⟨p3,0,none⟩=some (.int .i64 pp.k)∧u.cell? ⟨p3,1,none⟩=some (.int .i64 pp.n)∧u.cell? ⟨p3,2,none⟩=some (.slice b1 m1 n1)∧u.cell? ⟨p3,3,none⟩=some (.slice b2 m2 n2)∧u.cell? ⟨p3,4,none⟩=some (.slice b3 m3 n3)∧u.cell? ⟨p3,5,none⟩=some (.slice b4 m4 n4)∧u.cell? ⟨p3,6,none⟩=some (.slice b5 m5 n5))) (by kernel_rfl) (HB.out _ (grf _ _)) (fun hH=>?_);generalize u3.drew=t0 at *;simp only[List.size_toArray,lB,lC,Nat.reduceAdd,Array.replicate,List.replicate];refine tk 0 ?_;refine tk 1 ?_;refine tk 2 ?_;refine tk 3 ?_;refine tk 4 ?_;refine rd 5 rfl (fun K hK=>?_);go_simp;have gm:=gal t0 (.cells (madeCells #[.int .i64 0,.int .i64 0,.slice none 0 0,.slice none 0 0] (XL * 4)) 143) none;have C3:Hid _:=withT xs S q an XL cn (some ⟨t0.heap.size,0,none⟩) XL _ (HS.out.2.1.grown (gtr HY.out.2.2.2.2 (gtr L4.out.1 gm)) (CLe.grown (gtr HY.out.2.2.2.2 (gtr L4.out.1 gm)))) (L4.out.2.2.2.le (CLe.grown gm)) (madeTp t0 XL)
     refine hK.out _ _ (HB.out _ gm) ?_;have GM:Hid _:=gm;clear gm hmk;generalize t0.alloc (.cells (madeCells #[.int .i64 0,.int .i64 0,.slice none 0 0,.slice none 0 0] (XL * 4)) 143)=t1 at *;clear hK K hH;intro hH;simp only[Act.put,nA,nB,nC,nD,nE,nF];refine rd 6 rfl (fun K hK=>?_);go_simp;refine Calls.mono C3.out ?_;rintro e t2 ⟨q2,rfl,hg,hs2⟩;have G2:Hid (t0.grownBy t2 none):=gtr GM.out hg;have C4:Hid _:=IH.out pp kk aa b1 m1 n1 b2 m2 n2 b3 m3 n3 b4 m4 n4 b5 m5 n5 (xs.reverse++S) q2 t2 (by have:=HY.out.2.2.1;have:=HS.out.2.2;omega) (by have:=HY.out.2.2.1;omega) (HY.out.2.2.2.1.none (gtr L4.out.1 G2.out)) hs2;rw[nmE_congr pp kk aa (T:=xs++S) (fun z=>by rw[namV_app,namV_app,namV_rev])] at C4;refine hK.out _ _ (HB.out _ G2.out) ?_;clear hg hs2 C3 GM;clear hK K hH;intro hH;simp only[Act.put,nA,nB,nC,nD,nE,nF];refine rd 7 rfl (fun K hK=>?_);go_simp;refine Calls.mono C4.out ?_;rintro e t3 ⟨he,hg⟩
     subst he;refine hK.out _ _ (HB.out _ (gtr G2.out hg)) ?_;have G3:Hid (t0.grownBy t3 none):=gtr G2.out hg;clear hg C4 G2;clear hK K hH;intro hH;simp only[Act.put,nA,nB,nC,nD,nE,nF];refine tk 8 ?_;refine wpAnyH_done (by kernel_rfl) ?_ _;clear hH;have L5:Hid (wr.grownBy t3 none∧t3.heap[w.heap.size]? = some (Obj.cells #[.int .i64 p.k,.int .i64 p.n,.slice a1 l1 c1,.slice a2 l2 c2,.slice a3 l3 c3,.slice a4 l4 c4,.slice a5 l5 c5] 36)):=⟨gtr L4.out.1 G3.out,(G3.out.block _ (lt_of_block L4.out.2.2.1) (by simp)).trans L4.out.2.2.1⟩;clear L4 G3 HB
     cases hv:nmE (xs++S) pp kk aa with
     | false =>
      have EV:Hid (nmE S p kids alts=false∧w.grownBy t3 none):=⟨HY.out.1 hv,gtr HY.out.2.2.2.2 L5.out.1⟩;clear hv;go_wp2;go_ret;exact ⟨by rw[EV.out.1];rfl,EV.out.2⟩
     | true =>
      have EV:Hid (NbR w S p kids alts l4 a5 l5 (some ⟨b,o,none⟩) N (j+1) t3):=HY.out.2.1 hv _ L5.out.1;clear hv;go_wp2;go_roundw
      case rel=>exact ⟨j+1,by omega,by go_num,EV.out,L5.out.2⟩
      case measure=>simp [intOf];omega
    ·
     obtain rfl:j=N:=by omega
     have EV:Hid _:=NbR.last HR.out.1;clear HR;go_wp2;go_ret;exact ⟨by rw[EV.out.1];rfl,EV.out.2⟩
def DsB (w:World) (pd:Nat) (ds:List Da) (ad:Option Addr) (ld cd:Nat):Prop:=w.heap[pd]? = some (.cells #[.slice ad ld cd] 32 (0,0))∧SlDa w ad ld ds
theorem DsB.none {w u:World} {pd:Nat} {ds:List Da} {ad:Option Addr} {ld cd:Nat} (h:DsB w pd ds ad ld cd) (k:w.grownBy u Option.none):DsB u pd ds ad ld cd:=⟨(k.block _ (lt_of_block h.1) (by simp)).trans h.1,h.2.none k⟩
theorem DsB.cell {w:World} {pd:Nat} {ds:List Da} {ad:Option Addr} {ld cd:Nat} (h:DsB w pd ds ad ld cd):w.cell? ⟨pd,0,Option.none⟩=some (.slice ad ld cd):=by rw[cell_of_row w _ _ _ _ (0,0) h.1];rfl
def noC (ds:List Da) (hc:List Int) (hv:List (List Int)):Bool:=decide (0 < hc.length) && !cnOk ds hc hv.length
theorem consThere1T (ds:List Da) (pd:Nat) (ad:Option Addr) (ld cd:Nat) (hc:List Int) (hv:List (List Int)) (e0:Option Addr) (q0 d0:Nat) (e1:Option Addr) (q1 d1:Nat) (v2 v3 v4 v5 v6 v7 v8:Value) (w:World) (hD:DsB w pd ds ad ld cd) (h0:RdB w e0 q0 hc) (h1:SlSC w e1 q1 d1 hv) :
  Calls Tryz.prog 117 #[.agg #[.slice e0 q0 d0,.slice e1 q1 d1,v2,v3,v4,v5,v6,v7,v8],.pointer (some ⟨pd,0,none⟩)] w fun e u=>e = .returned (.bool (noC ds hc hv))∧w.grownBy u none:=by
 have g0:=gal w (.cells #[.slice e0 q0 d0,.slice e1 q1 d1,v2,v3,v4,v5,v6,v7,v8] 87) none;have b0:=heap_alloc_new w (.cells #[.slice e0 q0 d0,.slice e1 q1 d1,v2,v3,v4,v5,v6,v7,v8] 87);have hl0:=h0.1.1;have hl1:=h1.1.1;have C0:Hid _:=conThereT ds ad ld cd hc e0 q0 d0 q1 _ (hD.2.none g0) (h0.none g0);have L0:Hid _:=g0;have x0:=hD.cell;have hpl:=lt_of_block hD.1;obtain ⟨⟨y0,y1,y2,y3,y4,y5,y6,y7,y8⟩,-⟩:=blkEA b0
 have EV:Hid (noC ds hc hv=(decide (0 < q0) && !cnOk ds hc q1)):=by show _=_;unfold noC;rw[hl0,hl1]
 clear g0 b0 h0 h1 hD hl0 hl1;by_cases hz:q0=0
 ·
  have E2:Hid (decide (0 < q0)=false):=by show _=_;simp [hz]
  have hng:¬ (q0:Int) > 0:=by omega
  clear C0 hz;go_enter Tryz.func117,Tryz.ntmps117;go_wp2;go_ret;exact ⟨by rw[EV.out,E2.out];rfl,L0.out⟩
 ·
  have E2:Hid (decide (0 < q0)=true):=by show _=_;simp;omega
  have hng:(q0:Int) > 0:=by omega
  clear hz;go_enter Tryz.func117,Tryz.ntmps117;go_wp2_with fail;refine Calls.mono C0.out ?_;rintro e u ⟨rfl,hg⟩;have L1:Hid (w.grownBy u none):=gtr L0.out hg;clear C0 hg y0 y1 y2 y3 y4 y5 y6 y7 y8;simp only[];go_wp2;go_ret;exact ⟨by rw[EV.out,E2.out];rfl,L1.out⟩
theorem indexCT (ds:List Da) (pd:Nat) (ad:Option Addr) (ld cd:Nat) (g:GE) (a:Option Addr) (l c:Nat) (w:World) (hD:DsB w pd ds ad ld cd) (h:SlGE w true a l c g) :
  Calls Tryz.prog 146 #[.slice a l c,.func (Fn.func 117) #[] #[.pointer (some ⟨pd,0,none⟩)]] w fun e u=>(∃ r:Int,e = .returned (.int .i64 r)∧AtP (badC ds g) r)∧w.grownBy u none:=by
 have hl:=h.2.1;have hfl:=h.1;have HD:Hid (DsB w pd ds ad ld cd):=hD;clear hD;rcases h.cases with ⟨rfl,rfl⟩|⟨b,o,rfl,hin,hpos⟩
 ·
  go_enter Tryz.func146,Tryz.ntmps146;go_wp2;refine wp_loop_rounds 1 ?_;rw[rounds_succ];go_wp2;go_ret;exact ⟨⟨-1,rfl,by unfold AtP;exact rfl⟩,grf _ _⟩
 have IN:Hid (InGE w w true g b o):=hin;clear hin h;go_enter Tryz.func146,Tryz.ntmps146;go_wp2
 go_loopw [8] (fun i wr=>∃ (j:Nat) (R:GE),j≤l∧i = .int .i64 j∧R.len+j=l∧Hid (w.grownBy wr none∧InGE wr wr true R b (o+j * 9)∧(badC ds g)=badC ds R)) (fun i _=>l - (intOf i).toNat)
 case atStart=>exact ⟨0,g,Nat.zero_le _,rfl,by omega,grf _ _,by simpa using IN.out,rfl⟩
 case round =>
  obtain ⟨j,R,hj,rfl,hRl,HR⟩:=hrel;by_cases hlt:j < l
  ·
   obtain ⟨q,hq⟩:∃ q,R.len=q+1:=⟨R.len - 1,by omega⟩;obtain ⟨hc,hv2,p,kids,alts,R',rfl,hR'⟩:=GE.cons_of_len hq;obtain ⟨hg,hR,hv⟩:=HR.out;obtain ⟨e0,q0,d0,e1,q1,d1,a1,l1,c1,a2,l2,c2,a3,l3,c3,a4,l4,c4,a5,l5,c5,⟨m0,m1⟩,hgd,⟨k0,k1,k2,k3,k4,k5,k6⟩,hd,hT⟩:=hR.alt;rw[show o+j * 9+9=o+(j+1) * 9 by omega] at hT;simp only[badC] at hv;have CC:Hid _:=consThere1T ds pd ad ld cd hc hv2 e0 q0 d0 e1 q1 d1 (.int .i64 p.k) (.int .i64 p.n) (.slice a1 l1 c1) (.slice a2 l2 c2) (.slice a3 l3 c3) (.slice a4 l4 c4) (.slice a5 l5 c5) wr (HD.out.none hg) hgd.1 hgd.2;have FX:Hid (w.grownBy wr none∧InGE wr wr true R' b (o+(j+1) * 9)∧(badC ds g)=(noC ds hc hv2 || badC ds R')):=⟨hg,hT,hv⟩;clear hg hR hv hd hT HR IN hgd;simp only[GE.len] at hRl;go_wp2_with fail;refine Calls.mono CC.out ?_;rintro e u2 ⟨rfl,hgu⟩;have FY:Hid (w.grownBy u2 none∧InGE u2 u2 true R' b (o+(j+1) * 9)∧(badC ds g)=(noC ds hc hv2 || badC ds R')):=⟨gtr FX.out.1 hgu,FX.out.2.1.le (CLe.grown hgu) (CLe.grown hgu),FX.out.2.2⟩
   clear FX hgu CC k0 k1 k2 k3 k4 k5 k6 m0 m1;simp only[]
   cases hb:noC ds hc hv2 with
   | false =>
    have FZ:Hid (w.grownBy u2 none∧InGE u2 u2 true R' b (o+(j+1) * 9)∧(badC ds g)=badC ds R'):=⟨FY.out.1,FY.out.2.1,by rw[FY.out.2.2,hb,Bool.false_or]⟩;clear FY hb;go_wp2;go_roundw
    case rel=>exact ⟨j+1,R',by omega,by go_num,by omega,FZ⟩
    case measure=>simp [intOf];omega
   | true =>
    have FZ:Hid (w.grownBy u2 none∧(badC ds g)=true):=⟨FY.out.1,by rw[FY.out.2.2,hb,Bool.true_or]⟩;clear FY hb;go_wp2;go_ret;exact ⟨⟨(j:Int),rfl,by unfold AtP;rw[if_pos FZ.out.2];omega⟩,FZ.out.1⟩
  ·
   obtain rfl:j=l:=by omega
   obtain rfl:R = .nil:=GE.nil_of_len (by omega);have FZ:Hid (w.grownBy wr none∧(badC ds g)=false):=⟨HR.out.1,HR.out.2.2⟩;clear HR;go_wp2;go_ret;exact ⟨⟨-1,rfl,by unfold AtP;rw[if_neg (by rw[FZ.out.2];simp)]⟩,FZ.out.1⟩
theorem containsCT (ds:List Da) (pd:Nat) (ad:Option Addr) (ld cd:Nat) (g:GE) (a:Option Addr) (l c:Nat) (w:World) (hD:DsB w pd ds ad ld cd) (h:SlGE w true a l c g) :
  Calls Tryz.prog 116 #[.slice a l c,.func (Fn.func 117) #[] #[.pointer (some ⟨pd,0,none⟩)]] w fun e u=>e = .returned (.bool (badC ds g))∧w.grownBy u none:=by
 have CC:Hid _:=indexCT ds pd ad ld cd g a l c w hD h;clear h hD;go_enter Tryz.func116,Tryz.ntmps116;go_wp2_with fail;refine Calls.mono CC.out ?_;rintro e u ⟨⟨r,rfl,hr⟩,hg⟩;have G:Hid (w.grownBy u none):=hg;clear hg CC;unfold AtP at hr;simp only[]
 cases hb:(badC ds g) with
 | true =>
  rw[hb,if_pos rfl] at hr;go_wp2;go_ret;refine ⟨?_,G.out⟩;rw[hb]
  first|rfl | (simp;done) | (simp;omega)
 | false =>
  rw[hb,if_neg (by simp)] at hr;subst hr;go_wp2;go_ret;refine ⟨?_,G.out⟩;rw[hb]
  first|rfl | (simp;done)
theorem consThereT (ds:List Da) (ad:Option Addr) (ld cd:Nat) (p:PE) (kids alts:GE) (a1:Option Addr) (l1 c1:Nat) (a2:Option Addr) (l2 c2:Nat) (a3:Option Addr) (l3 c3:Nat) (a4:Option Addr) (l4 c4:Nat) (a5:Option Addr) (l5 c5:Nat) (w:World) (hD:SlDa w ad ld ds) (h:NdE w p kids alts a1 l1 c1 a2 l2 c2 a3 l3 c3 a4 l4 c4 a5 l5 c5) :
  Calls Tryz.prog 78 #[.slice ad ld cd,.agg #[.int .i64 p.k,.int .i64 p.n,.slice a1 l1 c1,.slice a2 l2 c2,.slice a3 l3 c3,.slice a4 l4 c4,.slice a5 l5 c5]] w fun e u=>e = .returned (.bool (cnE ds p kids alts))∧w.grownBy u none:=by
 obtain ⟨b0,b1,bsz⟩:=alloc2_blocks w (.cells #[.slice ad ld cd] 32) (.cells #[.int .i64 p.k,.int .i64 p.n,.slice a1 l1 c1,.slice a2 l2 c2,.slice a3 l3 c3,.slice a4 l4 c4,.slice a5 l5 c5] 36);have g0:=grown_alloc (grown_alloc (grf w none) (.cells #[.slice ad ld cd] 32)) (.cells #[.int .i64 p.k,.int .i64 p.n,.slice a1 l1 c1,.slice a2 l2 c2,.slice a3 l3 c3,.slice a4 l4 c4,.slice a5 l5 c5] 36);have hk4:=h.2.2.2.1.1;have C0:Hid _:=conThereT ds ad ld cd p.name a1 l1 c1 l4 _ (hD.none g0) (h.1.none g0);have L0:Hid (w.grownBy _ none∧DsB _ w.heap.size ds ad ld cd∧_=some (Obj.cells #[.int .i64 p.k,.int .i64 p.n,.slice a1 l1 c1,.slice a2 l2 c2,.slice a3 l3 c3,.slice a4 l4 c4,.slice a5 l5 c5] 36)):=⟨g0,⟨b0,hD.none g0⟩,b1⟩;have HN:Hid (NdE w p kids alts a1 l1 c1 a2 l2 c2 a3 l3 c3 a4 l4 c4 a5 l5 c5):=h;have x0:=L0.out.2.1.cell;obtain ⟨⟨y0,y1,y2,y3,y4,y5,y6⟩,-⟩:=blkE b1;clear b0 b1 bsz g0 hD h;go_enter Tryz.func78,Tryz.ntmps78
 go_upto_region 1 with fail;generalize (w.alloc (.cells #[.slice ad ld cd] 32)).alloc (.cells #[.int .i64 p.k,.int .i64 p.n,.slice a1 l1 c1,.slice a2 l2 c2,.slice a3 l3 c3,.slice a4 l4 c4,.slice a5 l5 c5] 36)=w0 at *
 go_cut [17] (fun s wx=>∃ bb:Bool,s = .bool bb∧Hid (bb=(decide (p.k=15) && !cnOk ds p.name kids.len)∧w0.grownBy wx none))
 case first =>
  by_cases h15:p.k=15
  ·
   have b15:(p.k == 15)=true:=by simpa using h15
   have E1:Hid (decide (p.k=15)=true):=by show _=_;simp [h15]
   clear h15;go_wp2_with fail;refine Calls.mono C0.out ?_;rintro e u ⟨rfl,hg⟩;have G:Hid (w0.grownBy u none):=hg;clear C0 hg y0 y1 y2 y3 y4 y5 y6 x0;simp only[];go_wp2;go_meet
   case rel=>exact ⟨_,rfl,by rw[E1.out,hk4];rfl,G.out⟩
  ·
   have b15:(p.k == 15)=false:=by simpa using h15
   have E1:Hid (decide (p.k=15)=false):=by show _=_;simp [h15]
   clear h15;go_wp2;go_meet
   case rel=>exact ⟨false,rfl,by rw[E1.out];rfl,grf _ _⟩
 case rest =>
 obtain ⟨bb,rfl,HB⟩:=hcut;clear C0 y0 y1 y2 y3 y4 y5 y6 x0;have L1:Hid (w.grownBy wc none∧DsB wc w.heap.size ds ad ld cd∧wc.heap[w.heap.size+1]? = some (Obj.cells #[.int .i64 p.k,.int .i64 p.n,.slice a1 l1 c1,.slice a2 l2 c2,.slice a3 l3 c3,.slice a4 l4 c4,.slice a5 l5 c5] 36)):=⟨gtr L0.out.1 HB.out.2,L0.out.2.1.none HB.out.2,(HB.out.2.block _ (lt_of_block L0.out.2.2) (by simp)).trans L0.out.2.2⟩
 have EV:Hid (cnE ds p kids alts=(!bb && !badC ds alts)):=by show _=_;unfold cnE;rw[HB.out.1]
 clear HB L0;obtain ⟨⟨y0,y1,y2,y3,y4,y5,y6⟩,-⟩:=blkE L1.out.2.2
 cases bb with
 | true =>
  go_wp2;go_ret;exact ⟨by rw[EV.out];rfl,L1.out.1⟩
 | false =>
  have C1:Hid _:=containsCT ds w.heap.size ad ld cd alts a5 l5 c5 wc L1.out.2.1 (HN.out.2.2.2.2.none L1.out.1);go_wp2_with fail;refine Calls.mono C1.out ?_;rintro e u ⟨rfl,hg⟩;have G:Hid (w.grownBy u none):=gtr L1.out.1 hg;clear C1 hg L1 y0 y1 y2 y3 y4 y5 y6;simp only[];go_wp2;go_ret;exact ⟨by rw[EV.out];rfl,G.out⟩
theorem namesStand1T (ds:List Da) (pd:Nat) (ad:Option Addr) (ld cd:Nat) (p:PE) (kids alts:GE) (a1:Option Addr) (l1 c1:Nat) (a2:Option Addr) (l2 c2:Nat) (a3:Option Addr) (l3 c3:Nat) (a4:Option Addr) (l4 c4:Nat) (a5:Option Addr) (l5 c5:Nat) (w:World) (hD:DsB w pd ds ad ld cd) (h:NdE w p kids alts a1 l1 c1 a2 l2 c2 a3 l3 c3 a4 l4 c4 a5 l5 c5) :
  Calls Tryz.prog 77 #[.agg #[.int .i64 p.k,.int .i64 p.n,.slice a1 l1 c1,.slice a2 l2 c2,.slice a3 l3 c3,.slice a4 l4 c4,.slice a5 l5 c5],.pointer (some ⟨pd,0,none⟩)] w fun e u=>e = .returned (.bool (cnE ds p kids alts))∧w.grownBy u none:=by
 have g0:=gal w (.cells #[.int .i64 p.k,.int .i64 p.n,.slice a1 l1 c1,.slice a2 l2 c2,.slice a3 l3 c3,.slice a4 l4 c4,.slice a5 l5 c5] 36) none;have b0:=heap_alloc_new w (.cells #[.int .i64 p.k,.int .i64 p.n,.slice a1 l1 c1,.slice a2 l2 c2,.slice a3 l3 c3,.slice a4 l4 c4,.slice a5 l5 c5] 36);have C0:Hid _:=consThereT ds ad ld cd p kids alts a1 l1 c1 a2 l2 c2 a3 l3 c3 a4 l4 c4 a5 l5 c5 _ (hD.2.none g0) (h.none g0);have x0:=hD.cell;have hpl:=lt_of_block hD.1;have G0:Hid _:=g0;obtain ⟨⟨y0,y1,y2,y3,y4,y5,y6⟩,-⟩:=blkE b0;clear g0 b0 h hD;go_enter Tryz.func77,Tryz.ntmps77;go_wp2_with fail;refine Calls.mono C0.out ?_;rintro e u ⟨rfl,hg⟩;have G:Hid (w.grownBy u none):=gtr G0.out hg;clear C0 hg G0 y0 y1 y2 y3 y4 y5 y6;simp only[];go_wp2;go_ret;exact ⟨rfl,G.out⟩
def evG (P:PE→GE→GE→Bool):GE→Bool
 | .nil=>true
 | .cons _ _ p kids alts rest=>(P p kids alts && evG P kids && evG P alts) && evG P rest
def evE (P:PE→GE→GE→Bool) (p:PE) (kids alts:GE):Bool:=P p kids alts && evG P kids && evG P alts
theorem evG_cons (P:PE→GE→GE→Bool) (hc:List Int) (hv:List (List Int)) (p:PE) (kids alts rest:GE):evG P (.cons hc hv p kids alts rest)=(evE P p kids alts && evG P rest):=rfl
theorem evG_app (P:PE→GE→GE→Bool):∀ f g:GE,evG P (f.app g)=(evG P f && evG P g)
 | .nil,g=>by simp [GE.app,evG]
 | .cons _ _ p k a r,g=>by simp only[GE.app,evG_cons,evG_app P r g,Bool.and_assoc]
theorem evG_bod (P:PE→GE→GE→Bool):∀ g:GE,evG P (bod g)=evG P g
 | .nil=>rfl
 | .cons _ _ p k a r=>by simp only[bod,evG_cons,evG_bod P r]
def CloE (f pd:Nat) (P:PE→GE→GE→Bool) (Q:PE→GE→GE→Prop) (w:World):Prop:=∀ u,w.grownBy u none→∀ (p:PE) (kids alts:GE) (a1:Option Addr) (l1 c1:Nat) (a2:Option Addr) (l2 c2:Nat) (a3:Option Addr) (l3 c3:Nat) (a4:Option Addr) (l4 c4:Nat) (a5:Option Addr) (l5 c5:Nat),Q p kids alts→NdE u p kids alts a1 l1 c1 a2 l2 c2 a3 l3 c3 a4 l4 c4 a5 l5 c5 →
 Calls Tryz.prog f #[.agg #[.int .i64 p.k,.int .i64 p.n,.slice a1 l1 c1,.slice a2 l2 c2,.slice a3 l3 c3,.slice a4 l4 c4,.slice a5 l5 c5],.pointer (some ⟨pd,0,none⟩)] u fun e v=>e = .returned (.bool (P p kids alts))∧u.grownBy v none
theorem CloE.none {f pd:Nat} {P:PE→GE→GE→Bool} {Q:PE→GE→GE→Prop} {w u:World} (h:CloE f pd P Q w) (k:w.grownBy u Option.none):CloE f pd P Q u:=fun v hv=>h v (gtr k hv)
def allQ (Q:PE→GE→GE→Prop):GE→Prop
 | .nil=>True
 | .cons _ _ p kids alts rest=>(Q p kids alts∧allQ Q kids∧allQ Q alts)∧allQ Q rest
theorem allQ_app (Q:PE→GE→GE→Prop):∀ {f g:GE},allQ Q f→allQ Q g→allQ Q (f.app g)
 | .nil,_,_,h=>h
 | .cons _ _ p k a r,_,h,h'=>⟨h.1,allQ_app Q h.2 h'⟩
theorem allQ_bod (Q:PE→GE→GE→Prop):∀ {g:GE},allQ Q g→allQ Q (bod g)
 | .nil,h=>h
 | .cons _ _ p k a r,h=>⟨h.1,allQ_bod Q h.2⟩
theorem everyPartT (f pd:Nat) (hf:f=77∨f=80) (P:PE→GE→GE→Bool) (Q:PE→GE→GE→Prop) (M:Nat):∀ (p:PE) (kids alts:GE) (a1:Option Addr) (l1 c1:Nat) (a2:Option Addr) (l2 c2:Nat) (a3:Option Addr) (l3 c3:Nat) (a4:Option Addr) (l4 c4:Nat) (a5:Option Addr) (l5 c5:Nat) (w:World),kids.size+alts.size < M→kids.size+alts.size≤1048576→(Q p kids alts∧allQ Q kids∧allQ Q alts)→NdE w p kids alts a1 l1 c1 a2 l2 c2 a3 l3 c3 a4 l4 c4 a5 l5 c5→CloE f pd P Q w →
  Calls Tryz.prog 76 #[.agg #[.int .i64 p.k,.int .i64 p.n,.slice a1 l1 c1,.slice a2 l2 c2,.slice a3 l3 c3,.slice a4 l4 c4,.slice a5 l5 c5],.func (Fn.func f) #[] #[.pointer (some ⟨pd,0,none⟩)]] w fun e u=>e = .returned (.bool (evE P p kids alts))∧w.grownBy u none:=by
 rcases hf with rfl|rfl
 all_goals
  induction M with
  | zero=>intro p kids alts a1 l1 c1 a2 l2 c2 a3 l3 c3 a4 l4 c4 a5 l5 c5 w hM;exact absurd hM (Nat.not_lt_zero _)
  | succ M ih =>
   intro p kids alts a1 l1 c1 a2 l2 c2 a3 l3 c3 a4 l4 c4 a5 l5 c5 w hM hsz hQ h hC;have IH:Hid _:=ih;have g0:=gal w (.cells #[.int .i64 p.k,.int .i64 p.n,.slice a1 l1 c1,.slice a2 l2 c2,.slice a3 l3 c3,.slice a4 l4 c4,.slice a5 l5 c5] 36) none;have b0:=heap_alloc_new w (.cells #[.int .i64 p.k,.int .i64 p.n,.slice a1 l1 c1,.slice a2 l2 c2,.slice a3 l3 c3,.slice a4 l4 c4,.slice a5 l5 c5] 36);have HS:Hid (NdE w p kids alts a1 l1 c1 a2 l2 c2 a3 l3 c3 a4 l4 c4 a5 l5 c5∧CloE _ pd P Q w∧kids.size+alts.size < M+1∧allQ Q (kids.app (bod alts))):=⟨h,hC,hM,allQ_app Q hQ.2.1 (allQ_bod Q hQ.2.2)⟩;have L0:Hid (w.grownBy (w.alloc (.cells #[.int .i64 p.k,.int .i64 p.n,.slice a1 l1 c1,.slice a2 l2 c2,.slice a3 l3 c3,.slice a4 l4 c4,.slice a5 l5 c5] 36)) none∧(w.alloc (.cells #[.int .i64 p.k,.int .i64 p.n,.slice a1 l1 c1,.slice a2 l2 c2,.slice a3 l3 c3,.slice a4 l4 c4,.slice a5 l5 c5] 36)).heap[w.heap.size]? = some (Obj.cells #[.int .i64 p.k,.int .i64 p.n,.slice a1 l1 c1,.slice a2 l2 c2,.slice a3 l3 c3,.slice a4 l4 c4,.slice a5 l5 c5] 36)):=⟨g0,b0⟩
   have C0:Hid _:=hC _ g0 p kids alts a1 l1 c1 a2 l2 c2 a3 l3 c3 a4 l4 c4 a5 l5 c5 hQ.1 (h.none g0);obtain ⟨⟨y0,y1,y2,y3,y4,y5,y6⟩,-⟩:=blkE b0;clear g0 b0 h hC ih hM hQ;go_enter Tryz.func76,Tryz.ntmps76;go_wp2_with fail;refine Calls.mono C0.out ?_;rintro e wc ⟨rfl,hg⟩;generalize w.alloc (.cells #[.int .i64 p.k,.int .i64 p.n,.slice a1 l1 c1,.slice a2 l2 c2,.slice a3 l3 c3,.slice a4 l4 c4,.slice a5 l5 c5] 36)=w0 at *;have L1:Hid (w.grownBy wc none∧wc.heap[w.heap.size]? = some (Obj.cells #[.int .i64 p.k,.int .i64 p.n,.slice a1 l1 c1,.slice a2 l2 c2,.slice a3 l3 c3,.slice a4 l4 c4,.slice a5 l5 c5] 36)):=⟨gtr L0.out.1 hg,(hg.block _ (lt_of_block L0.out.2) (by simp)).trans L0.out.2⟩;clear C0 hg L0 y0 y1 y2 y3 y4 y5 y6;obtain ⟨⟨y0,y1,y2,y3,y4,y5,y6⟩,-⟩:=blkE L1.out.2;simp only[]
   cases hP:P p kids alts with
   | false =>
    have EV:Hid (evE P p kids alts=false):=by show _=_;unfold evE;rw[hP];rfl
    clear hP;go_wp2;go_ret;exact ⟨by rw[EV.out];rfl,L1.out.1⟩
   | true =>
    have EP:Hid (evE P p kids alts=evG P (kids.app (bod alts))):=by show _=_;unfold evE;rw[hP,evG_app,evG_bod,Bool.true_and]
    have C1:Hid _:=partsOfT p kids alts a1 l1 c1 a2 l2 c2 a3 l3 c3 a4 l4 c4 a5 l5 c5 wc (HS.out.1.none L1.out.1) (by have h1:=kids.len_le;have h2:=alts.len_le;have h3:=HS.out.1.2.2.2.1.1;have h4:=HS.out.1.2.2.2.2.1;omega);clear hP;go_wp2_with fail;refine Calls.mono C1.out ?_;rintro e u2 ⟨ap,cp,rfl,hg,hSl⟩
    have hNb:l4+l5≤1048576:=by have h1:=kids.len_le;have h2:=alts.len_le;have h3:=HS.out.1.2.2.2.1.1;have h4:=HS.out.1.2.2.2.2.1;omega
    have L2:Hid (w.grownBy u2 none∧TlK u2 ap 0 (l4+l5) (kids.app (bod alts))):=⟨gtr L1.out.1 hg,hSl.tlK⟩;clear C1 hg hSl L1 y0 y1 y2 y3 y4 y5 y6;generalize l4+l5=N at *;simp only[];go_wp2
    go_loopw [14] (fun i wr=>∃ (j:Nat) (R:GE),j≤N∧i = .int .i64 j∧Hid (w.grownBy wr none∧TlK wr ap j N R∧R.size≤kids.size+alts.size∧evE P p kids alts=evG P R∧allQ Q R)) (fun i _=>N - (intOf i).toNat)
    case atStart=>exact ⟨0,_,Nat.zero_le _,rfl,L2.out.1,L2.out.2,by have:=size_app kids (bod alts);have:=size_bod alts;omega,EP.out,HS.out.2.2.2⟩
    case round =>
     clear L2 EP;obtain ⟨j,R,hj,rfl,HR⟩:=hrel;by_cases hlt:j < N
     ·
      obtain ⟨hg,⟨hRl,hR⟩,hRs,hv,hq⟩:=HR.out;obtain ⟨q',hq'⟩:∃ q',R.len=q' + 1:=⟨R.len - 1,by omega⟩;rcases hR with rfl|⟨b,o,ea,hin⟩
      ·
       simp [GE.len] at hq'
      obtain ⟨hc,hv2,pp,kk,aa,R',rfl,hR'⟩:=GE.cons_of_len hq';obtain ⟨-,b1,m1,n1,b2,m2,n2,b3,m3,n3,b4,m4,n4,b5,m5,n5,⟨k0,k1,k2,k3,k4,k5,k6⟩,hnd,hR2⟩:=hin.kid;rw[show o+j * 7+7=o+(j+1) * 7 by omega] at hR2;simp only[GE.size] at hRs;rw[evG_cons] at hv;have ga:=gal wr (.cells #[.int .i64 pp.k,.int .i64 pp.n,.slice b1 m1 n1,.slice b2 m2 n2,.slice b3 m3 n3,.slice b4 m4 n4,.slice b5 m5 n5] 36) none;have ba:=heap_alloc_new wr (.cells #[.int .i64 pp.k,.int .i64 pp.n,.slice b1 m1 n1,.slice b2 m2 n2,.slice b3 m3 n3,.slice b4 m4 n4,.slice b5 m5 n5] 36);have CC:Hid _:=IH.out pp kk aa b1 m1 n1 b2 m2 n2 b3 m3 n3 b4 m4 n4 b5 m5 n5 _ (by have:=HS.out.2.2.1;omega) (by omega) hq.1 (hnd.none ga) (HS.out.2.1.none (gtr hg ga));have FX:Hid (w.grownBy (wr.alloc (.cells #[.int .i64 pp.k,.int .i64 pp.n,.slice b1 m1 n1,.slice b2 m2 n2,.slice b3 m3 n3,.slice b4 m4 n4,.slice b5 m5 n5] 36)) none∧InGE (wr.alloc (.cells #[.int .i64 pp.k,.int .i64 pp.n,.slice b1 m1 n1,.slice b2 m2 n2,.slice b3 m3 n3,.slice b4 m4 n4,.slice b5 m5 n5] 36)) (wr.alloc (.cells #[.int .i64 pp.k,.int .i64 pp.n,.slice b1 m1 n1,.slice b2 m2 n2,.slice b3 m3 n3,.slice b4 m4 n4,.slice b5 m5 n5] 36)) false R' b (o+(j+1) * 7)∧R'.size≤kids.size+alts.size∧evE P p kids alts=(evE P pp kk aa && evG P R')∧allQ Q R'):=⟨gtr hg ga,hR2.le (CLe.grown ga) (CLe.grown ga),by omega,hv,hq.2⟩
      obtain ⟨⟨z0,z1,z2,z3,z4,z5,z6⟩,hfz⟩:=blkE ba;clear hg hv hq hin hnd hR2 HR ga ba hfz hRs;simp only[GE.len] at hRl;subst ea;go_wp2_with fail;refine Calls.mono CC.out ?_;rintro e u3 ⟨he,hgu⟩;subst he;have FY:Hid (w.grownBy u3 none∧TlK u3 (some ⟨b,o,none⟩) (j+1) N R'):=⟨gtr FX.out.1 hgu,⟨by omega,.inr ⟨b,o,rfl,FX.out.2.1.le (CLe.grown hgu) (CLe.grown hgu)⟩⟩⟩;clear CC hgu z0 z1 z2 z3 z4 z5 z6 k0 k1 k2 k3 k4 k5 k6;simp only[]
      cases hq:evE P pp kk aa with
      | false =>
       have EV:Hid (evE P p kids alts=false):=by show _=_;rw[FX.out.2.2.2.1,hq];rfl
       clear hq;go_wp2;go_ret;exact ⟨by rw[EV.out];rfl,FY.out.1⟩
      | true =>
       have EV:Hid (evE P p kids alts=evG P R'):=by show _=_;rw[FX.out.2.2.2.1,hq];rfl
       clear hq;go_wp2;go_roundw
       case rel=>exact ⟨j+1,R',by omega,by go_num,FY.out.1,FY.out.2,FX.out.2.2.1,EV.out,FX.out.2.2.2.2⟩
       case measure=>simp [intOf];omega
     ·
      obtain rfl:j=N:=by omega
      obtain ⟨hg,⟨hRl,-⟩,-,hv,-⟩:=HR.out;obtain rfl:R = .nil:=GE.nil_of_len (by omega);have EV:Hid (evE P p kids alts=true∧w.grownBy wr none):=⟨hv,hg⟩;clear HR hg hv hRl;go_wp2;go_ret;exact ⟨by rw[EV.out.1];rfl,EV.out.2⟩
theorem evG_ep (ds:List Da):∀ g:GE,evG (cnE ds) g=epG ds g
 | .nil=>rfl
 | .cons _ _ p k a r=>by simp only[evG,epG,evG_ep ds k,evG_ep ds a,evG_ep ds r]
theorem allT:∀ g:GE,allQ (fun _ _ _=>True) g
 | .nil=>trivial
 | .cons _ _ p k a r=>⟨⟨trivial,allT k,allT a⟩,allT r⟩
theorem namesStandT (ds:List Da) (ad:Option Addr) (ld cd:Nat) (p:PE) (kids alts:GE) (a1:Option Addr) (l1 c1:Nat) (a2:Option Addr) (l2 c2:Nat) (a3:Option Addr) (l3 c3:Nat) (a4:Option Addr) (l4 c4:Nat) (a5:Option Addr) (l5 c5:Nat) (w:World) (hD:SlDa w ad ld ds) (h:NdE w p kids alts a1 l1 c1 a2 l2 c2 a3 l3 c3 a4 l4 c4 a5 l5 c5) (hsz:kids.size+alts.size≤1048576) :
  Calls Tryz.prog 37 #[.slice ad ld cd,.agg #[.int .i64 p.k,.int .i64 p.n,.slice a1 l1 c1,.slice a2 l2 c2,.slice a3 l3 c3,.slice a4 l4 c4,.slice a5 l5 c5]] w fun e u=>e = .returned (.bool (nmE [] p kids alts && epE ds p kids alts))∧w.grownBy u none:=by
 obtain ⟨b0,b1,bsz⟩:=alloc2_blocks w (.cells #[.slice ad ld cd] 32) (.cells #[.int .i64 p.k,.int .i64 p.n,.slice a1 l1 c1,.slice a2 l2 c2,.slice a3 l3 c3,.slice a4 l4 c4,.slice a5 l5 c5] 36);have g0:=grown_alloc (grown_alloc (grf w none) (.cells #[.slice ad ld cd] 32)) (.cells #[.int .i64 p.k,.int .i64 p.n,.slice a1 l1 c1,.slice a2 l2 c2,.slice a3 l3 c3,.slice a4 l4 c4,.slice a5 l5 c5] 36);have C0:Hid _:=nbT (kids.size+alts.size+1) p kids alts a1 l1 c1 a2 l2 c2 a3 l3 c3 a4 l4 c4 a5 l5 c5 [] none _ (by omega) hsz (h.none g0) rfl;have L0:Hid (w.grownBy _ none∧DsB _ w.heap.size ds ad ld cd∧_=some (Obj.cells #[.int .i64 p.k,.int .i64 p.n,.slice a1 l1 c1,.slice a2 l2 c2,.slice a3 l3 c3,.slice a4 l4 c4,.slice a5 l5 c5] 36)):=⟨g0,⟨b0,hD.none g0⟩,b1⟩;have HN:Hid (NdE w p kids alts a1 l1 c1 a2 l2 c2 a3 l3 c3 a4 l4 c4 a5 l5 c5):=h;obtain ⟨⟨y0,y1,y2,y3,y4,y5,y6⟩,-⟩:=blkE b1;clear b0 b1 bsz g0 hD h;go_enter Tryz.func37,Tryz.ntmps37
 go_wp2_with fail;refine Calls.mono C0.out ?_;rintro e wc ⟨rfl,hg⟩;generalize (w.alloc (.cells #[.slice ad ld cd] 32)).alloc (.cells #[.int .i64 p.k,.int .i64 p.n,.slice a1 l1 c1,.slice a2 l2 c2,.slice a3 l3 c3,.slice a4 l4 c4,.slice a5 l5 c5] 36)=w0 at *;have L1:Hid (w.grownBy wc none∧DsB wc w.heap.size ds ad ld cd∧wc.heap[w.heap.size+1]? = some (Obj.cells #[.int .i64 p.k,.int .i64 p.n,.slice a1 l1 c1,.slice a2 l2 c2,.slice a3 l3 c3,.slice a4 l4 c4,.slice a5 l5 c5] 36)):=⟨gtr L0.out.1 hg,L0.out.2.1.none hg,(hg.block _ (lt_of_block L0.out.2.2) (by simp)).trans L0.out.2.2⟩;clear C0 hg L0 y0 y1 y2 y3 y4 y5 y6;obtain ⟨⟨y0,y1,y2,y3,y4,y5,y6⟩,-⟩:=blkE L1.out.2.2;simp only[]
 cases hn:nmE [] p kids alts with
 | false =>
  have EV:Hid (nmE [] p kids alts=false):=hn;clear hn;go_wp2;go_ret;exact ⟨by rw[EV.out];rfl,L1.out.1⟩
 | true =>
  have EV:Hid (nmE [] p kids alts=true):=hn;have C1:Hid _:=everyPartT 77 w.heap.size (.inl rfl) (cnE ds) (fun _ _ _=>True) (kids.size+alts.size+1) p kids alts a1 l1 c1 a2 l2 c2 a3 l3 c3 a4 l4 c4 a5 l5 c5 wc (by omega) hsz ⟨trivial,allT _,allT _⟩ (HN.out.none L1.out.1) (fun u hu p kids alts a1 l1 c1 a2 l2 c2 a3 l3 c3 a4 l4 c4 a5 l5 c5 _ h=>namesStand1T ds w.heap.size ad ld cd p kids alts a1 l1 c1 a2 l2 c2 a3 l3 c3 a4 l4 c4 a5 l5 c5 u (L1.out.2.1.none hu) h)
  have EP:Hid (evE (cnE ds) p kids alts=epE ds p kids alts):=by show _=_;unfold evE epE;rw[evG_ep,evG_ep]
  rw[EP.out] at C1;clear hn;go_wp2_with fail;refine Calls.mono C1.out ?_;rintro e u ⟨rfl,hg⟩;have G:Hid (w.grownBy u none):=gtr L1.out.1 hg;clear C1 hg L1 y0 y1 y2 y3 y4 y5 y6;simp only[];go_wp2;go_ret;exact ⟨by rw[EV.out];rfl,G.out⟩
end Go.Proofs.YtblbnillilbacaaGreatDoor.By
