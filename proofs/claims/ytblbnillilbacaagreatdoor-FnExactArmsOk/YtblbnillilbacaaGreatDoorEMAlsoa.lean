/-
  No statement is proved here.
-/
import Derived.Test.YtblbnillilbacaaGreatDoorEPAlsoa
namespace Go.Proofs.YtblbnillilbacaaGreatDoor.By
set_option maxRecDepth 100000
set_option maxHeartbeats 16000000
open Go.RowKit
set_option linter.unusedVariables false
set_option linter.unusedSimpArgs false
theorem news1 {u:World} {q:Nat} {v0:Value} (h:u.cell? ⟨q,0,none⟩=some v0):∀ j v,[v0][j]? = some v→u.cell? ((⟨q,0,none⟩:Addr).add j)=some v:=by
 intro j v hv;rw[Go.WideShapes.add_plain,Nat.zero_add]
 match j,hv with
 | 0,hv=>simp at hv;subst hv;exact h
 | j+1,hv=>simp at hv
theorem one1S {w:World} {g:Nat} {t:TypeId} {c0:Value} (h:w.heap[g]? = some (.cells #[c0] t (0,0))):w.cell? ⟨g,0,none⟩=some c0:=by
 rw[cell_of_row w g _ _ t (0,0) h];rfl
theorem dataNamesT (ds:List Da) (a:Option Addr) (l c:Nat) (w:World) (h:SlDa w a l ds) (hs:l≤1048576) :
  Calls Tryz.prog 66 #[.slice a l c] w fun e u=>∃ a' c',e = .returned (.slice a' l c')∧w.grownBy u none∧SlSS u a' l (ds.map Da.name)∧l≤c':=by
 have hl:=h.2.1;have hfl:=h.1;rcases h.cases with ⟨rfl,rfl⟩|⟨b,o,rfl,hin,hpos⟩
 ·
  go_enter Tryz.func66,Tryz.ntmps66;go_wp2;refine wp_loop_rounds 1 ?_;rw[rounds_succ];go_wp2;go_ret;exact ⟨_,_,rfl,grf _ _,⟨rfl,by omega,.inl rfl⟩,Nat.le_refl _⟩
 have IN:Hid (InDa w w ds b o):=hin;clear hin h;obtain ⟨i0,hi,hz0,hz1,hz2⟩:=info_parts infoBy;go_enter Tryz.func66,Tryz.ntmps66;go_wp2
 go_loopw [3,8] (fun v i wr=>∃ (j:Nat) (P R:List Da) (av:Option Addr) (cv:Nat) (vs:List Value),j≤l∧i = .int .i64 j∧v = .slice av j cv∧P.length=j∧R.length+j=l∧Hid (w.grownBy wr none∧OwV wr 23 w.heap.size av j cv vs∧RdVs w vs (P.map Da.name)∧InDa w w R b (o+j * 3)∧P++R=ds)) (fun _ i _=>l - (intOf i).toNat)
 case atStart=>exact ⟨0,[],ds,none,0,[],Nat.zero_le _,rfl,rfl,rfl,by omega,grf _ _,⟨rfl,Nat.le_refl _,.inl ⟨rfl,rfl⟩⟩,trivial,by simpa using IN.out,rfl⟩
 case round =>
  obtain ⟨j,P,R,av,cv,vs,hj,rfl,rfl,hPl,hRl,HR⟩:=hrel;by_cases hlt:j < l
  ·
   obtain ⟨x,R',rfl⟩:∃ x R',R=x::R':=by
    cases R with
    | nil=>simp at hRl;omega
    | cons x R'=>exact ⟨x,R',rfl⟩
   obtain ⟨hg,hO,hV,⟨⟨a1,n1,c1,a2,l2,c2,k0,k1,k2,hd1,hd2⟩,hR2⟩,hcs⟩:=HR.out;rw[show o+j * 3+3=o+(j+1) * 3 by omega] at hR2;have k0:=hg.cell k0 (by simp);have k1:=hg.cell k1 (by simp);have k2:=hg.cell k2 (by simp);have ga:=gal wr (.cells #[.slice a1 n1 c1,.int .i64 x.vars,.slice a2 l2 c2] 68) none;have gb:=gal (wr.alloc (.cells #[.slice a1 n1 c1,.int .i64 x.vars,.slice a2 l2 c2] 68)) (.cells #[.slice a1 n1 c1] 23) none;have bb:=heap_alloc_new (wr.alloc (.cells #[.slice a1 n1 c1,.int .i64 x.vars,.slice a2 l2 c2] 68)) (.cells #[.slice a1 n1 c1] 23)
   have s1:(wr.alloc (.cells #[.slice a1 n1 c1,.int .i64 x.vars,.slice a2 l2 c2] 68)).heap.size=wr.heap.size+1:=by simp
   rw[s1] at bb;have NW:Hid _:=news1 (one1S bb);have GG:=gtr ga gb;have FX:Hid (w.grownBy ((wr.alloc (.cells #[.slice a1 n1 c1,.int .i64 x.vars,.slice a2 l2 c2] 68)).alloc (.cells #[.slice a1 n1 c1] 23)) none∧OwV ((wr.alloc (.cells #[.slice a1 n1 c1,.int .i64 x.vars,.slice a2 l2 c2] 68)).alloc (.cells #[.slice a1 n1 c1] 23)) 23 w.heap.size av j cv vs∧RdVs w (vs++[.slice a1 n1 c1]) ((P++[x]).map Da.name)∧InDa w w R' b (o+(j+1) * 3)∧(P++[x])++R' = ds∧w.heap.size≤((wr.alloc (.cells #[.slice a1 n1 c1,.int .i64 x.vars,.slice a2 l2 c2] 68)).alloc (.cells #[.slice a1 n1 c1] 23)).heap.size):=⟨gtr hg GG,hO.none GG,by rw[List.map_append];exact hV.app ⟨a1,n1,c1,rfl,hd1⟩,hR2,by rw[List.append_assoc];exact hcs,(gtr hg GG).size⟩;clear hg hO hV hd1 hd2 hR2 hcs ga gb bb s1 GG HR IN;simp only[lB] at hRl;go_wp2_with (at_builtin;go_must (refine wpList_pushV rfl _ _ 85 rfl 23 i0 _ Tryz.underlying85 hi hz0 hz1 hz2 rfl w.heap.size av j cv vs rfl FX.out.2.1 FX.out.2.2.2.2.2 (by omega) ⟨wr.heap.size+1,0,none⟩ rfl (.slice a1 n1 c1) rfl NW.out ?_);intro a3 c3 u3 h1 h2)
   have FY:Hid (w.grownBy u3 none∧OwV u3 23 w.heap.size a3 (j+1) c3 (vs++[.slice a1 n1 c1])):=⟨h2 w FX.out.1 (Nat.le_refl _),h1⟩;clear h1 h2 NW k0 k1 k2;go_roundw
   case rel=>exact ⟨j+1,P++[x],R',a3,c3,_,by omega,by go_num,rfl,by simp [hPl],by omega,FY.out.1,FY.out.2,FX.out.2.2.1,FX.out.2.2.2.1,FX.out.2.2.2.2.1⟩
   case measure=>simp [intOf];omega
  ·
   obtain rfl:j=l:=by omega
   obtain rfl:R=[]:=List.eq_nil_of_length_eq_zero (by omega);obtain ⟨hg,hO,hV,-,hcs⟩:=HR.out;rw[List.append_nil] at hcs;subst hcs;have FQ:Hid (w.grownBy wr none∧SlSS wr av j (P.map Da.name)∧j≤cv):=⟨hg,hO.read (hV.le (CLe.grown hg)) (by omega),hO.2.1⟩;clear hg hO hV HR IN;go_wp2;go_ret;exact ⟨_,_,rfl,FQ.out⟩
def conNs (ds:List Da):List (List Int):=ds.flatMap fun d=>d.cons.map Co.name
theorem conNs_len:∀ ds:List Da,(conNs ds).length≤szDas ds
 | []=>Nat.le_refl _
 | x::r=>by
  have:=conNs_len r;have h2:=szCos_len x.cons;simp only[conNs,List.flatMap_cons,lA,List.length_map,szDas,szDa] at this ⊢;omega
theorem conNs_app (P Q:List Da):conNs (P++Q)=conNs P++conNs Q:=by unfold conNs;rw[List.flatMap_append]
theorem conNs_one (x:Da):conNs [x]=x.cons.map Co.name:=by simp [conNs]
theorem conNamesT (ds:List Da) (a:Option Addr) (l c:Nat) (w:World) (h:SlDa w a l ds) (hs:szDas ds≤1048576) :
  Calls Tryz.prog 67 #[.slice a l c] w fun e u=>∃ a' c',e = .returned (.slice a' (conNs ds).length c')∧w.grownBy u none∧SlSS u a' (conNs ds).length (conNs ds)∧(conNs ds).length≤c':=by
 have hl:=h.2.1;have hfl:=h.1;have hcl:=conNs_len ds;rcases h.cases with ⟨rfl,rfl⟩|⟨b,o,rfl,hin,hpos⟩
 ·
  go_enter Tryz.func67,Tryz.ntmps67;go_wp2;refine wp_loop_rounds 1 ?_;rw[rounds_succ];go_wp2;go_ret;exact ⟨_,_,rfl,grf _ _,⟨rfl,by simp [conNs],.inl rfl⟩,Nat.le_refl _⟩
 have IN:Hid (InDa w w ds b o):=hin;clear hin h;obtain ⟨i0,hi,hz0,hz1,hz2⟩:=info_parts infoBy;go_enter Tryz.func67,Tryz.ntmps67;go_wp2
 go_loopw [3,10] (fun v i wr=>∃ (j t:Nat) (P R:List Da) (av:Option Addr) (cv:Nat) (vs:List Value),j≤l∧i = .int .i64 j∧v = .slice av t cv∧P.length=j∧R.length+j=l∧Hid (w.grownBy wr none∧OwV wr 23 w.heap.size av t cv vs∧RdVs w vs (conNs P)∧InDa w w R b (o+j * 3)∧P++R=ds)) (fun _ i _=>l - (intOf i).toNat)
 case atStart=>exact ⟨0,0,[],ds,none,0,[],Nat.zero_le _,rfl,rfl,rfl,by omega,grf _ _,⟨rfl,Nat.le_refl _,.inl ⟨rfl,rfl⟩⟩,trivial,by simpa using IN.out,rfl⟩
 case round =>
  obtain ⟨j,t,P,R,av,cv,vs,hj,rfl,rfl,hPl,hRl,HR⟩:=hrel;by_cases hlt:j < l
  ·
   obtain ⟨x,R',rfl⟩:∃ x R',R=x::R':=by
    cases R with
    | nil=>simp at hRl;omega
    | cons x R'=>exact ⟨x,R',rfl⟩
   obtain ⟨hg,hO,hV,⟨⟨a1,n1,c1,a2,l2,c2,k0,k1,k2,hd1,hd2⟩,hR2⟩,hcs⟩:=HR.out;rw[show o+j * 3+3=o+(j+1) * 3 by omega] at hR2;have k0:=hg.cell k0 (by simp);have k1:=hg.cell k1 (by simp);have k2:=hg.cell k2 (by simp);have ga:=gal wr (.cells #[.slice a1 n1 c1,.int .i64 x.vars,.slice a2 l2 c2] 68) none
   have hlens:(conNs P).length+x.cons.length≤1048576:=by
    have e:conNs ds=conNs P++(conNs [x]++conNs R'):=by rw[← hcs,← List.singleton_append,conNs_app,conNs_app]
    have:=congrArg List.length e;rw[conNs_one] at this;simp only[lA,List.length_map] at this;omega
   have FX:Hid (w.grownBy (wr.alloc (.cells #[.slice a1 n1 c1,.int .i64 x.vars,.slice a2 l2 c2] 68)) none∧OwV (wr.alloc (.cells #[.slice a1 n1 c1,.int .i64 x.vars,.slice a2 l2 c2] 68)) 23 w.heap.size av t cv vs∧RdVs w vs (conNs P)∧InDa w w R' b (o+(j+1) * 3)∧(P++[x])++R' = ds∧SlCo w a2 l2 x.cons):=⟨gtr hg ga,hO.none ga,hV,hR2,by rw[List.append_assoc];exact hcs,hd2⟩;have hl2:=hd2.1;have hl2m:=hd2.2.1;clear hg hO hV hd1 hR2 hcs ga HR IN;simp only[lB] at hRl;rcases hd2.cases with ⟨h20,h2n⟩|⟨b2,o2,h2a,hin2,h2p⟩
   ·
    have FE:Hid (RdVs w vs (conNs (P++[x]))):=by show RdVs _ _ _;rw[conNs_app,conNs_one,h2n];simpa using FX.out.2.2.1
    subst h20;clear hd2 h2n hl2;go_wp2;refine wp_loop_rounds 1 ?_;rw[rounds_succ];go_wp2;go_roundw
    case rel=>exact ⟨j+1,t,P++[x],R',av,cv,vs,by omega,by go_num,rfl,by simp [hPl],by omega,FX.out.1,FX.out.2.1,FE.out,FX.out.2.2.2.1,FX.out.2.2.2.2.1⟩
    case measure=>simp [intOf];omega
   ·
    subst h2a;have IN2:Hid (InCo w w x.cons b2 o2):=hin2;clear hd2 hin2;go_wp2;generalize wr.alloc (.cells #[.slice a1 n1 c1,.int .i64 x.vars,.slice (some ⟨b2,o2,none⟩) l2 c2] 68)=wq at *
    go_loopw [3,17] (fun v i wr2=>∃ (q t2:Nat) (P2 R2:List Co) (av2:Option Addr) (cv2:Nat) (vs2:List Value),q≤l2∧i = .int .i64 q∧v = .slice av2 t2 cv2∧P2.length=q∧R2.length+q=l2∧Hid (w.grownBy wr2 none∧OwV wr2 23 w.heap.size av2 t2 cv2 vs2∧RdVs w vs2 (conNs P++P2.map Co.name)∧InCo w w R2 b2 (o2+q * 2)∧P2++R2=x.cons)) (fun _ i _=>l2 - (intOf i).toNat)
    case atStart=>exact ⟨0,t,[],x.cons,av,cv,vs,Nat.zero_le _,rfl,rfl,rfl,by omega,FX.out.1,FX.out.2.1,by simpa using FX.out.2.2.1,by simpa using IN2.out,rfl⟩
    case round =>
     obtain ⟨q,t2,P2,R2,av2,cv2,vs2,hq,rfl,rfl,hP2,hR2l,HQ⟩:=hrel;by_cases hlt2:q < l2
     ·
      obtain ⟨y,R3,rfl⟩:∃ y R3,R2=y::R3:=by
       cases R2 with
       | nil=>simp at hR2l;omega
       | cons y R3=>exact ⟨y,R3,rfl⟩
      obtain ⟨hg,hO,hV,⟨⟨a4,n4,c4,a5,l5,c5,m0,m1,hd4,hd5⟩,hR3⟩,hc2⟩:=HQ.out;rw[show o2+q * 2+2=o2+(q+1) * 2 by omega] at hR3;have m0:=hg.cell m0 (by simp);have m1:=hg.cell m1 (by simp)
      have ht2:t2≤2000000:=by
       have e1:=hO.1;have e2:=hV.len;simp only[lA,List.length_map] at e2;omega
      have ga:=gal wr (.cells #[.slice a4 n4 c4,.slice a5 l5 c5] 73) none;have gb:=gal (wr.alloc (.cells #[.slice a4 n4 c4,.slice a5 l5 c5] 73)) (.cells #[.slice a4 n4 c4] 23) none;have bb:=heap_alloc_new (wr.alloc (.cells #[.slice a4 n4 c4,.slice a5 l5 c5] 73)) (.cells #[.slice a4 n4 c4] 23)
      have s1:(wr.alloc (.cells #[.slice a4 n4 c4,.slice a5 l5 c5] 73)).heap.size=wr.heap.size+1:=by simp
      rw[s1] at bb;have NW:Hid _:=news1 (one1S bb);have GG:=gtr ga gb;have FZ:Hid (w.grownBy ((wr.alloc (.cells #[.slice a4 n4 c4,.slice a5 l5 c5] 73)).alloc (.cells #[.slice a4 n4 c4] 23)) none∧OwV ((wr.alloc (.cells #[.slice a4 n4 c4,.slice a5 l5 c5] 73)).alloc (.cells #[.slice a4 n4 c4] 23)) 23 w.heap.size av2 t2 cv2 vs2∧RdVs w (vs2++[.slice a4 n4 c4]) (conNs P++(P2++[y]).map Co.name)∧InCo w w R3 b2 (o2+(q+1) * 2)∧(P2++[y])++R3=x.cons∧w.heap.size≤((wr.alloc (.cells #[.slice a4 n4 c4,.slice a5 l5 c5] 73)).alloc (.cells #[.slice a4 n4 c4] 23)).heap.size):=⟨gtr hg GG,hO.none GG,by rw[List.map_append,← List.append_assoc];exact hV.app ⟨a4,n4,c4,rfl,hd4⟩,hR3,by rw[List.append_assoc];exact hc2,(gtr hg GG).size⟩;clear hg hO hV hd4 hd5 hR3 hc2 ga gb bb s1 GG HQ IN2;simp only[lB] at hR2l;go_wp2_with (at_builtin;go_must (refine wpList_pushV rfl _ _ 85 rfl 23 i0 _ Tryz.underlying85 hi hz0 hz1 hz2 rfl w.heap.size av2 t2 cv2 vs2 rfl FZ.out.2.1 FZ.out.2.2.2.2.2 ht2 ⟨wr.heap.size+1,0,none⟩ rfl (.slice a4 n4 c4) rfl NW.out ?_);intro a6 c6 u6 h1 h2)
      have FY:Hid (w.grownBy u6 none∧OwV u6 23 w.heap.size a6 (t2+1) c6 (vs2++[.slice a4 n4 c4])):=⟨h2 w FZ.out.1 (Nat.le_refl _),h1⟩;clear h1 h2 NW m0 m1;go_roundw
      case rel=>exact ⟨q+1,t2+1,P2++[y],R3,a6,c6,_,by omega,by go_num,rfl,by simp [hP2],by omega,FY.out.1,FY.out.2,FZ.out.2.2.1,FZ.out.2.2.2.1,FZ.out.2.2.2.2.1⟩
      case measure=>simp [intOf];omega
     ·
      obtain rfl:q=l2:=by omega
      obtain rfl:R2=[]:=List.eq_nil_of_length_eq_zero (by omega)
      have FE:Hid (w.grownBy wr none∧OwV wr 23 w.heap.size av2 t2 cv2 vs2∧RdVs w vs2 (conNs (P++[x]))):=by
       obtain ⟨hg,hO,hV,-,hc2⟩:=HQ.out;rw[List.append_nil] at hc2;rw[hc2] at hV;exact ⟨hg,hO,by rw[conNs_app,conNs_one];exact hV⟩
      clear HQ;go_wp2;go_roundw
      case rel=>exact ⟨j+1,t2,P++[x],R',av2,cv2,vs2,by omega,by go_num,rfl,by simp [hPl],by omega,FE.out.1,FE.out.2.1,FE.out.2.2,FX.out.2.2.2.1,FX.out.2.2.2.2.1⟩
      case measure=>simp [intOf];omega
  ·
   obtain rfl:j=l:=by omega
   obtain rfl:R=[]:=List.eq_nil_of_length_eq_zero (by omega);obtain ⟨hg,hO,hV,-,hcs⟩:=HR.out;rw[List.append_nil] at hcs;subst hcs
   obtain rfl:t=(conNs P).length:=by rw[← hO.1,hV.len]
   have FQ:Hid (w.grownBy wr none∧SlSS wr av (conNs P).length (conNs P)∧(conNs P).length≤cv):=⟨hg,hO.read (hV.le (CLe.grown hg)) (by omega),hO.2.1⟩;clear hg hO hV HR IN;go_wp2;go_ret;exact ⟨_,_,rfl,FQ.out⟩
theorem InDa.fst {w wp:World} {P Q:List Da} {b off:Nat} (h:InDa w wp (P++Q) b off):InDa w wp P b off:=by
 induction P generalizing off with
 | nil=>trivial
 | cons x r ih=>exact ⟨h.1,ih h.2⟩
def preV:List Da→List Da→Bool
 | _,[]=>true
 | P,x::r=>lastV (P++[x]) x && preV (P++[x]) r
def implV (ds:List Da):Bool:=decide (ds.length≤6) && (preV [] ds && (unV [] (ds.map Da.name) && unV [] (conNs ds)))
theorem implDatasT (ds:List Da) (a:Option Addr) (l c:Nat) (w:World) (h:SlDa w a l ds) (hlc:l≤c) (hs:szDas ds≤1048576) :
  Calls Tryz.prog 31 #[.slice a l c] w fun e u=>e = .returned (.bool (implV ds))∧w.grownBy u none:=by
 have hl:=h.2.1;have hfl:=h.1;by_cases h6:l≤6
 rotate_left
 ·
  have EV:Hid (implV ds=false):=by show _=_;unfold implV;rw[hfl];simp [h6]
  have h6':(l:Int) > 6:=by omega
  go_enter Tryz.func31,Tryz.ntmps31;go_wp2;go_ret;exact ⟨by rw[EV.out];rfl,grf _ _⟩
 have h6':¬ (l:Int) > 6:=by omega
 have h6b:decide ((l:Int) > 6)=false:=by simpa using h6'
 have EV:Hid (implV ds=(preV [] ds && (unV [] (ds.map Da.name) && unV [] (conNs ds)))):=by show _=_;unfold implV;rw[hfl];simp [h6]
 have HD:Hid (∀ u,w.grownBy u none→SlDa u a l ds):=fun u hu=>h.none hu
 have CN:Hid (∀ u,w.grownBy u none→Calls Tryz.prog 66 #[.slice a l c] u fun e u'=>∃ a' c',e = .returned (.slice a' l c')∧u.grownBy u' none∧SlSS u' a' l (ds.map Da.name)∧l≤c'):=fun u hu=>dataNamesT ds a l c u (h.none hu) (by omega)
 have CC:Hid (∀ u,w.grownBy u none→Calls Tryz.prog 67 #[.slice a l c] u fun e u'=>∃ a' c',e = .returned (.slice a' (conNs ds).length c')∧u.grownBy u' none∧SlSS u' a' (conNs ds).length (conNs ds)∧(conNs ds).length≤c'):=fun u hu=>conNamesT ds a l c u (h.none hu) hs
 clear h;go_enter Tryz.func31,Tryz.ntmps31;go_wp2
 go_loopw [9] (fun i wr=>∃ (j:Nat) (P R:List Da),j≤l∧i = .int .i64 j∧P.length=j∧R.length+j=l∧Hid (w.grownBy wr none∧P++R=ds∧preV [] ds=preV P R)) (fun i _=>l - (intOf i).toNat)
 case atStart=>exact ⟨0,[],ds,Nat.zero_le _,rfl,rfl,by omega,grf _ _,rfl,rfl⟩
 case round =>
  obtain ⟨j,P,R,hj,rfl,hPl,hRl,HR⟩:=hrel;by_cases hlt:j < l
  ·
   obtain ⟨x,R',rfl⟩:∃ x R',R=x::R':=by
    cases R with
    | nil=>simp at hRl;omega
    | cons x R'=>exact ⟨x,R',rfl⟩
   obtain ⟨hg,hcs,hv⟩:=HR.out
   have hcs2:(P++[x])++R' = ds:=by rw[List.append_assoc];exact hcs
   have hD:=HD.out wr hg
   obtain ⟨b,o,rfl,hin,-⟩:∃ b o,a=some ⟨b,o,none⟩∧InDa wr wr ds b o∧0 < l:=by
    rcases hD.cases with ⟨z1,z2⟩|hh
    ·
     omega
    ·
     exact hh
   rw[← hcs2] at hin;have CL:Hid _:=lastT P x (some ⟨b,o,none⟩) (j+1) c wr ⟨by simp [hPl],by omega,.inr ⟨b,o,rfl,hin.fst⟩⟩;have FX:Hid (w.grownBy wr none∧(P++[x])++R' = ds∧preV [] ds=(lastV (P++[x]) x && preV (P++[x]) R')):=⟨hg,hcs2,by rw[hv];rfl⟩
   have hjc:(j:Int)+1≤(c:Int):=by omega
   have ew:IntKind.i64.wrap ((j:Int)+1)=(j:Int)+1:=IntWalk.i64_in _ (by omega);clear hg hcs hv hcs2 hD hin HR;simp only[lB] at hRl;go_wp2_with fail;refine Calls.mono CL.out ?_;rintro e u ⟨he,hgu⟩;subst he;have G2:Hid (w.grownBy u none):=gtr FX.out.1 hgu;clear CL hgu;simp only[]
   cases hq:lastV (P++[x]) x with
   | false =>
    have E2:Hid (implV ds=false):=by show _=_;rw[EV.out,FX.out.2.2,hq];rfl
    clear hq;go_wp2;go_ret;exact ⟨by rw[E2.out];rfl,G2.out⟩
   | true =>
    have E2:Hid (preV [] ds=preV (P++[x]) R'):=by show _=_;rw[FX.out.2.2,hq];rfl
    clear hq ew;go_wp2;go_roundw
    case rel=>exact ⟨j+1,P++[x],R',by omega,by go_num,by simp [hPl],by omega,G2.out,FX.out.2.1,E2.out⟩
    case measure=>simp [intOf];omega
  ·
   obtain rfl:j=l:=by omega
   obtain rfl:R=[]:=List.eq_nil_of_length_eq_zero (by omega);have E1:Hid (implV ds=(unV [] (ds.map Da.name) && unV [] (conNs ds))∧w.grownBy wr none):=⟨by rw[EV.out,HR.out.2.2];rfl,HR.out.1⟩;clear HR;go_wp2_with fail;refine Calls.mono (CN.out wr E1.out.2) ?_;rintro e u1 ⟨a1,c1,he,hg1,hS1,hc1⟩;subst he;have CU:Hid _:=allUnT (ds.map Da.name) a1 j c1 u1 hS1 hc1;have G1:Hid (w.grownBy u1 none):=gtr E1.out.2 hg1;clear hg1 hS1 hc1 CN;simp only[];go_wp2_with fail;refine Calls.mono CU.out ?_;rintro e u2 ⟨he,hg2⟩;subst he;have G2:Hid (w.grownBy u2 none):=gtr G1.out hg2;clear hg2 CU;simp only[]
   cases hq:unV [] (ds.map Da.name) with
   | false =>
    have E2:Hid (implV ds=false):=by show _=_;rw[E1.out.1,hq];rfl
    clear hq;go_wp2;go_ret;exact ⟨by rw[E2.out];rfl,G2.out⟩
   | true =>
    have E2:Hid (implV ds=unV [] (conNs ds)):=by show _=_;rw[E1.out.1,hq];rfl
    clear hq;go_wp2_with fail;refine Calls.mono (CC.out u2 G2.out) ?_;rintro e u3 ⟨a3,c3,he,hg3,hS3,hc3⟩;subst he;have CU:Hid _:=allUnT (conNs ds) a3 (conNs ds).length c3 u3 hS3 hc3;have G3:Hid (w.grownBy u3 none):=gtr G2.out hg3;clear hg3 hS3 hc3 CC;simp only[];go_wp2_with fail;refine Calls.mono CU.out ?_;rintro e u4 ⟨he,hg4⟩;subst he;have G4:Hid (w.grownBy u4 none):=gtr G3.out hg4;clear hg4 CU;simp only[];go_wp2;go_ret;exact ⟨by rw[E2.out];rfl,G4.out⟩
end Go.Proofs.YtblbnillilbacaaGreatDoor.By
