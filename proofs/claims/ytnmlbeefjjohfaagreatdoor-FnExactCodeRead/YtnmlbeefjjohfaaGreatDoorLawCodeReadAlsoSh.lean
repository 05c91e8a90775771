/-
  No statement is proved here.
-/
import Derived.Test.YtnmlbeefjjohfaaGreatDoorGKKSh
import Derived.Test.YtnmlbeefjjohfaaGreatDoorSRrAlsoSh
namespace Go.Proofs.YtnmlbeefjjohfaaGreatDoor.By
set_option maxRecDepth 100000
set_option maxHeartbeats 16000000
open Go.RowKit
set_option linter.unusedVariables false
set_option linter.unusedSimpArgs false
theorem peelU {w:World} {g j:Nat} {LR:List Adr} {x:F} {R':List F} (h:ShG w (encTys (x::R')) g (j) LR) (hp:Pl w g) :
  ∃ (a0:Option Addr) (l0 c0:Nat) (M0:List Adr),∃ LR':List Adr,LR=M0++LR'∧∀ V,Lk w V→(V.cell? ⟨g,j,none⟩=some (.slice a0 l0 c0)∧ShS V 3 a0 l0 (encF x) M0)∧ShG V (encTys R') g ((j+1)) LR'∧Pl V g:=by
 obtain ⟨M0,K0,a0,l0,c0,rfl,c0',s0',h⟩:=h.outS;refine ⟨a0,l0,c0,M0,K0,rfl,fun V hV=>?_⟩;have hn:ShG w (encTys R') g (j+1) K0:=h;exact ⟨⟨hV.sl _ _ _ _ _ c0',s0'.lk hV⟩,hn.lk hV,hV.pl g hp⟩
theorem markGU (xs:List F) (a:Option Addr) (l c:Nat) (L:List Adr) (k0:Int) (w:World) (h:ShS w 1 a l (encTys xs) L) (hU:Uni L) (hk0:0≤k0) (hk1:k0+L.length≤4611686018427387904) :
  Calls Tryz.prog 46 #[.slice a l c,.int .i64 k0] w fun e u=>e = .returned (.int .i64 (k0+L.length))∧Wr w u L k0:=by
 obtain ⟨h1,h2,h3⟩:=h;rw[encTys_len] at h1
 have hxl:xs.length=l:=by omega
 rcases h3 with ⟨rfl,hd,rfl⟩|⟨g,hp,rfl,hpl,hsh⟩
 ·
  go_enter Tryz.func46,Tryz.ntmps46;go_wp2;refine wp_loop_rounds 1 ?_;rw[rounds_succ];go_wp2;go_ret;exact ⟨by simp,Wr.quiet (grf _ _) _⟩
 have HU:Hid (Uni L):=hU;clear hU;have H0:Hid (ShG w (encTys xs) g 0 L∧Pl w g):=⟨hsh,hpl⟩;clear hsh hpl h1;go_enter Tryz.func46,Tryz.ntmps46;go_wp2
 go_loopw [1,5] (fun v i wr=>∃ (j:Nat) (R:List F) (LD LR:List Adr) (kj:Int),j≤l∧i = .int .i64 j∧v = .int .i64 kj∧0≤kj∧kj+LR.length=k0+L.length∧R.length+j=l∧Hid (L=LD++LR∧kj=k0+LD.length∧Wr w wr LD k0∧ShG wr (encTys R) g (j) LR∧Pl wr g)) (fun _ i _=>l - (intOf i).toNat)
 case atStart=>exact ⟨0,xs,[],L,k0,Nat.zero_le _,rfl,rfl,hk0,rfl,by omega,⟨rfl,by simp,Wr.quiet (grf _ _) _,by simpa using H0.out.1,H0.out.2⟩⟩
 case round =>
  obtain ⟨j,R,LD,LR,kj,hj,rfl,rfl,hj0,hjk,hRl,HR⟩:=hrel;clear H0;by_cases hlt:j < l
  ·
   obtain ⟨x,R',rfl⟩:∃ y r,R=y::r:=by
    cases R with
    | nil=>simp at hRl;omega
    | cons y r=>exact ⟨y,r,rfl⟩
   obtain ⟨a0,l0,c0,M0,LR',hLR,hS⟩:=peelU HR.out.2.2.2.1 HR.out.2.2.2.2;have SH:Hid (∀ V,Lk wr V→(V.cell? ⟨g,j,none⟩=some (.slice a0 l0 c0)∧ShS V 3 a0 l0 (encF x) M0)∧ShG V (encTys R') g ((j+1)) LR'∧Pl V g):=hS;have HL:Hid (LR=M0++LR'):=hLR;clear hS hLR
   have hlen:(LR.length:Int)=(M0.length:Int)+(LR'.length:Int):=by
    rw[HL.out];simp only[lA,lB,lC];(try push_cast);omega
   simp only[lB] at hRl;have PR:Hid (Wr w wr (LD) k0∧Lk wr wr):=⟨HR.out.2.2.1,⟨fun _ _ _ _ _ h=>h,fun _ _ _ n h=>⟨n,h⟩,fun _ h=>h⟩⟩;have KC:Hid (kj=k0+LD.length∧L=LD++LR):=⟨HR.out.2.1,HR.out.1⟩;clear HR;have hc0:=(SH.out wr PR.out.2).1;have CC:Hid _:=markGT (x) _ (Nat.lt_succ_self _) a0 l0 c0 M0 (kj) wr hc0.2 (by have h9:=HU.out;rw[KC.out.2,HL.out] at h9;exact Uni.left (L2:=LR') (Uni.right (L1:=LD) (by simpa using h9))) (by omega) (by omega);have hh0:=hc0.1;clear hc0;go_wp2_with fail;refine Calls.mono CC.out ?_;rintro e u0 ⟨rfl,hw⟩;have PR2:Hid (Wr w u0 (LD++M0) k0∧Lk wr u0):=⟨Wr.app PR.out.1 hw (by have:=KC.out.1;(try simp only[lA,lB,lC]);(try push_cast);omega) (Uni.left (L2:=LR') (by have h9:=HU.out;rw[KC.out.2,HL.out] at h9;simpa using h9)),PR.out.2.trans hw.lk⟩;clear PR CC hw hh0;have PR:Hid _:=PR2.out;clear PR2;simp only[]
   have hfin:(kj+(M0.length:Int))+(LR'.length:Int)=k0+L.length:=by omega
   have HN:Hid (L=(LD++M0)++LR'∧(kj+(M0.length:Int))=k0+((LD++M0).length:Int)∧Wr w u0 (LD++M0) k0∧ShG u0 (encTys R') g ((j+1)) LR'∧Pl u0 g):=⟨by rw[KC.out.2,HL.out];simp,by have:=KC.out.1;(try simp only[lA,lB,lC]);(try push_cast);omega,PR.out.1,((SH.out _ PR.out.2).2).1,((SH.out _ PR.out.2).2).2⟩;clear PR SH HL KC;go_wp2;go_roundw
   case rel=>exact ⟨j+1,R',_,LR',_,by omega,by go_num,rfl,by omega,hfin,by omega,HN⟩
   case measure=>simp [intOf];omega
  ·
   obtain rfl:j=l:=by omega
   obtain rfl:R=[]:=lz0 (by omega);have hr0:LR=[]:=HR.out.2.2.2.1;subst hr0;have HF:Hid (Wr w wr L k0∧kj=k0+(L.length:Int)):=⟨by have h9:=HR.out.1;rw[List.append_nil] at h9;rw[h9];exact HR.out.2.2.1,by simpa using hjk⟩;clear HR hjk;go_wp2;go_ret;exact ⟨by rw[← HF.out.2];rfl,HF.out.1⟩
theorem heldGU (xs:List F) (a:Option Addr) (l c:Nat) (L:List Adr) (k0:Int) (w:World) (h:ShS w 1 a l (encTys xs) L) (hH:Hl w L k0) (hk0:0≤k0) (hk1:k0+L.length≤4611686018427387904) :
  Calls Tryz.prog 49 #[.slice a l c,.int .i64 k0] w fun e u=>e = .returned (.int .i64 (k0+L.length))∧w.grownBy u none:=by
 obtain ⟨h1,h2,h3⟩:=h;rw[encTys_len] at h1
 have hxl:xs.length=l:=by omega
 rcases h3 with ⟨rfl,hd,rfl⟩|⟨g,hp,rfl,hpl,hsh⟩
 ·
  go_enter Tryz.func49,Tryz.ntmps49;go_wp2;refine wp_loop_rounds 1 ?_;rw[rounds_succ];go_wp2;go_ret;exact ⟨by simp,grf _ _⟩
 have HH:Hid (Hl w L k0):=hH;clear hH;have H0:Hid (ShG w (encTys xs) g 0 L∧Pl w g):=⟨hsh,hpl⟩;clear hsh hpl h1;go_enter Tryz.func49,Tryz.ntmps49;go_wp2
 go_loopw [1,5] (fun v i wr=>∃ (j:Nat) (R:List F) (LD LR:List Adr) (kj:Int),j≤l∧i = .int .i64 j∧v = .int .i64 kj∧0≤kj∧kj+LR.length=k0+L.length∧R.length+j=l∧Hid (L=LD++LR∧kj=k0+LD.length∧w.grownBy wr none∧Hl wr LR kj∧ShG wr (encTys R) g (j) LR∧Pl wr g)) (fun _ i _=>l - (intOf i).toNat)
 case atStart=>exact ⟨0,xs,[],L,k0,Nat.zero_le _,rfl,rfl,hk0,rfl,by omega,⟨rfl,by simp,grf _ _,HH.out,by simpa using H0.out.1,H0.out.2⟩⟩
 case round =>
  obtain ⟨j,R,LD,LR,kj,hj,rfl,rfl,hj0,hjk,hRl,HR⟩:=hrel;clear H0;by_cases hlt:j < l
  ·
   obtain ⟨x,R',rfl⟩:∃ y r,R=y::r:=by
    cases R with
    | nil=>simp at hRl;omega
    | cons y r=>exact ⟨y,r,rfl⟩
   obtain ⟨a0,l0,c0,M0,LR',hLR,hS⟩:=peelU HR.out.2.2.2.2.1 HR.out.2.2.2.2.2;have SH:Hid (∀ V,Lk wr V→(V.cell? ⟨g,j,none⟩=some (.slice a0 l0 c0)∧ShS V 3 a0 l0 (encF x) M0)∧ShG V (encTys R') g ((j+1)) LR'∧Pl V g):=hS;have HL:Hid (LR=M0++LR'):=hLR;clear hS hLR
   have hlen:(LR.length:Int)=(M0.length:Int)+(LR'.length:Int):=by
    rw[HL.out];simp only[lA,lB,lC];(try push_cast);omega
   simp only[lB] at hRl;have PR:Hid (w.grownBy wr none∧Lk wr wr∧Hl wr LR kj):=⟨HR.out.2.2.1,⟨fun _ _ _ _ _ h=>h,fun _ _ _ n h=>⟨n,h⟩,fun _ h=>h⟩,HR.out.2.2.2.1⟩;have KC:Hid (kj=k0+LD.length∧L=LD++LR):=⟨HR.out.2.1,HR.out.1⟩;clear HR;have hc0:=(SH.out wr PR.out.2.1).1
   have CC:Hid _:=heldGT (x) _ (Nat.lt_succ_self _) a0 l0 c0 M0 (kj) wr hc0.2 (by
    have h9:=PR.out.2.2;rw[HL.out] at h9;have h7:=h9;have h5:=Hl.left (L1:=M0) (L2:=LR') (k:=kj) (by simpa using h7)
    exact h5) (by omega) (by omega)
   have hh0:=hc0.1;clear hc0;go_wp2_with fail;refine Calls.mono CC.out ?_;rintro e u0 ⟨rfl,hw⟩;have PR2:Hid (w.grownBy u0 none∧Lk wr u0∧Hl u0 LR kj):=⟨gtr PR.out.1 hw,PR.out.2.1.trans (Lk.quiet hw),PR.out.2.2.old hw⟩;clear PR CC hw hh0;have PR:Hid _:=PR2.out;clear PR2;simp only[]
   have hng1:¬ (kj+(M0.length:Int)) < 0:=by omega
   have hfin:(kj+(M0.length:Int))+(LR'.length:Int)=k0+L.length:=by omega
   have HN:Hid (L=(LD++M0)++LR'∧(kj+(M0.length:Int))=k0+((LD++M0).length:Int)∧(w.grownBy u0 none∧Hl u0 LR' (kj+(M0.length:Int)))∧ShG u0 (encTys R') g ((j+1)) LR'∧Pl u0 g):=⟨by rw[KC.out.2,HL.out];simp,by have:=KC.out.1;(try simp only[lA,lB,lC]);(try push_cast);omega,⟨PR.out.1,by
    have h9:=PR.out.2.2;rw[HL.out] at h9;have h7:=Hl.right (L1:=M0) (L2:=LR') (by simpa using h9);rw[show (kj+(M0.length:Int):Int)=kj+((M0).length:Int) by first|rfl|omega | ((try simp only[lA,lB,lC]);(try push_cast);omega)]
    exact h7⟩,((SH.out _ PR.out.2.1).2).1,((SH.out _ PR.out.2.1).2).2⟩
   clear PR SH HL KC;go_wp2;go_roundw
   case rel=>exact ⟨j+1,R',_,LR',_,by omega,by go_num,rfl,by omega,hfin,by omega,⟨HN.out.1,HN.out.2.1,HN.out.2.2.1.1,HN.out.2.2.1.2,HN.out.2.2.2⟩⟩
   case measure=>simp [intOf];omega
  ·
   obtain rfl:j=l:=by omega
   obtain rfl:R=[]:=lz0 (by omega);have hr0:LR=[]:=HR.out.2.2.2.2.1;subst hr0;have HF:Hid (w.grownBy wr none∧kj=k0+(L.length:Int)):=⟨HR.out.2.2.1,by simpa using hjk⟩;clear HR hjk;go_wp2;go_ret;exact ⟨by rw[← HF.out.2];rfl,HF.out.1⟩
theorem peelL {w:World} {g j:Nat} {LR:List Adr} {x:RLayout} {R':List RLayout} (h:ShG w (encLays (x::R')) g (j) LR) (hp:Pl w g) :
  ∃ (a0:Option Addr) (l0 c0:Nat) (M0:List Adr),∃ LR':List Adr,LR=M0++LR'∧∀ V,Lk w V→(V.cell? ⟨g,j,none⟩=some (.slice a0 l0 c0)∧ShS V 1 a0 l0 (encTys x.cons) M0)∧ShG V (encLays R') g ((j+1)) LR'∧Pl V g:=by
 obtain ⟨M0,K0,a0,l0,c0,rfl,c0',s0',h⟩:=h.outS;refine ⟨a0,l0,c0,M0,K0,rfl,fun V hV=>?_⟩;have hn:ShG w (encLays R') g (j+1) K0:=h;exact ⟨⟨hV.sl _ _ _ _ _ c0',s0'.lk hV⟩,hn.lk hV,hV.pl g hp⟩
theorem markGL (xs:List RLayout) (a:Option Addr) (l c:Nat) (L:List Adr) (k0:Int) (w:World) (h:ShS w 1 a l (encLays xs) L) (hU:Uni L) (hk0:0≤k0) (hk1:k0+L.length≤4611686018427387904) :
  Calls Tryz.prog 23 #[.slice a l c,.int .i64 k0] w fun e u=>e = .returned (.int .i64 (k0+L.length))∧Wr w u L k0:=by
 obtain ⟨h1,h2,h3⟩:=h;rw[encLays_len] at h1
 have hxl:xs.length=l:=by omega
 rcases h3 with ⟨rfl,hd,rfl⟩|⟨g,hp,rfl,hpl,hsh⟩
 ·
  go_enter Tryz.func23,Tryz.ntmps23;go_wp2;refine wp_loop_rounds 1 ?_;rw[rounds_succ];go_wp2;go_ret;exact ⟨by simp,Wr.quiet (grf _ _) _⟩
 have HU:Hid (Uni L):=hU;clear hU;have H0:Hid (ShG w (encLays xs) g 0 L∧Pl w g):=⟨hsh,hpl⟩;clear hsh hpl h1;go_enter Tryz.func23,Tryz.ntmps23;go_wp2
 go_loopw [1,5] (fun v i wr=>∃ (j:Nat) (R:List RLayout) (LD LR:List Adr) (kj:Int),j≤l∧i = .int .i64 j∧v = .int .i64 kj∧0≤kj∧kj+LR.length=k0+L.length∧R.length+j=l∧Hid (L=LD++LR∧kj=k0+LD.length∧Wr w wr LD k0∧ShG wr (encLays R) g (j) LR∧Pl wr g)) (fun _ i _=>l - (intOf i).toNat)
 case atStart=>exact ⟨0,xs,[],L,k0,Nat.zero_le _,rfl,rfl,hk0,rfl,by omega,⟨rfl,by simp,Wr.quiet (grf _ _) _,by simpa using H0.out.1,H0.out.2⟩⟩
 case round =>
  obtain ⟨j,R,LD,LR,kj,hj,rfl,rfl,hj0,hjk,hRl,HR⟩:=hrel;clear H0;by_cases hlt:j < l
  ·
   obtain ⟨x,R',rfl⟩:∃ y r,R=y::r:=by
    cases R with
    | nil=>simp at hRl;omega
    | cons y r=>exact ⟨y,r,rfl⟩
   obtain ⟨a0,l0,c0,M0,LR',hLR,hS⟩:=peelL HR.out.2.2.2.1 HR.out.2.2.2.2;have SH:Hid (∀ V,Lk wr V→(V.cell? ⟨g,j,none⟩=some (.slice a0 l0 c0)∧ShS V 1 a0 l0 (encTys x.cons) M0)∧ShG V (encLays R') g ((j+1)) LR'∧Pl V g):=hS;have HL:Hid (LR=M0++LR'):=hLR;clear hS hLR
   have hlen:(LR.length:Int)=(M0.length:Int)+(LR'.length:Int):=by
    rw[HL.out];simp only[lA,lB,lC];(try push_cast);omega
   simp only[lB] at hRl;have PR:Hid (Wr w wr (LD) k0∧Lk wr wr):=⟨HR.out.2.2.1,⟨fun _ _ _ _ _ h=>h,fun _ _ _ n h=>⟨n,h⟩,fun _ h=>h⟩⟩;have KC:Hid (kj=k0+LD.length∧L=LD++LR):=⟨HR.out.2.1,HR.out.1⟩;clear HR;have hc0:=(SH.out wr PR.out.2).1;have CC:Hid _:=markGU (x.cons) a0 l0 c0 M0 (kj) wr hc0.2 (by have h9:=HU.out;rw[KC.out.2,HL.out] at h9;exact Uni.left (L2:=LR') (Uni.right (L1:=LD) (by simpa using h9))) (by omega) (by omega);have hh0:=hc0.1;clear hc0;go_wp2_with fail;refine Calls.mono CC.out ?_;rintro e u0 ⟨rfl,hw⟩;have PR2:Hid (Wr w u0 (LD++M0) k0∧Lk wr u0):=⟨Wr.app PR.out.1 hw (by have:=KC.out.1;(try simp only[lA,lB,lC]);(try push_cast);omega) (Uni.left (L2:=LR') (by have h9:=HU.out;rw[KC.out.2,HL.out] at h9;simpa using h9)),PR.out.2.trans hw.lk⟩;clear PR CC hw hh0;have PR:Hid _:=PR2.out;clear PR2;simp only[]
   have hfin:(kj+(M0.length:Int))+(LR'.length:Int)=k0+L.length:=by omega
   have HN:Hid (L=(LD++M0)++LR'∧(kj+(M0.length:Int))=k0+((LD++M0).length:Int)∧Wr w u0 (LD++M0) k0∧ShG u0 (encLays R') g ((j+1)) LR'∧Pl u0 g):=⟨by rw[KC.out.2,HL.out];simp,by have:=KC.out.1;(try simp only[lA,lB,lC]);(try push_cast);omega,PR.out.1,((SH.out _ PR.out.2).2).1,((SH.out _ PR.out.2).2).2⟩;clear PR SH HL KC;go_wp2;go_roundw
   case rel=>exact ⟨j+1,R',_,LR',_,by omega,by go_num,rfl,by omega,hfin,by omega,HN⟩
   case measure=>simp [intOf];omega
  ·
   obtain rfl:j=l:=by omega
   obtain rfl:R=[]:=lz0 (by omega);have hr0:LR=[]:=HR.out.2.2.2.1;subst hr0;have HF:Hid (Wr w wr L k0∧kj=k0+(L.length:Int)):=⟨by have h9:=HR.out.1;rw[List.append_nil] at h9;rw[h9];exact HR.out.2.2.1,by simpa using hjk⟩;clear HR hjk;go_wp2;go_ret;exact ⟨by rw[← HF.out.2];rfl,HF.out.1⟩
theorem heldGL (xs:List RLayout) (a:Option Addr) (l c:Nat) (L:List Adr) (k0:Int) (w:World) (h:ShS w 1 a l (encLays xs) L) (hH:Hl w L k0) (hk0:0≤k0) (hk1:k0+L.length≤4611686018427387904) :
  Calls Tryz.prog 26 #[.slice a l c,.int .i64 k0] w fun e u=>e = .returned (.int .i64 (k0+L.length))∧w.grownBy u none:=by
 obtain ⟨h1,h2,h3⟩:=h;rw[encLays_len] at h1
 have hxl:xs.length=l:=by omega
 rcases h3 with ⟨rfl,hd,rfl⟩|⟨g,hp,rfl,hpl,hsh⟩
 ·
  go_enter Tryz.func26,Tryz.ntmps26;go_wp2;refine wp_loop_rounds 1 ?_;rw[rounds_succ];go_wp2;go_ret;exact ⟨by simp,grf _ _⟩
 have HH:Hid (Hl w L k0):=hH;clear hH;have H0:Hid (ShG w (encLays xs) g 0 L∧Pl w g):=⟨hsh,hpl⟩;clear hsh hpl h1;go_enter Tryz.func26,Tryz.ntmps26;go_wp2
 go_loopw [1,5] (fun v i wr=>∃ (j:Nat) (R:List RLayout) (LD LR:List Adr) (kj:Int),j≤l∧i = .int .i64 j∧v = .int .i64 kj∧0≤kj∧kj+LR.length=k0+L.length∧R.length+j=l∧Hid (L=LD++LR∧kj=k0+LD.length∧w.grownBy wr none∧Hl wr LR kj∧ShG wr (encLays R) g (j) LR∧Pl wr g)) (fun _ i _=>l - (intOf i).toNat)
 case atStart=>exact ⟨0,xs,[],L,k0,Nat.zero_le _,rfl,rfl,hk0,rfl,by omega,⟨rfl,by simp,grf _ _,HH.out,by simpa using H0.out.1,H0.out.2⟩⟩
 case round =>
  obtain ⟨j,R,LD,LR,kj,hj,rfl,rfl,hj0,hjk,hRl,HR⟩:=hrel;clear H0;by_cases hlt:j < l
  ·
   obtain ⟨x,R',rfl⟩:∃ y r,R=y::r:=by
    cases R with
    | nil=>simp at hRl;omega
    | cons y r=>exact ⟨y,r,rfl⟩
   obtain ⟨a0,l0,c0,M0,LR',hLR,hS⟩:=peelL HR.out.2.2.2.2.1 HR.out.2.2.2.2.2;have SH:Hid (∀ V,Lk wr V→(V.cell? ⟨g,j,none⟩=some (.slice a0 l0 c0)∧ShS V 1 a0 l0 (encTys x.cons) M0)∧ShG V (encLays R') g ((j+1)) LR'∧Pl V g):=hS;have HL:Hid (LR=M0++LR'):=hLR;clear hS hLR
   have hlen:(LR.length:Int)=(M0.length:Int)+(LR'.length:Int):=by
    rw[HL.out];simp only[lA,lB,lC];(try push_cast);omega
   simp only[lB] at hRl;have PR:Hid (w.grownBy wr none∧Lk wr wr∧Hl wr LR kj):=⟨HR.out.2.2.1,⟨fun _ _ _ _ _ h=>h,fun _ _ _ n h=>⟨n,h⟩,fun _ h=>h⟩,HR.out.2.2.2.1⟩;have KC:Hid (kj=k0+LD.length∧L=LD++LR):=⟨HR.out.2.1,HR.out.1⟩;clear HR;have hc0:=(SH.out wr PR.out.2.1).1
   have CC:Hid _:=heldGU (x.cons) a0 l0 c0 M0 (kj) wr hc0.2 (by
    have h9:=PR.out.2.2;rw[HL.out] at h9;have h7:=h9;have h5:=Hl.left (L1:=M0) (L2:=LR') (k:=kj) (by simpa using h7)
    exact h5) (by omega) (by omega)
   have hh0:=hc0.1;clear hc0;go_wp2_with fail;refine Calls.mono CC.out ?_;rintro e u0 ⟨rfl,hw⟩;have PR2:Hid (w.grownBy u0 none∧Lk wr u0∧Hl u0 LR kj):=⟨gtr PR.out.1 hw,PR.out.2.1.trans (Lk.quiet hw),PR.out.2.2.old hw⟩;clear PR CC hw hh0;have PR:Hid _:=PR2.out;clear PR2;simp only[]
   have hng1:¬ (kj+(M0.length:Int)) < 0:=by omega
   have hfin:(kj+(M0.length:Int))+(LR'.length:Int)=k0+L.length:=by omega
   have HN:Hid (L=(LD++M0)++LR'∧(kj+(M0.length:Int))=k0+((LD++M0).length:Int)∧(w.grownBy u0 none∧Hl u0 LR' (kj+(M0.length:Int)))∧ShG u0 (encLays R') g ((j+1)) LR'∧Pl u0 g):=⟨by rw[KC.out.2,HL.out];simp,by have:=KC.out.1;(try simp only[lA,lB,lC]);(try push_cast);omega,⟨PR.out.1,by
    have h9:=PR.out.2.2;rw[HL.out] at h9;have h7:=Hl.right (L1:=M0) (L2:=LR') (by simpa using h9);rw[show (kj+(M0.length:Int):Int)=kj+((M0).length:Int) by first|rfl|omega | ((try simp only[lA,lB,lC]);(try push_cast);omega)]
    exact h7⟩,((SH.out _ PR.out.2.1).2).1,((SH.out _ PR.out.2.1).2).2⟩
   clear PR SH HL KC;go_wp2;go_roundw
   case rel=>exact ⟨j+1,R',_,LR',_,by omega,by go_num,rfl,by omega,hfin,by omega,⟨HN.out.1,HN.out.2.1,HN.out.2.2.1.1,HN.out.2.2.1.2,HN.out.2.2.2⟩⟩
   case measure=>simp [intOf];omega
  ·
   obtain rfl:j=l:=by omega
   obtain rfl:R=[]:=lz0 (by omega);have hr0:LR=[]:=HR.out.2.2.2.2.1;subst hr0;have HF:Hid (w.grownBy wr none∧kj=k0+(L.length:Int)):=⟨HR.out.2.2.1,by simpa using hjk⟩;clear HR hjk;go_wp2;go_ret;exact ⟨by rw[← HF.out.2];rfl,HF.out.1⟩
def ShP (w:World) (x:RProg) (a1:Option Addr) (l1:Nat) (a2:Option Addr) (l2:Nat) (a3:Option Addr) (l3:Nat) (L1 L2 L3:List Adr):Prop :=
 ShS w 1 a1 l1 (encLays x.lays) L1∧ShS w 9 a2 l2 (encBlks x.blks) L2∧ShS w 1 a3 l3 (encI x.caps) L3
theorem ShP.lk {w u:World} {x:RProg} {a1 a2 a3:Option Addr} {l1 l2 l3:Nat} {L1 L2 L3:List Adr} (h:ShP w x a1 l1 a2 l2 a3 l3 L1 L2 L3) (k:Lk w u):ShP u x a1 l1 a2 l2 a3 l3 L1 L2 L3:=⟨h.1.lk k,h.2.1.lk k,h.2.2.lk k⟩
theorem markPg (x:RProg) (a1:Option Addr) (l1 c1:Nat) (a2:Option Addr) (l2 c2:Nat) (a3:Option Addr) (l3 c3:Nat) (L1 L2 L3:List Adr) (w:World) (h:ShP w x a1 l1 a2 l2 a3 l3 L1 L2 L3) (hU:Uni (L1++L2++L3)) (hk:((L1++L2++L3).length:Int)≤1000000000) :
  Calls Tryz.prog 10 #[.agg #[.slice a1 l1 c1,.slice a2 l2 c2,.slice a3 l3 c3],.int .i64 1] w fun e u=>e = .returned (.int .i64 (1+(L1++L2++L3).length))∧Wr w u (L1++L2++L3) 1:=by
 have ga:=gal w (.cells #[.slice a1 l1 c1,.slice a2 l2 c2,.slice a3 l3 c3] 27) none;have ba:=hnw w (.cells #[.slice a1 l1 c1,.slice a2 l2 c2,.slice a3 l3 c3] 27)
 have SH:Hid (∀ V,Lk w V→ShP V x a1 l1 a2 l2 a3 l3 L1 L2 L3):=fun V hV=>h.lk hV
 have HU:Hid (Uni (L1++L2++L3)):=hU
 have HK:Hid ((L1.length:Int)+L2.length+L3.length≤1000000000):=by show _≤_;simp only[lA] at hk;push_cast at hk;omega
 have hk1:(L1.length:Int)≤1000000000:=by have:=HK.out;omega
 have hk2:(L1.length:Int)+L2.length≤1000000000:=by have:=HK.out;omega
 have P0:Hid (Wr w (w.alloc (.cells #[.slice a1 l1 c1,.slice a2 l2 c2,.slice a3 l3 c3] 27)) [] 1∧(w.alloc (.cells #[.slice a1 l1 c1,.slice a2 l2 c2,.slice a3 l3 c3] 27)).heap[w.heap.size]? = some (.cells #[.slice a1 l1 c1,.slice a2 l2 c2,.slice a3 l3 c3] 27)):=⟨Wr.quiet ga _,ba⟩
 have BX:Hid (∀ V,Lk (w.alloc (.cells #[.slice a1 l1 c1,.slice a2 l2 c2,.slice a3 l3 c3] 27)) V→V.cell? ⟨w.heap.size,0,none⟩=some (.slice a1 l1 c1)∧V.cell? ⟨w.heap.size,1,none⟩=some (.slice a2 l2 c2)∧V.cell? ⟨w.heap.size,2,none⟩=some (.slice a3 l3 c3)):=fun V hV=>by
  obtain ⟨⟨y0,y1,y2⟩,-⟩:=blkProg ba;exact ⟨hV.sl _ _ _ _ _ y0,hV.sl _ _ _ _ _ y1,hV.sl _ _ _ _ _ y2⟩
 have C1:Hid _:=markGL x.lays a1 l1 c1 L1 1 _ (SH.out _ P0.out.1.lk).1 (Uni.left (L2:=L2) (Uni.left HU.out)) (by omega) (by omega);obtain ⟨y0,y1,y2⟩:=BX.out _ ⟨fun _ _ _ _ _ h=>h,fun _ _ _ n h=>⟨n,h⟩,fun _ h=>h⟩;clear h hU hk ga ba;go_enter Tryz.func10,Tryz.ntmps10;go_wp2_with fail;refine Calls.mono C1.out ?_;rintro e u1 ⟨rfl,hw⟩;have P1:Hid (Wr w u1 L1 1∧Lk (w.alloc (.cells #[.slice a1 l1 c1,.slice a2 l2 c2,.slice a3 l3 c3] 27)) u1):=⟨by have:=Wr.app P0.out.1 hw (by simp) (by simpa using Uni.left (L2:=L2) (Uni.left HU.out));simpa using this,hw.lk⟩;clear C1 P0 hw y0 y1 y2;obtain ⟨y0,y1,y2⟩:=BX.out _ P1.out.2;have C2:Hid _:=markGK x.blks a2 l2 c2 L2 (1+L1.length) u1 (SH.out _ P1.out.1.lk).2.1 (Uni.right (L1:=L1) (Uni.left HU.out)) (by omega) (by omega);simp only[];go_wp2_with fail;refine Calls.mono C2.out ?_;rintro e u2 ⟨rfl,hw⟩;have P2:Hid (Wr w u2 (L1++L2) 1∧Lk (w.alloc (.cells #[.slice a1 l1 c1,.slice a2 l2 c2,.slice a3 l3 c3] 27)) u2):=⟨Wr.app P1.out.1 hw rfl (Uni.left HU.out),P1.out.2.trans hw.lk⟩
 clear C2 P1 hw y0 y1 y2;obtain ⟨y0,y1,y2⟩:=BX.out _ P2.out.2;have C3:Hid _:=markGI x.caps a3 l3 c3 L3 (1+L1.length+L2.length) u2 (SH.out _ P2.out.1.lk).2.2 (Uni.right HU.out) (by omega) (by have:=HK.out;omega);simp only[];go_wp2_with fail;refine Calls.mono C3.out ?_;rintro e u3 ⟨rfl,hw⟩;have P3:Hid (Wr w u3 (L1++L2++L3) 1):=Wr.app P2.out.1 hw (by simp;omega) HU.out;clear C3 P2 hw y0 y1 y2 BX SH;simp only[];go_wp2;go_ret;refine ⟨?_,P3.out⟩
 show Ending.returned (.int .i64 _)=_
 congr 2
 simp only[lA]
 push_cast
 omega
theorem heldPg (x:RProg) (a1:Option Addr) (l1 c1:Nat) (a2:Option Addr) (l2 c2:Nat) (a3:Option Addr) (l3 c3:Nat) (L1 L2 L3:List Adr) (w:World) (h:ShP w x a1 l1 a2 l2 a3 l3 L1 L2 L3) (hH:Hl w (L1++L2++L3) 1) (hk:((L1++L2++L3).length:Int)≤1000000000) :
  Calls Tryz.prog 11 #[.agg #[.slice a1 l1 c1,.slice a2 l2 c2,.slice a3 l3 c3],.int .i64 1] w fun e u=>e = .returned (.int .i64 (1+(L1++L2++L3).length))∧w.grownBy u none:=by
 have ga:=gal w (.cells #[.slice a1 l1 c1,.slice a2 l2 c2,.slice a3 l3 c3] 27) none;have ba:=hnw w (.cells #[.slice a1 l1 c1,.slice a2 l2 c2,.slice a3 l3 c3] 27)
 have HK:Hid ((L1.length:Int)+L2.length+L3.length≤1000000000):=by show _≤_;simp only[lA] at hk;push_cast at hk;omega
 have hk1:(L1.length:Int)≤1000000000:=by have:=HK.out;omega
 have hk2:(L1.length:Int)+L2.length≤1000000000:=by have:=HK.out;omega
 have SH:Hid (∀ V,w.grownBy V none→ShP V x a1 l1 a2 l2 a3 l3 L1 L2 L3∧Hl V L1 1∧Hl V L2 (1+L1.length)∧Hl V L3 (1+L1.length+L2.length)):=fun V hV=>⟨h.lk (Lk.quiet hV),((hH.left).left).old hV,((hH.left).right).old hV,by
  have:=hH.right.old hV;rw[show (1:Int)+((L1++L2).length:Int)=1+L1.length+L2.length by simp only[lA];push_cast;omega] at this
  exact this⟩
 have P0:Hid (w.grownBy (w.alloc (.cells #[.slice a1 l1 c1,.slice a2 l2 c2,.slice a3 l3 c3] 27)) none∧(w.alloc (.cells #[.slice a1 l1 c1,.slice a2 l2 c2,.slice a3 l3 c3] 27)).heap[w.heap.size]? = some (.cells #[.slice a1 l1 c1,.slice a2 l2 c2,.slice a3 l3 c3] 27)):=⟨ga,ba⟩;have C1:Hid _:=heldGL x.lays a1 l1 c1 L1 1 _ (SH.out _ P0.out.1).1.1 (SH.out _ P0.out.1).2.1 (by omega) (by omega);obtain ⟨⟨y0,y1,y2⟩,-⟩:=blkProg ba;clear h hH hk ga ba;go_enter Tryz.func11,Tryz.ntmps11;go_wp2_with fail;refine Calls.mono C1.out ?_;rintro e u1 ⟨rfl,hg⟩;have P1:Hid (w.grownBy u1 none∧u1.heap[w.heap.size]? = some (.cells #[.slice a1 l1 c1,.slice a2 l2 c2,.slice a3 l3 c3] 27)):=⟨gtr P0.out.1 hg,(hg.block _ (lbk P0.out.2) (by simp)).trans P0.out.2⟩;clear C1 P0 hg y0 y1 y2;obtain ⟨⟨y0,y1,y2⟩,-⟩:=blkProg P1.out.2;have C2:Hid _:=heldGK x.blks a2 l2 c2 L2 (1+L1.length) u1 (SH.out _ P1.out.1).1.2.1 (SH.out _ P1.out.1).2.2.1 (by omega) (by omega)
 have n1:¬ ((1:Int)+L1.length < 0):=by omega
 (try simp only[])
 go_wp2_with fail;refine Calls.mono C2.out ?_;rintro e u2 ⟨rfl,hg⟩;have P2:Hid (w.grownBy u2 none∧u2.heap[w.heap.size]? = some (.cells #[.slice a1 l1 c1,.slice a2 l2 c2,.slice a3 l3 c3] 27)):=⟨gtr P1.out.1 hg,(hg.block _ (lbk P1.out.2) (by simp)).trans P1.out.2⟩;clear C2 P1 hg y0 y1 y2 n1;obtain ⟨⟨y0,y1,y2⟩,-⟩:=blkProg P2.out.2;have C3:Hid _:=heldGI x.caps a3 l3 c3 L3 (1+L1.length+L2.length) u2 (SH.out _ P2.out.1).1.2.2 (SH.out _ P2.out.1).2.2.2 (by omega) (by have:=HK.out;omega)
 have n2:¬ ((1:Int)+L1.length+L2.length < 0):=by omega
 (try simp only[])
 go_wp2_with fail;refine Calls.mono C3.out ?_;rintro e u3 ⟨rfl,hg⟩;have P3:Hid (w.grownBy u3 none):=gtr P2.out.1 hg;clear C3 P2 hg y0 y1 y2 SH n2
 have n3:¬ ((1:Int)+L1.length+L2.length+L3.length < 0):=by omega
 (try simp only[])
 go_wp2;go_ret;refine ⟨?_,P3.out⟩
 have hlen:(L1++L2++L3).length=L1.length+L2.length+L3.length:=by simp only[lA]
 show Ending.returned (.int .i64 _)=_
 congr 2
 first
 | omega
 | (rw[hlen];push_cast;omega)
 | ((try simp only[lA]);(try push_cast);omega)
def G.nums:G→Nat
 | .nil=>0
 | .num _ _ r=>1+r.nums
 | .sl _ d r=>d.nums+r.nums
theorem ShG.nums {w:World} {f:G}:∀ {b off:Nat} {L:List Adr},ShG w f b off L→L.length=f.nums:=by
 induction f with
 | nil=>intro b off L h;rw[show L=[] from h];rfl
 | num k n r ih =>
  intro b off L h;obtain ⟨L',rfl,_,hr⟩:=h;have:=ih hr;simp only[lB,G.nums];omega
 | sl s d r ihd ihr =>
  intro b off L h;obtain ⟨L1,L2,rfl,⟨a,l,c,h0,h1,h2,h3⟩,hr⟩:=h;have e2:=ihr hr
  have e1:L1.length=d.nums:=by
   rcases h3 with ⟨_,rfl,rfl⟩|⟨g,hp,e1,hg,h3⟩
   ·
    rfl
   ·
    exact ihd h3
  simp only[lA,G.nums];omega
theorem ShS.nums {w:World} {s:Nat} {a:Option Addr} {l:Nat} {d:G} {L:List Adr} (h:ShS w s a l d L):L.length=d.nums:=by
 obtain ⟨_,_,h3⟩:=h;rcases h3 with ⟨_,rfl,rfl⟩|⟨g,hp,e1,hg,h3⟩
 ·
  rfl
 ·
  exact h3.nums
theorem encF_nums (f:F):(encF f).nums=2 * f.size:=by
 induction f with
 | nil=>rfl
 | cons k n d r ihd ihr=>simp only[encF,G.nums,F.size,ihd,ihr];omega
theorem encB_nums:∀ zs:List Int,(encB zs).nums=zs.length
 | []=>rfl
 | z::r=>by simp only[encB,G.nums,encB_nums r,lB];omega
theorem encI_nums:∀ zs:List Int,(encI zs).nums=zs.length
 | []=>rfl
 | z::r=>by simp only[encI,G.nums,encI_nums r,lB];omega
theorem encTys_nums:∀ xs:List F,(encTys xs).nums≤4 * szTyss xs
 | []=>Nat.le_refl _
 | x::r=>by have:=encTys_nums r;simp only[encTys,G.nums,encF_nums,szTyss];omega
theorem encLays_nums:∀ xs:List RLayout,(encLays xs).nums≤4 * szLayouts xs
 | []=>Nat.le_refl _
 | x::r=>by have:=encLays_nums r;have:=encTys_nums x.cons;simp only[encLays,G.nums,szLayouts,szLayout];omega
theorem encInss_nums:∀ xs:List RIns,(encInss xs).nums≤4 * szInss xs
 | []=>Nat.le_refl _
 | x::r=>by have:=encInss_nums r;simp only[encInss,G.nums,encB_nums,encI_nums,szInss,szIns];omega
theorem encBlks_nums:∀ xs:List RBlock,(encBlks xs).nums≤4 * szBlocks xs
 | []=>Nat.le_refl _
 | x::r=>by have:=encBlks_nums r;have:=encInss_nums x.code;simp only[encBlks,G.nums,encF_nums,szBlocks,szBlock];omega
theorem uni_app {L1 L2:List Adr} {b1 b2:List Nat} (h1:Uni L1) (h2:Uni L2) (m1:∀ x ∈ L1,x.1 ∈ b1) (m2:∀ x ∈ L2,x.1 ∈ b2) (hd:∀ x ∈ b1,∀ y ∈ b2,x≠y):Uni (L1++L2):=by
 unfold Uni at h1 h2 ⊢;rw[List.map_append,List.nodup_append];refine ⟨h1,h2,fun p hp q hq e=>?_⟩;subst e;obtain ⟨x,hx,e⟩:=List.mem_map.1 hp;obtain ⟨y,hy,e'⟩:=List.mem_map.1 hq;rw[← e'] at e;injection e with e1 e2;exact hd _ (m1 x hx) _ (m2 y hy) e1
theorem OwP.sh {w:World} {x:RProg} {a1 a2 a3:Option Addr} {l1 c1 l2 c2 l3 c3:Nat} {b1 b2 b3:List Nat} (h:OwP w x a1 l1 c1 a2 l2 c2 a3 l3 c3 b1 b2 b3) (hn:(b1++b2++b3).Nodup) (hs:szProg x≤30000) :
  ∃ L1 L2 L3,ShP w x a1 l1 a2 l2 a3 l3 L1 L2 L3∧Uni (L1++L2++L3)∧((L1++L2++L3).length:Int)≤120000∧∀ y ∈ L1++L2++L3,y.1 ∈ b1++b2++b3:=by
 obtain ⟨n12,n3,d3⟩:=List.nodup_append.1 hn;obtain ⟨n1,n2,d2⟩:=List.nodup_append.1 n12;obtain ⟨L1,s1,u1,m1⟩:=h.1.sh n1;obtain ⟨L2,s2,u2,m2⟩:=h.2.1.sh n2;obtain ⟨L3,s3,u3,m3⟩:=h.2.2.1.sh n3
 have m12:∀ x ∈ L1++L2,x.1 ∈ b1++b2:=fun x hx=>by
  rcases List.mem_append.1 hx with hx|hx
  ·
   exact List.mem_append_left _ (m1 x hx)
  ·
   exact List.mem_append_right _ (m2 x hx)
 refine ⟨L1,L2,L3,⟨s1,s2,s3⟩,uni_app (uni_app u1 u2 m1 m2 d2) u3 m12 m3 d3,?_,fun y hy=>?_⟩
 ·
  have e1:=s1.nums;have e2:=s2.nums;have e3:=s3.nums;have q1:=encLays_nums x.lays;have q2:=encBlks_nums x.blks;rw[encI_nums] at e3;unfold szProg at hs;simp only[lA]
  push_cast
  omega
 ·
  rcases List.mem_append.1 hy with hy|hy
  ·
   exact List.mem_append_left _ (m12 y hy)
  ·
   exact List.mem_append_right _ (m3 y hy)
theorem Wr.tn {w u:World} {L:List Adr} {k:Int} {bs:List Nat} (h:Wr w u L k) (hm:∀ y ∈ L,y.1 ∈ bs):Tn w u bs :=
 ⟨h.os,h.tape,h.output,h.size,fun i hi hn=>h.block i hi fun y hy e=>hn (by rw[← e];exact hm y hy)⟩
theorem Wr.hl {w u:World} {L:List Adr} {k:Int} (h:Wr w u L k):Hl u L k:=h.val
theorem OwP.old {w u:World} {x:RProg} {a1 a2 a3:Option Addr} {l1 c1 l2 c2 l3 c3:Nat} {b1 b2 b3:List Nat} (h:OwP w x a1 l1 c1 a2 l2 c2 a3 l3 c3 b1 b2 b3) (hg:w.grownBy u Option.none):OwP u x a1 l1 c1 a2 l2 c2 a3 l3 c3 b1 b2 b3:=⟨h.1.old hg,h.2.1.old hg,h.2.2.1.old hg,h.2.2.2⟩
theorem OwP.lt {w:World} {x:RProg} {a1 a2 a3:Option Addr} {l1 c1 l2 c2 l3 c3:Nat} {b1 b2 b3:List Nat} (h:OwP w x a1 l1 c1 a2 l2 c2 a3 l3 c3 b1 b2 b3):∀ y ∈ b1++b2++b3,y < w.heap.size:=by
 intro y hy;rcases List.mem_append.1 hy with hy|hy
 ·
  rcases List.mem_append.1 hy with hy|hy
  ·
   exact h.1.lt y hy
  ·
   exact h.2.1.lt y hy
 ·
  exact h.2.2.1.lt y hy
theorem OwP.tn {w u:World} {x:RProg} {a1 a2 a3:Option Addr} {l1 c1 l2 c2 l3 c3:Nat} {b1 b2 b3 bt:List Nat} (h:OwP w x a1 l1 c1 a2 l2 c2 a3 l3 c3 b1 b2 b3) (hg:Tn w u bt) (hne:∀ y ∈ b1++b2++b3,y ∉ bt):OwP u x a1 l1 c1 a2 l2 c2 a3 l3 c3 b1 b2 b3 :=
 ⟨h.1.tn hg fun y hy=>hne y (by simp [hy]),h.2.1.tn hg fun y hy=>hne y (by simp [hy]),h.2.2.1.tn hg fun y hy=>hne y (by simp [hy]),h.2.2.2⟩
theorem OwP.kept {w u:World} {x:RProg} {a1 a2 a3:Option Addr} {l1 c1 l2 c2 l3 c3:Nat} {b1 b2 b3:List Nat} {row:Nat} (h:OwP w x a1 l1 c1 a2 l2 c2 a3 l3 c3 b1 b2 b3) (hg:w.grownBy u (some row)) (hne:∀ y ∈ b1++b2++b3,y≠row):OwP u x a1 l1 c1 a2 l2 c2 a3 l3 c3 b1 b2 b3 :=
 ⟨h.1.kept hg fun y hy=>by simpa using hne y (by simp [hy]),h.2.1.kept hg fun y hy=>by simpa using hne y (by simp [hy]),h.2.2.1.kept hg fun y hy=>by simpa using hne y (by simp [hy]),h.2.2.2⟩
theorem lawCodeRead (a0:Option Addr) (n cap:Nat) (zs:List Int) (hz:Byt zs) (w:World) (hr:Reads w a0 n zs) (hF:OpsIn w) :
  Calls Tryz.prog 3 #[.slice a0 n cap] w fun e u=>e = .returned (.bool true)∧w.grownBy u none:=by
 by_cases hs:n≤1048576
 rotate_left
 ·
  have hs':(1048576:Int) < n:=by omega
  clear hr hF;go_enter Tryz.func3,Tryz.ntmps3;go_wp2;go_ret;exact ⟨rfl,grf _ _⟩
 have hs':¬ ((1048576:Int) < n):=by omega
 have hlen:=hr.1;have HD:Hid (Reads w a0 n zs):=hr
 have HF:Hid (∀ u,w.grownBy u none→OpsIn u):=fun u hu=>hF.none hu
 have C1:Hid _:=toB a0 n cap zs w hr hs;have hsz:=rd_size hz
 have CSp:Hid (∀ (g5:Nat) (u:World),Row u g5 n zs→_):=fun g5 u h5=>specReadT g5 n zs u h5 hlen hz hs
 have CIm:Hid (∀ (g5:Nat) (u:World),Row u g5 n zs→OpsIn u→_):=fun g5 u h5 h6=>implReadT g5 n zs u h5 hlen hz hs h6
 rw[(rd_eq hz).1,(rd_eq hz).2] at CSp;generalize rdX (parI zs) zs=X at *;generalize rdOk (parI zs) zs=bv at *;clear hr hF;go_enter Tryz.func3,Tryz.ntmps3;go_wp2_with fail;refine Calls.mono C1.out ?_;rintro e w1 ⟨g1,rfl,hg,hb1,hrow1⟩;have L1:Hid ((w.grownBy w1 none)∧(Row w1 g1 n zs)):=⟨hg,hrow1⟩;clear hg hb1 hrow1 C1;simp only[];go_wp2_with fail;refine Calls.mono (CSp.out g1 w1 (L1.out.2)) ?_;rintro e w2 ⟨aw1,cw1,aw2,cw2,aw3,cw3,bw1,bw2,bw3,he,hg,hw,hnn,hbb⟩;subst he;have ga:=gal w2 (.cells #[.slice aw1 X.lays.length cw1,.slice aw2 X.blks.length cw2,.slice aw3 X.caps.length cw3] 27) none;have ba:=hnw w2 (.cells #[.slice aw1 X.lays.length cw1,.slice aw2 X.blks.length cw2,.slice aw3 X.caps.length cw3] 27);have hgg:=gtr hg ga;have L2:Hid ((w.grownBy (w2.alloc (.cells #[.slice aw1 X.lays.length cw1,.slice aw2 X.blks.length cw2,.slice aw3 X.caps.length cw3] 27)) none)∧((w2.alloc (.cells #[.slice aw1 X.lays.length cw1,.slice aw2 X.blks.length cw2,.slice aw3 X.caps.length cw3] 27)).heap[w2.heap.size]? = some (Obj.cells #[.slice aw1 X.lays.length cw1,.slice aw2 X.blks.length cw2,.slice aw3 X.caps.length cw3] 27))∧(OwP (w2.alloc (.cells #[.slice aw1 X.lays.length cw1,.slice aw2 X.blks.length cw2,.slice aw3 X.caps.length cw3] 27)) X aw1 X.lays.length cw1 aw2 X.blks.length cw2 aw3 X.caps.length cw3 bw1 bw2 bw3)∧(∀ y ∈ bw1++bw2++bw3,y < w2.heap.size)∧(w.heap.size≤w2.heap.size)):=⟨gtr (L1.out.1) hgg,ba,hw.old ga,hw.lt,Nat.le_trans (L1.out.1).size hg.size⟩
 clear L1;clear hg ga ba hgg hw hnn hbb;simp only[];clear CSp;go_wp2_with fail;generalize (w2.alloc (.cells #[.slice aw1 X.lays.length cw1,.slice aw2 X.blks.length cw2,.slice aw3 X.caps.length cw3] 27))=u2 at *;generalize w2.heap.size=pw at *;refine Calls.mono (toB a0 n cap zs u2 (HD.out.none (L2.out.1)) hs) ?_;rintro e w3 ⟨gx,rfl,hg,hb3,hrow3⟩;have L3:Hid ((w.grownBy w3 none)∧(w3.heap[pw]? = some (Obj.cells #[.slice aw1 X.lays.length cw1,.slice aw2 X.blks.length cw2,.slice aw3 X.caps.length cw3] 27))∧(OwP w3 X aw1 X.lays.length cw1 aw2 X.blks.length cw2 aw3 X.caps.length cw3 bw1 bw2 bw3)∧(∀ y ∈ bw1++bw2++bw3,y < pw)∧(w.heap.size≤pw)∧(Row w3 gx n zs)∧(pw < gx)):=⟨gtr (L2.out.1) hg,(World.grownBy.block hg _ (lbk (L2.out.2.1)) (by simp)).trans (L2.out.2.1),OwP.old (L2.out.2.2.1) hg,L2.out.2.2.2.1,L2.out.2.2.2.2,hrow3,Nat.lt_of_lt_of_le (lbk (L2.out.2.1)) hb3⟩;clear L2;clear hg hb3 hrow3;simp only[]
 go_wp2_with fail;refine Calls.mono (CIm.out gx w3 (L3.out.2.2.2.2.2.1) (HF.out _ (L3.out.1))) ?_;rintro e w4 ⟨ag1,cg1,ag2,cg2,ag3,cg3,bg1,bg2,bg3,he,hg,hw,hnn,hbb⟩;subst he;have ga:=gal w4 (.cells #[.slice ag1 X.lays.length cg1,.slice ag2 X.blks.length cg2,.slice ag3 X.caps.length cg3] 27) none;have ba:=hnw w4 (.cells #[.slice ag1 X.lays.length cg1,.slice ag2 X.blks.length cg2,.slice ag3 X.caps.length cg3] 27);have hgg:=gtr hg ga;have L4:Hid ((w.grownBy (w4.alloc (.cells #[.slice ag1 X.lays.length cg1,.slice ag2 X.blks.length cg2,.slice ag3 X.caps.length cg3] 27)) none)∧((w4.alloc (.cells #[.slice ag1 X.lays.length cg1,.slice ag2 X.blks.length cg2,.slice ag3 X.caps.length cg3] 27)).heap[pw]? = some (Obj.cells #[.slice aw1 X.lays.length cw1,.slice aw2 X.blks.length cw2,.slice aw3 X.caps.length cw3] 27))∧(OwP (w4.alloc (.cells #[.slice ag1 X.lays.length cg1,.slice ag2 X.blks.length cg2,.slice ag3 X.caps.length cg3] 27)) X aw1 X.lays.length cw1 aw2 X.blks.length cw2 aw3 X.caps.length cw3 bw1 bw2 bw3)∧(∀ y ∈ bw1++bw2++bw3,y < pw)∧(w.heap.size≤pw)∧(Row (w4.alloc (.cells #[.slice ag1 X.lays.length cg1,.slice ag2 X.blks.length cg2,.slice ag3 X.caps.length cg3] 27)) gx n zs)∧(pw < gx)∧((w4.alloc (.cells #[.slice ag1 X.lays.length cg1,.slice ag2 X.blks.length cg2,.slice ag3 X.caps.length cg3] 27)).heap[w4.heap.size]? = some (Obj.cells #[.slice ag1 X.lays.length cg1,.slice ag2 X.blks.length cg2,.slice ag3 X.caps.length cg3] 27))∧(OwP (w4.alloc (.cells #[.slice ag1 X.lays.length cg1,.slice ag2 X.blks.length cg2,.slice ag3 X.caps.length cg3] 27)) X ag1 X.lays.length cg1 ag2 X.blks.length cg2 ag3 X.caps.length cg3 bg1 bg2 bg3)∧((bg1++bg2++bg3).Nodup)∧(∀ y ∈ bg1++bg2++bg3,gx < y∧y < w4.heap.size)∧(gx < w4.heap.size)):=⟨gtr (L3.out.1) hgg,(World.grownBy.block hgg _ (lbk (L3.out.2.1)) (by simp)).trans (L3.out.2.1),OwP.old (L3.out.2.2.1) hgg,L3.out.2.2.2.1,L3.out.2.2.2.2.1,Row.kept (L3.out.2.2.2.2.2.1) hgg (by simp),L3.out.2.2.2.2.2.2,ba,hw.old ga,hnn,fun y hy=>⟨Nat.lt_of_lt_of_le ((L3.out.2.2.2.2.2.1).lt) (hbb y hy),hw.lt y hy⟩,Nat.lt_of_lt_of_le ((L3.out.2.2.2.2.2.1).lt) hg.size⟩
 clear L3;clear hg ga ba hgg hw hnn hbb;simp only[];obtain ⟨⟨x0_0,x0_1,x0_2⟩,-⟩:=three (L4.out.2.2.2.2.2.2.2.1);obtain ⟨⟨x1_0,x1_1,x1_2⟩,-⟩:=three (L4.out.2.1);go_wp2_with fail;generalize (w4.alloc (.cells #[.slice ag1 X.lays.length cg1,.slice ag2 X.blks.length cg2,.slice ag3 X.caps.length cg3] 27))=u4 at *;generalize w4.heap.size=pg at *;refine Calls.mono (eqProgT X ag1 aw1 X.lays.length cg1 cw1 ag2 aw2 X.blks.length cg2 cw2 ag3 aw3 X.caps.length cg3 cw3 u4 (OwP.rd (L4.out.2.2.2.2.2.2.2.2.1)) (OwP.rd (L4.out.2.2.1)) (by omega)) ?_;rintro e u5 ⟨rfl,hg⟩;have L5:Hid ((w.grownBy u5 none)∧(u5.heap[pw]? = some (Obj.cells #[.slice aw1 X.lays.length cw1,.slice aw2 X.blks.length cw2,.slice aw3 X.caps.length cw3] 27))∧(OwP u5 X aw1 X.lays.length cw1 aw2 X.blks.length cw2 aw3 X.caps.length cw3 bw1 bw2 bw3)∧(∀ y ∈ bw1++bw2++bw3,y < pw)∧(w.heap.size≤pw)∧(Row u5 gx n zs)∧(pw < gx)∧(u5.heap[pg]? = some (Obj.cells #[.slice ag1 X.lays.length cg1,.slice ag2 X.blks.length cg2,.slice ag3 X.caps.length cg3] 27))∧(OwP u5 X ag1 X.lays.length cg1 ag2 X.blks.length cg2 ag3 X.caps.length cg3 bg1 bg2 bg3)∧((bg1++bg2++bg3).Nodup)∧(∀ y ∈ bg1++bg2++bg3,gx < y∧y < pg)∧(gx < pg)):=⟨gtr (L4.out.1) hg,(World.grownBy.block hg _ (lbk (L4.out.2.1)) (by simp)).trans (L4.out.2.1),OwP.old (L4.out.2.2.1) hg,L4.out.2.2.2.1,L4.out.2.2.2.2.1,Row.kept (L4.out.2.2.2.2.2.1) hg (by simp),L4.out.2.2.2.2.2.2.1,(World.grownBy.block hg _ (lbk (L4.out.2.2.2.2.2.2.2.1)) (by simp)).trans (L4.out.2.2.2.2.2.2.2.1),OwP.old (L4.out.2.2.2.2.2.2.2.2.1) hg,L4.out.2.2.2.2.2.2.2.2.2.1,L4.out.2.2.2.2.2.2.2.2.2.2.1,L4.out.2.2.2.2.2.2.2.2.2.2.2⟩
 clear L4 x0_0 x0_1 x0_2 x1_0 x1_1 x1_2;clear hg;simp only[];go_wp2_with fail;refine Calls.mono (toB a0 n cap zs u5 (HD.out.none (L5.out.1)) hs) ?_;rintro e u6 ⟨g6,rfl,hg,hb6,hrow6⟩;have L6:Hid ((w.grownBy u6 none)∧(u6.heap[pw]? = some (Obj.cells #[.slice aw1 X.lays.length cw1,.slice aw2 X.blks.length cw2,.slice aw3 X.caps.length cw3] 27))∧(OwP u6 X aw1 X.lays.length cw1 aw2 X.blks.length cw2 aw3 X.caps.length cw3 bw1 bw2 bw3)∧(∀ y ∈ bw1++bw2++bw3,y < pw)∧(w.heap.size≤pw)∧(Row u6 gx n zs)∧(pw < gx)∧(u6.heap[pg]? = some (Obj.cells #[.slice ag1 X.lays.length cg1,.slice ag2 X.blks.length cg2,.slice ag3 X.caps.length cg3] 27))∧(OwP u6 X ag1 X.lays.length cg1 ag2 X.blks.length cg2 ag3 X.caps.length cg3 bg1 bg2 bg3)∧((bg1++bg2++bg3).Nodup)∧(∀ y ∈ bg1++bg2++bg3,gx < y∧y < pg)∧(gx < pg)∧(Row u6 g6 n zs)):=⟨gtr (L5.out.1) hg,(World.grownBy.block hg _ (lbk (L5.out.2.1)) (by simp)).trans (L5.out.2.1),OwP.old (L5.out.2.2.1) hg,L5.out.2.2.2.1,L5.out.2.2.2.2.1,Row.kept (L5.out.2.2.2.2.2.1) hg (by simp),L5.out.2.2.2.2.2.2.1,(World.grownBy.block hg _ (lbk (L5.out.2.2.2.2.2.2.2.1)) (by simp)).trans (L5.out.2.2.2.2.2.2.2.1),OwP.old (L5.out.2.2.2.2.2.2.2.2.1) hg,L5.out.2.2.2.2.2.2.2.2.2.1,L5.out.2.2.2.2.2.2.2.2.2.2.1,L5.out.2.2.2.2.2.2.2.2.2.2.2,hrow6⟩
 clear L5;clear hg;simp only[];clear hb6 hrow6;go_wp2_with fail;refine Calls.mono (eqT _ _ n n n zs u6 ((L6.out.2.2.2.2.2.1).reads' hlen) ((L6.out.2.2.2.2.2.2.2.2.2.2.2.2).reads' hlen) (by omega)) ?_;rintro e u7 ⟨rfl,hq7⟩;have hg:=quiet hq7;clear hq7;have L7:Hid ((w.grownBy u7 none)∧(u7.heap[pw]? = some (Obj.cells #[.slice aw1 X.lays.length cw1,.slice aw2 X.blks.length cw2,.slice aw3 X.caps.length cw3] 27))∧(OwP u7 X aw1 X.lays.length cw1 aw2 X.blks.length cw2 aw3 X.caps.length cw3 bw1 bw2 bw3)∧(∀ y ∈ bw1++bw2++bw3,y < pw)∧(w.heap.size≤pw)∧(Row u7 gx n zs)∧(pw < gx)∧(u7.heap[pg]? = some (Obj.cells #[.slice ag1 X.lays.length cg1,.slice ag2 X.blks.length cg2,.slice ag3 X.caps.length cg3] 27))∧(OwP u7 X ag1 X.lays.length cg1 ag2 X.blks.length cg2 ag3 X.caps.length cg3 bg1 bg2 bg3)∧((bg1++bg2++bg3).Nodup)∧(∀ y ∈ bg1++bg2++bg3,gx < y∧y < pg)∧(gx < pg)):=⟨gtr (L6.out.1) hg,(World.grownBy.block hg _ (lbk (L6.out.2.1)) (by simp)).trans (L6.out.2.1),OwP.old (L6.out.2.2.1) hg,L6.out.2.2.2.1,L6.out.2.2.2.2.1,Row.kept (L6.out.2.2.2.2.2.1) hg (by simp),L6.out.2.2.2.2.2.2.1,(World.grownBy.block hg _ (lbk (L6.out.2.2.2.2.2.2.2.1)) (by simp)).trans (L6.out.2.2.2.2.2.2.2.1),OwP.old (L6.out.2.2.2.2.2.2.2.2.1) hg,L6.out.2.2.2.2.2.2.2.2.2.1,L6.out.2.2.2.2.2.2.2.2.2.2.1,L6.out.2.2.2.2.2.2.2.2.2.2.2.1⟩
 clear L6;clear hg;simp only[];go_wp2_with fail;refine Calls.mono (markT gx n n zs 1 u7 (L7.out.2.2.2.2.2.1) hlen (by omega) (by omega) (by omega)) ?_;rintro e u8 ⟨rfl,hg,-,-⟩;have qw:=L7.out.2.2.2.1;have o1:=L7.out.2.2.2.2.1;have o2:=L7.out.2.2.2.2.2.2.1;have qg:=L7.out.2.2.2.2.2.2.2.2.2.2.1;have o3:=L7.out.2.2.2.2.2.2.2.2.2.2.2;have L8:Hid ((w.grownBy u8 none)∧(u8.heap[pw]? = some (Obj.cells #[.slice aw1 X.lays.length cw1,.slice aw2 X.blks.length cw2,.slice aw3 X.caps.length cw3] 27))∧(OwP u8 X aw1 X.lays.length cw1 aw2 X.blks.length cw2 aw3 X.caps.length cw3 bw1 bw2 bw3)∧(∀ y ∈ bw1++bw2++bw3,y < pw)∧(w.heap.size≤pw)∧(pw < gx)∧(u8.heap[pg]? = some (Obj.cells #[.slice ag1 X.lays.length cg1,.slice ag2 X.blks.length cg2,.slice ag3 X.caps.length cg3] 27))∧(OwP u8 X ag1 X.lays.length cg1 ag2 X.blks.length cg2 ag3 X.caps.length cg3 bg1 bg2 bg3)∧((bg1++bg2++bg3).Nodup)∧(∀ y ∈ bg1++bg2++bg3,gx < y∧y < pg)∧(gx < pg)):=⟨grown_into (L7.out.1) hg (by omega),(hg.block _ (lbk (L7.out.2.1)) (by simp;omega)).trans (L7.out.2.1),OwP.kept (L7.out.2.2.1) hg (fun y hy=>by have:=qw y hy;omega),L7.out.2.2.2.1,L7.out.2.2.2.2.1,L7.out.2.2.2.2.2.2.1,(hg.block _ (lbk (L7.out.2.2.2.2.2.2.2.1)) (by simp;omega)).trans (L7.out.2.2.2.2.2.2.2.1),OwP.kept (L7.out.2.2.2.2.2.2.2.2.1) hg (fun y hy=>by have:=qg y hy;omega),L7.out.2.2.2.2.2.2.2.2.2.1,L7.out.2.2.2.2.2.2.2.2.2.2.1,L7.out.2.2.2.2.2.2.2.2.2.2.2⟩
 clear L7;clear qw o1 o2 qg o3;clear hg;simp only[]
 have hk1:decide ((1:Int)+n < 0)=false:=by simp;omega
 obtain ⟨⟨x2_0,x2_1,x2_2⟩,-⟩:=three (L8.out.2.2.2.2.2.2.1);obtain ⟨⟨x3_0,x3_1,x3_2⟩,-⟩:=three (L8.out.2.1);go_wp2_with fail;refine Calls.mono (eqProgT X ag1 aw1 X.lays.length cg1 cw1 ag2 aw2 X.blks.length cg2 cw2 ag3 aw3 X.caps.length cg3 cw3 u8 (OwP.rd (L8.out.2.2.2.2.2.2.2.1)) (OwP.rd (L8.out.2.2.1)) (by omega)) ?_;rintro e u9 ⟨rfl,hg⟩;have L9:Hid ((w.grownBy u9 none)∧(u9.heap[pw]? = some (Obj.cells #[.slice aw1 X.lays.length cw1,.slice aw2 X.blks.length cw2,.slice aw3 X.caps.length cw3] 27))∧(OwP u9 X aw1 X.lays.length cw1 aw2 X.blks.length cw2 aw3 X.caps.length cw3 bw1 bw2 bw3)∧(∀ y ∈ bw1++bw2++bw3,y < pw)∧(w.heap.size≤pw)∧(pw < gx)∧(u9.heap[pg]? = some (Obj.cells #[.slice ag1 X.lays.length cg1,.slice ag2 X.blks.length cg2,.slice ag3 X.caps.length cg3] 27))∧(OwP u9 X ag1 X.lays.length cg1 ag2 X.blks.length cg2 ag3 X.caps.length cg3 bg1 bg2 bg3)∧((bg1++bg2++bg3).Nodup)∧(∀ y ∈ bg1++bg2++bg3,gx < y∧y < pg)∧(gx < pg)):=⟨gtr (L8.out.1) hg,(World.grownBy.block hg _ (lbk (L8.out.2.1)) (by simp)).trans (L8.out.2.1),OwP.old (L8.out.2.2.1) hg,L8.out.2.2.2.1,L8.out.2.2.2.2.1,L8.out.2.2.2.2.2.1,(World.grownBy.block hg _ (lbk (L8.out.2.2.2.2.2.2.1)) (by simp)).trans (L8.out.2.2.2.2.2.2.1),OwP.old (L8.out.2.2.2.2.2.2.2.1) hg,L8.out.2.2.2.2.2.2.2.2.1,L8.out.2.2.2.2.2.2.2.2.2.1,L8.out.2.2.2.2.2.2.2.2.2.2⟩
 clear L8 x2_0 x2_1 x2_2 x3_0 x3_1 x3_2;clear hg;simp only[];clear hk1;obtain ⟨⟨x4_0,x4_1,x4_2⟩,-⟩:=three (L9.out.2.2.2.2.2.2.1);go_wp2_with fail;obtain ⟨M1,M2,M3,hsh,huni,hml,hmem⟩:=OwP.sh (L9.out.2.2.2.2.2.2.2.1) (L9.out.2.2.2.2.2.2.2.2.1) hsz;have CM:Hid _:=markPg X ag1 X.lays.length cg1 ag2 X.blks.length cg2 ag3 X.caps.length cg3 M1 M2 M3 u9 hsh huni (by omega)
 have CH:Hid (∀ v,ShP v X ag1 X.lays.length ag2 X.blks.length ag3 X.caps.length M1 M2 M3→Hl v (M1++M2++M3) 1→_):=fun v h1 h2=>heldPg X ag1 X.lays.length cg1 ag2 X.blks.length cg2 ag3 X.caps.length cg3 M1 M2 M3 v h1 h2 (by omega)
 generalize (M1++M2++M3).length=ml at CM CH hml;refine Calls.mono CM.out ?_;rintro e v1 ⟨rfl,hw9⟩;have ht:=hw9.tn hmem;have qw:=L9.out.2.2.2.1;have o1:=L9.out.2.2.2.2.1;have o2:=L9.out.2.2.2.2.2.1;have qg:=L9.out.2.2.2.2.2.2.2.2.2.1;have o3:=L9.out.2.2.2.2.2.2.2.2.2.2;have L10:Hid ((w.grownBy v1 none)∧(v1.heap[pw]? = some (Obj.cells #[.slice aw1 X.lays.length cw1,.slice aw2 X.blks.length cw2,.slice aw3 X.caps.length cw3] 27))∧(OwP v1 X aw1 X.lays.length cw1 aw2 X.blks.length cw2 aw3 X.caps.length cw3 bw1 bw2 bw3)∧(∀ y ∈ bw1++bw2++bw3,y < pw)∧(w.heap.size≤pw)∧(pw < gx)∧(v1.heap[pg]? = some (Obj.cells #[.slice ag1 X.lays.length cg1,.slice ag2 X.blks.length cg2,.slice ag3 X.caps.length cg3] 27))∧(∀ y ∈ bg1++bg2++bg3,gx < y∧y < pg)∧(gx < pg)∧(ShP v1 X ag1 X.lays.length ag2 X.blks.length ag3 X.caps.length M1 M2 M3)∧(Hl v1 (M1++M2++M3) 1)):=⟨Tn.fresh (L9.out.1) ht (fun x hx=>by have:=qg x hx;omega),(ht.block _ (lbk (L9.out.2.1)) (fun hx=>by have:=qg _ hx;omega)).trans (L9.out.2.1),OwP.tn (L9.out.2.2.1) ht (fun y hy hx=>by have h1:=qg y hx;have h2:=qw y hy;omega),L9.out.2.2.2.1,L9.out.2.2.2.2.1,L9.out.2.2.2.2.2.1,(ht.block _ (lbk (L9.out.2.2.2.2.2.2.1)) (fun hx=>by have:=qg _ hx;omega)).trans (L9.out.2.2.2.2.2.2.1),L9.out.2.2.2.2.2.2.2.2.2.1,L9.out.2.2.2.2.2.2.2.2.2.2,hsh.lk hw9.lk,hw9.hl⟩
 clear L9 x4_0 x4_1 x4_2;clear qw o1 o2 qg o3;clear ht hw9 hmem hsh huni CM;simp only[]
 have hq1':¬ ((1:Int)+ml < 0):=by omega
 obtain ⟨⟨x5_0,x5_1,x5_2⟩,-⟩:=three (L10.out.2.2.2.2.2.2.1);go_wp2_with fail;refine Calls.mono (CH.out v1 (L10.out.2.2.2.2.2.2.2.2.2.1) (L10.out.2.2.2.2.2.2.2.2.2.2)) ?_;rintro e v2 ⟨rfl,hg⟩;have L11:Hid ((w.grownBy v2 none)∧(v2.heap[pw]? = some (Obj.cells #[.slice aw1 X.lays.length cw1,.slice aw2 X.blks.length cw2,.slice aw3 X.caps.length cw3] 27))∧(OwP v2 X aw1 X.lays.length cw1 aw2 X.blks.length cw2 aw3 X.caps.length cw3 bw1 bw2 bw3)∧(∀ y ∈ bw1++bw2++bw3,y < pw)∧(w.heap.size≤pw)∧(pw < gx)∧(v2.heap[pg]? = some (Obj.cells #[.slice ag1 X.lays.length cg1,.slice ag2 X.blks.length cg2,.slice ag3 X.caps.length cg3] 27))∧(∀ y ∈ bg1++bg2++bg3,gx < y∧y < pg)∧(gx < pg)∧(ShP v2 X ag1 X.lays.length ag2 X.blks.length ag3 X.caps.length M1 M2 M3)∧(Hl v2 (M1++M2++M3) 1)):=⟨gtr (L10.out.1) hg,(World.grownBy.block hg _ (lbk (L10.out.2.1)) (by simp)).trans (L10.out.2.1),OwP.old (L10.out.2.2.1) hg,L10.out.2.2.2.1,L10.out.2.2.2.2.1,L10.out.2.2.2.2.2.1,(World.grownBy.block hg _ (lbk (L10.out.2.2.2.2.2.2.1)) (by simp)).trans (L10.out.2.2.2.2.2.2.1),L10.out.2.2.2.2.2.2.2.1,L10.out.2.2.2.2.2.2.2.2.1,ShP.lk (L10.out.2.2.2.2.2.2.2.2.2.1) (Lk.quiet hg),Hl.old (L10.out.2.2.2.2.2.2.2.2.2.2) hg⟩
 clear L10 x5_0 x5_1 x5_2;clear hg;simp only[];go_wp2_with fail;refine Calls.mono (toB a0 n cap zs v2 (HD.out.none (L11.out.1)) hs) ?_;rintro e v3 ⟨g3,rfl,hg,hb6,hrow6⟩;have L12:Hid ((w.grownBy v3 none)∧(v3.heap[pw]? = some (Obj.cells #[.slice aw1 X.lays.length cw1,.slice aw2 X.blks.length cw2,.slice aw3 X.caps.length cw3] 27))∧(OwP v3 X aw1 X.lays.length cw1 aw2 X.blks.length cw2 aw3 X.caps.length cw3 bw1 bw2 bw3)∧(∀ y ∈ bw1++bw2++bw3,y < pw)∧(w.heap.size≤pw)∧(pw < gx)∧(v3.heap[pg]? = some (Obj.cells #[.slice ag1 X.lays.length cg1,.slice ag2 X.blks.length cg2,.slice ag3 X.caps.length cg3] 27))∧(∀ y ∈ bg1++bg2++bg3,gx < y∧y < pg)∧(gx < pg)∧(ShP v3 X ag1 X.lays.length ag2 X.blks.length ag3 X.caps.length M1 M2 M3)∧(Hl v3 (M1++M2++M3) 1)∧(Row v3 g3 n zs)):=⟨gtr (L11.out.1) hg,(World.grownBy.block hg _ (lbk (L11.out.2.1)) (by simp)).trans (L11.out.2.1),OwP.old (L11.out.2.2.1) hg,L11.out.2.2.2.1,L11.out.2.2.2.2.1,L11.out.2.2.2.2.2.1,(World.grownBy.block hg _ (lbk (L11.out.2.2.2.2.2.2.1)) (by simp)).trans (L11.out.2.2.2.2.2.2.1),L11.out.2.2.2.2.2.2.2.1,L11.out.2.2.2.2.2.2.2.2.1,ShP.lk (L11.out.2.2.2.2.2.2.2.2.2.1) (Lk.quiet hg),Hl.old (L11.out.2.2.2.2.2.2.2.2.2.2) hg,hrow6⟩
 clear L11;clear hg;simp only[];clear hb6 hrow6;go_wp2_with fail;refine Calls.mono (CIm.out g3 v3 (L12.out.2.2.2.2.2.2.2.2.2.2.2) (HF.out _ (L12.out.1))) ?_;rintro e v4 ⟨ah1,ch1,ah2,ch2,ah3,ch3,bh1,bh2,bh3,he,hg,hw,hnn,hbb⟩;subst he;have ga:=gal v4 (.cells #[.slice ah1 X.lays.length ch1,.slice ah2 X.blks.length ch2,.slice ah3 X.caps.length ch3] 27) none;have ba:=hnw v4 (.cells #[.slice ah1 X.lays.length ch1,.slice ah2 X.blks.length ch2,.slice ah3 X.caps.length ch3] 27);have hgg:=gtr hg ga;have L13:Hid ((w.grownBy (v4.alloc (.cells #[.slice ah1 X.lays.length ch1,.slice ah2 X.blks.length ch2,.slice ah3 X.caps.length ch3] 27)) none)∧((v4.alloc (.cells #[.slice ah1 X.lays.length ch1,.slice ah2 X.blks.length ch2,.slice ah3 X.caps.length ch3] 27)).heap[pw]? = some (Obj.cells #[.slice aw1 X.lays.length cw1,.slice aw2 X.blks.length cw2,.slice aw3 X.caps.length cw3] 27))∧(OwP (v4.alloc (.cells #[.slice ah1 X.lays.length ch1,.slice ah2 X.blks.length ch2,.slice ah3 X.caps.length ch3] 27)) X aw1 X.lays.length cw1 aw2 X.blks.length cw2 aw3 X.caps.length cw3 bw1 bw2 bw3)∧(∀ y ∈ bw1++bw2++bw3,y < pw)∧(w.heap.size≤pw)∧(pw < gx)∧((v4.alloc (.cells #[.slice ah1 X.lays.length ch1,.slice ah2 X.blks.length ch2,.slice ah3 X.caps.length ch3] 27)).heap[pg]? = some (Obj.cells #[.slice ag1 X.lays.length cg1,.slice ag2 X.blks.length cg2,.slice ag3 X.caps.length cg3] 27))∧(∀ y ∈ bg1++bg2++bg3,gx < y∧y < pg)∧(gx < pg)∧(ShP (v4.alloc (.cells #[.slice ah1 X.lays.length ch1,.slice ah2 X.blks.length ch2,.slice ah3 X.caps.length ch3] 27)) X ag1 X.lays.length ag2 X.blks.length ag3 X.caps.length M1 M2 M3)∧(Hl (v4.alloc (.cells #[.slice ah1 X.lays.length ch1,.slice ah2 X.blks.length ch2,.slice ah3 X.caps.length ch3] 27)) (M1++M2++M3) 1)∧((v4.alloc (.cells #[.slice ah1 X.lays.length ch1,.slice ah2 X.blks.length ch2,.slice ah3 X.caps.length ch3] 27)).heap[v4.heap.size]? = some (Obj.cells #[.slice ah1 X.lays.length ch1,.slice ah2 X.blks.length ch2,.slice ah3 X.caps.length ch3] 27))∧(OwP (v4.alloc (.cells #[.slice ah1 X.lays.length ch1,.slice ah2 X.blks.length ch2,.slice ah3 X.caps.length ch3] 27)) X ah1 X.lays.length ch1 ah2 X.blks.length ch2 ah3 X.caps.length ch3 bh1 bh2 bh3)):=⟨gtr (L12.out.1) hgg,(World.grownBy.block hgg _ (lbk (L12.out.2.1)) (by simp)).trans (L12.out.2.1),OwP.old (L12.out.2.2.1) hgg,L12.out.2.2.2.1,L12.out.2.2.2.2.1,L12.out.2.2.2.2.2.1,(World.grownBy.block hgg _ (lbk (L12.out.2.2.2.2.2.2.1)) (by simp)).trans (L12.out.2.2.2.2.2.2.1),L12.out.2.2.2.2.2.2.2.1,L12.out.2.2.2.2.2.2.2.2.1,ShP.lk (L12.out.2.2.2.2.2.2.2.2.2.1) (Lk.quiet hgg),Hl.old (L12.out.2.2.2.2.2.2.2.2.2.2.1) hgg,ba,hw.old ga⟩
 clear L12;clear hg ga ba hgg hw hnn hbb;simp only[];obtain ⟨⟨x6_0,x6_1,x6_2⟩,-⟩:=three (L13.out.2.2.2.2.2.2.2.2.2.2.2.1);obtain ⟨⟨x7_0,x7_1,x7_2⟩,-⟩:=three (L13.out.2.1);go_wp2_with fail;generalize (v4.alloc (.cells #[.slice ah1 X.lays.length ch1,.slice ah2 X.blks.length ch2,.slice ah3 X.caps.length ch3] 27))=v5 at *;generalize v4.heap.size=ph at *;refine Calls.mono (eqProgT X ah1 aw1 X.lays.length ch1 cw1 ah2 aw2 X.blks.length ch2 cw2 ah3 aw3 X.caps.length ch3 cw3 v5 (OwP.rd (L13.out.2.2.2.2.2.2.2.2.2.2.2.2)) (OwP.rd (L13.out.2.2.1)) (by omega)) ?_;rintro e v6 ⟨rfl,hg⟩;have L14:Hid ((w.grownBy v6 none)∧(v6.heap[pw]? = some (Obj.cells #[.slice aw1 X.lays.length cw1,.slice aw2 X.blks.length cw2,.slice aw3 X.caps.length cw3] 27))∧(OwP v6 X aw1 X.lays.length cw1 aw2 X.blks.length cw2 aw3 X.caps.length cw3 bw1 bw2 bw3)∧(∀ y ∈ bw1++bw2++bw3,y < pw)∧(w.heap.size≤pw)∧(pw < gx)∧(v6.heap[pg]? = some (Obj.cells #[.slice ag1 X.lays.length cg1,.slice ag2 X.blks.length cg2,.slice ag3 X.caps.length cg3] 27))∧(∀ y ∈ bg1++bg2++bg3,gx < y∧y < pg)∧(gx < pg)∧(ShP v6 X ag1 X.lays.length ag2 X.blks.length ag3 X.caps.length M1 M2 M3)∧(Hl v6 (M1++M2++M3) 1)∧(v6.heap[ph]? = some (Obj.cells #[.slice ah1 X.lays.length ch1,.slice ah2 X.blks.length ch2,.slice ah3 X.caps.length ch3] 27))∧(OwP v6 X ah1 X.lays.length ch1 ah2 X.blks.length ch2 ah3 X.caps.length ch3 bh1 bh2 bh3)):=⟨gtr (L13.out.1) hg,(World.grownBy.block hg _ (lbk (L13.out.2.1)) (by simp)).trans (L13.out.2.1),OwP.old (L13.out.2.2.1) hg,L13.out.2.2.2.1,L13.out.2.2.2.2.1,L13.out.2.2.2.2.2.1,(World.grownBy.block hg _ (lbk (L13.out.2.2.2.2.2.2.1)) (by simp)).trans (L13.out.2.2.2.2.2.2.1),L13.out.2.2.2.2.2.2.2.1,L13.out.2.2.2.2.2.2.2.2.1,ShP.lk (L13.out.2.2.2.2.2.2.2.2.2.1) (Lk.quiet hg),Hl.old (L13.out.2.2.2.2.2.2.2.2.2.2.1) hg,(World.grownBy.block hg _ (lbk (L13.out.2.2.2.2.2.2.2.2.2.2.2.1)) (by simp)).trans (L13.out.2.2.2.2.2.2.2.2.2.2.2.1),OwP.old (L13.out.2.2.2.2.2.2.2.2.2.2.2.2) hg⟩
 clear L13 x6_0 x6_1 x6_2 x7_0 x7_1 x7_2;clear hg;simp only[];obtain ⟨⟨x8_0,x8_1,x8_2⟩,-⟩:=three (L14.out.2.2.2.2.2.2.1);go_wp2_with fail;refine Calls.mono (CH.out v6 (L14.out.2.2.2.2.2.2.2.2.2.1) (L14.out.2.2.2.2.2.2.2.2.2.2.1)) ?_;rintro e v7 ⟨rfl,hg⟩;have L15:Hid ((w.grownBy v7 none)∧(v7.heap[pw]? = some (Obj.cells #[.slice aw1 X.lays.length cw1,.slice aw2 X.blks.length cw2,.slice aw3 X.caps.length cw3] 27))∧(OwP v7 X aw1 X.lays.length cw1 aw2 X.blks.length cw2 aw3 X.caps.length cw3 bw1 bw2 bw3)∧(∀ y ∈ bw1++bw2++bw3,y < pw)∧(w.heap.size≤pw)∧(pw < gx)∧(v7.heap[pg]? = some (Obj.cells #[.slice ag1 X.lays.length cg1,.slice ag2 X.blks.length cg2,.slice ag3 X.caps.length cg3] 27))∧(∀ y ∈ bg1++bg2++bg3,gx < y∧y < pg)∧(gx < pg)∧(ShP v7 X ag1 X.lays.length ag2 X.blks.length ag3 X.caps.length M1 M2 M3)∧(Hl v7 (M1++M2++M3) 1)∧(v7.heap[ph]? = some (Obj.cells #[.slice ah1 X.lays.length ch1,.slice ah2 X.blks.length ch2,.slice ah3 X.caps.length ch3] 27))∧(OwP v7 X ah1 X.lays.length ch1 ah2 X.blks.length ch2 ah3 X.caps.length ch3 bh1 bh2 bh3)):=⟨gtr (L14.out.1) hg,(World.grownBy.block hg _ (lbk (L14.out.2.1)) (by simp)).trans (L14.out.2.1),OwP.old (L14.out.2.2.1) hg,L14.out.2.2.2.1,L14.out.2.2.2.2.1,L14.out.2.2.2.2.2.1,(World.grownBy.block hg _ (lbk (L14.out.2.2.2.2.2.2.1)) (by simp)).trans (L14.out.2.2.2.2.2.2.1),L14.out.2.2.2.2.2.2.2.1,L14.out.2.2.2.2.2.2.2.2.1,ShP.lk (L14.out.2.2.2.2.2.2.2.2.2.1) (Lk.quiet hg),Hl.old (L14.out.2.2.2.2.2.2.2.2.2.2.1) hg,(World.grownBy.block hg _ (lbk (L14.out.2.2.2.2.2.2.2.2.2.2.2.1)) (by simp)).trans (L14.out.2.2.2.2.2.2.2.2.2.2.2.1),OwP.old (L14.out.2.2.2.2.2.2.2.2.2.2.2.2) hg⟩
 clear L14 x8_0 x8_1 x8_2;clear hg;simp only[];go_wp2;go_ret;exact ⟨rfl,L15.out.1⟩
end Go.Proofs.YtnmlbeefjjohfaaGreatDoor.By
