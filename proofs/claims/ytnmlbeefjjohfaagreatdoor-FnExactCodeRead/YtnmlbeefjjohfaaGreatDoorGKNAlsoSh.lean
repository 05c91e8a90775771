/-
  No statement is proved here.
-/
import Derived.Test.YtnmlbeefjjohfaaGreatDoorGKTAlsoSh
namespace Go.Proofs.YtnmlbeefjjohfaaGreatDoor.By
open Go.IntKind (i64)
set_option maxRecDepth 100000
set_option maxHeartbeats 16000000
open Go.RowKit
set_option linter.unusedVariables false
set_option linter.unusedSimpArgs false
theorem peelB {w:World} {g j:Nat} {LR:List Adr} {z:Int} {R':List Int} (h:ShG w (encB (z::R')) g (j) LR) (hp:Pl w g) :
  ∃ LR':List Adr,LR=[(g,j,IntKind.u8)]++LR'∧∀ V,Lk w V→(∃ m,V.cell? ⟨g,j,none⟩=some (.int .u8 m))∧ShG V (encB R') g ((j+1)) LR'∧Pl V g:=by
 obtain ⟨K0,rfl,c0',h⟩:=h;refine ⟨K0,rfl,fun V hV=>?_⟩;have hn:ShG w (encB R') g (j+1) K0:=h;exact ⟨(by obtain ⟨m,hm⟩:=c0';exact hV.num _ _ _ _ hm),hn.lk hV,hV.pl g hp⟩
theorem markGB (xs:List Int) (a:Option Addr) (l c:Nat) (L:List Adr) (k0:Int) (w:World) (h:ShS w 1 a l (encB xs) L) (hU:Uni L) (hk0:0≤k0) (hk1:k0+L.length≤4611686018427387904) :
  Calls Tryz.prog 9 #[.slice a l c,.int .i64 k0] w fun e u=>e = .returned (.int .i64 (k0+L.length))∧Wr w u L k0:=by
 obtain ⟨h1,h2,h3⟩:=h;rw[encB_len] at h1
 have hxl:xs.length=l:=by omega
 rcases h3 with ⟨rfl,hd,rfl⟩|⟨g,hp,rfl,hpl,hsh⟩
 ·
  go_enter Tryz.func9,Tryz.ntmps9;go_wp2;refine wp_loop_rounds 1 ?_;rw[rounds_succ];go_wp2;go_ret;exact ⟨by simp,Wr.quiet (grf _ _) _⟩
 have HU:Hid (Uni L):=hU;clear hU;have H0:Hid (ShG w (encB xs) g 0 L∧Pl w g):=⟨hsh,hpl⟩;clear hsh hpl h1;go_enter Tryz.func9,Tryz.ntmps9;go_wp2
 go_loopw [1,5] (fun v i wr=>∃ (j:Nat) (R:List Int) (LD LR:List Adr) (kj:Int),j≤l∧i = .int .i64 j∧v = .int .i64 kj∧0≤kj∧kj+LR.length=k0+L.length∧R.length+j=l∧Hid (L=LD++LR∧kj=k0+LD.length∧Wr w wr LD k0∧ShG wr (encB R) g (j) LR∧Pl wr g)) (fun _ i _=>l - (intOf i).toNat)
 case atStart=>exact ⟨0,xs,[],L,k0,Nat.zero_le _,rfl,rfl,hk0,rfl,by omega,⟨rfl,by simp,Wr.quiet (grf _ _) _,by simpa using H0.out.1,H0.out.2⟩⟩
 case round =>
  obtain ⟨j,R,LD,LR,kj,hj,rfl,rfl,hj0,hjk,hRl,HR⟩:=hrel;clear H0;by_cases hlt:j < l
  ·
   obtain ⟨z,R',rfl⟩:∃ y r,R=y::r:=by
    cases R with
    | nil=>simp at hRl;omega
    | cons y r=>exact ⟨y,r,rfl⟩
   obtain ⟨LR',hLR,hS⟩:=peelB HR.out.2.2.2.1 HR.out.2.2.2.2;have SH:Hid (∀ V,Lk wr V→(∃ m,V.cell? ⟨g,j,none⟩=some (.int .u8 m))∧ShG V (encB R') g ((j+1)) LR'∧Pl V g):=hS;have HL:Hid (LR=[(g,j,IntKind.u8)]++LR'):=hLR;clear hS hLR
   have hlen:(LR.length:Int)=1+(LR'.length:Int):=by
    rw[HL.out];simp only[lA,lB,lC];(try push_cast);omega
   simp only[lB] at hRl;have PR:Hid (Wr w wr (LD) k0∧Lk wr wr):=⟨HR.out.2.2.1,⟨fun _ _ _ _ _ h=>h,fun _ _ _ n h=>⟨n,h⟩,fun _ h=>h⟩⟩;have KC:Hid (kj=k0+LD.length∧L=LD++LR):=⟨HR.out.2.1,HR.out.1⟩;clear HR;obtain ⟨m0,hm0⟩:=(SH.out wr PR.out.2).1;have fr0:wr.frozen? ⟨g,j,none⟩=false:=((SH.out wr PR.out.2).2).2.free _;have O0:Wr wr (wr.setCell ⟨g,j,none⟩ (.int .u8 ((kj) % 256))) [(g,j,IntKind.u8)] (kj):=Wr.one ((SH.out wr PR.out.2).2).2 hm0 _ _ (by rw[wrap8]);have PR2:Hid (Wr w (wr.setCell ⟨g,j,none⟩ (.int .u8 ((kj) % 256))) (LD++[(g,j,IntKind.u8)]) k0∧Lk wr (wr.setCell ⟨g,j,none⟩ (.int .u8 ((kj) % 256)))):=⟨Wr.app PR.out.1 O0 (by have:=KC.out.1;(try simp only[lA,lB,lC]);(try push_cast);omega) (Uni.left (L2:=LR') (by have h9:=HU.out;rw[KC.out.2,HL.out] at h9;simpa using h9)),PR.out.2.trans O0.lk⟩;clear PR O0;have PR:Hid _:=PR2.out;clear PR2
   -- world (wr.setCell ⟨g,j,none⟩ (.int .u8 ((kj) % 256)))
   have hfin:(kj+1)+(LR'.length:Int)=k0+L.length:=by omega
   have HN:Hid (L=(LD++[(g,j,IntKind.u8)])++LR'∧(kj+1)=k0+((LD++[(g,j,IntKind.u8)]).length:Int)∧Wr w (wr.setCell ⟨g,j,none⟩ (.int .u8 ((kj) % 256))) (LD++[(g,j,IntKind.u8)]) k0∧ShG (wr.setCell ⟨g,j,none⟩ (.int .u8 ((kj) % 256))) (encB R') g ((j+1)) LR'∧Pl (wr.setCell ⟨g,j,none⟩ (.int .u8 ((kj) % 256))) g):=⟨by rw[KC.out.2,HL.out];simp,by have:=KC.out.1;(try simp only[lA,lB,lC]);(try push_cast);omega,PR.out.1,((SH.out _ PR.out.2).2).1,((SH.out _ PR.out.2).2).2⟩;clear PR SH HL KC;go_wp2;go_roundw
   case rel=>exact ⟨j+1,R',_,LR',_,by omega,by go_num,rfl,by omega,hfin,by omega,HN⟩
   case measure=>simp [intOf];omega
  ·
   obtain rfl:j=l:=by omega
   obtain rfl:R=[]:=lz0 (by omega);have hr0:LR=[]:=HR.out.2.2.2.1;subst hr0;have HF:Hid (Wr w wr L k0∧kj=k0+(L.length:Int)):=⟨by have h9:=HR.out.1;rw[List.append_nil] at h9;rw[h9];exact HR.out.2.2.1,by simpa using hjk⟩;clear HR hjk;go_wp2;go_ret;exact ⟨by rw[← HF.out.2];rfl,HF.out.1⟩
theorem heldGB (xs:List Int) (a:Option Addr) (l c:Nat) (L:List Adr) (k0:Int) (w:World) (h:ShS w 1 a l (encB xs) L) (hH:Hl w L k0) (hk0:0≤k0) (hk1:k0+L.length≤4611686018427387904) :
  Calls Tryz.prog 74 #[.slice a l c,.int .i64 k0] w fun e u=>e = .returned (.int .i64 (k0+L.length))∧w.grownBy u none:=by
 obtain ⟨h1,h2,h3⟩:=h;rw[encB_len] at h1
 have hxl:xs.length=l:=by omega
 rcases h3 with ⟨rfl,hd,rfl⟩|⟨g,hp,rfl,hpl,hsh⟩
 ·
  go_enter Tryz.func74,Tryz.ntmps74;go_wp2;refine wp_loop_rounds 1 ?_;rw[rounds_succ];go_wp2;go_ret;exact ⟨by simp,grf _ _⟩
 have HH:Hid (Hl w L k0):=hH;clear hH;have H0:Hid (ShG w (encB xs) g 0 L∧Pl w g):=⟨hsh,hpl⟩;clear hsh hpl h1;go_enter Tryz.func74,Tryz.ntmps74;go_wp2
 go_loopw [1,5] (fun v i wr=>∃ (j:Nat) (R:List Int) (LD LR:List Adr) (kj:Int),j≤l∧i = .int .i64 j∧v = .int .i64 kj∧0≤kj∧kj+LR.length=k0+L.length∧R.length+j=l∧Hid (L=LD++LR∧kj=k0+LD.length∧w.grownBy wr none∧Hl wr LR kj∧ShG wr (encB R) g (j) LR∧Pl wr g)) (fun _ i _=>l - (intOf i).toNat)
 case atStart=>exact ⟨0,xs,[],L,k0,Nat.zero_le _,rfl,rfl,hk0,rfl,by omega,⟨rfl,by simp,grf _ _,HH.out,by simpa using H0.out.1,H0.out.2⟩⟩
 case round =>
  obtain ⟨j,R,LD,LR,kj,hj,rfl,rfl,hj0,hjk,hRl,HR⟩:=hrel;clear H0;by_cases hlt:j < l
  ·
   obtain ⟨z,R',rfl⟩:∃ y r,R=y::r:=by
    cases R with
    | nil=>simp at hRl;omega
    | cons y r=>exact ⟨y,r,rfl⟩
   obtain ⟨LR',hLR,hS⟩:=peelB HR.out.2.2.2.2.1 HR.out.2.2.2.2.2;have SH:Hid (∀ V,Lk wr V→(∃ m,V.cell? ⟨g,j,none⟩=some (.int .u8 m))∧ShG V (encB R') g ((j+1)) LR'∧Pl V g):=hS;have HL:Hid (LR=[(g,j,IntKind.u8)]++LR'):=hLR;clear hS hLR
   have hlen:(LR.length:Int)=1+(LR'.length:Int):=by
    rw[HL.out];simp only[lA,lB,lC];(try push_cast);omega
   simp only[lB] at hRl;have PR:Hid (w.grownBy wr none∧Lk wr wr∧Hl wr LR kj):=⟨HR.out.2.2.1,⟨fun _ _ _ _ _ h=>h,fun _ _ _ n h=>⟨n,h⟩,fun _ h=>h⟩,HR.out.2.2.2.1⟩;have KC:Hid (kj=k0+LD.length∧L=LD++LR):=⟨HR.out.2.1,HR.out.1⟩;clear HR;obtain ⟨m0,hm0⟩:=(SH.out wr PR.out.2.1).1
   have e0:wr.cell? ⟨g,j,none⟩=some (.int IntKind.u8 ((kj) % 256)):=by
    have h9:=PR.out.2.2;rw[HL.out] at h9
    have h8:=Hl.head (x:=(g,j,IntKind.u8)) (L:=LR') (k:=kj) (w:=wr) (by
     have h7:=h9
     simpa using h7)
    rw[wrap8] at h8;exact h8
   clear hm0
   have hfin:(kj+1)+(LR'.length:Int)=k0+L.length:=by omega
   have HN:Hid (L=(LD++[(g,j,IntKind.u8)])++LR'∧(kj+1)=k0+((LD++[(g,j,IntKind.u8)]).length:Int)∧(w.grownBy wr none∧Hl wr LR' (kj+1))∧ShG wr (encB R') g ((j+1)) LR'∧Pl wr g):=⟨by rw[KC.out.2,HL.out];simp,by have:=KC.out.1;(try simp only[lA,lB,lC]);(try push_cast);omega,⟨PR.out.1,by
    have h9:=PR.out.2.2;rw[HL.out] at h9;have h7:=Hl.right (L1:=[(g,j,IntKind.u8)]) (L2:=LR') (by simpa using h9);rw[show (kj+1:Int)=kj+(([(g,j,IntKind.u8)]).length:Int) by first|rfl|omega | ((try simp only[lA,lB,lC]);(try push_cast);omega)]
    exact h7⟩,((SH.out _ PR.out.2.1).2).1,((SH.out _ PR.out.2.1).2).2⟩
   clear PR SH HL KC;go_wp2;go_roundw
   case rel=>exact ⟨j+1,R',_,LR',_,by omega,by go_num,rfl,by omega,hfin,by omega,⟨HN.out.1,HN.out.2.1,HN.out.2.2.1.1,HN.out.2.2.1.2,HN.out.2.2.2⟩⟩
   case measure=>simp [intOf];omega
  ·
   obtain rfl:j=l:=by omega
   obtain rfl:R=[]:=lz0 (by omega);have hr0:LR=[]:=HR.out.2.2.2.2.1;subst hr0;have HF:Hid (w.grownBy wr none∧kj=k0+(L.length:Int)):=⟨HR.out.2.2.1,by simpa using hjk⟩;clear HR hjk;go_wp2;go_ret;exact ⟨by rw[← HF.out.2];rfl,HF.out.1⟩
theorem peelI {w:World} {g j:Nat} {LR:List Adr} {z:Int} {R':List Int} (h:ShG w (encI (z::R')) g (j) LR) (hp:Pl w g) :
  ∃ LR':List Adr,LR=[(g,j,i64)]++LR'∧∀ V,Lk w V→(∃ m,V.cell? ⟨g,j,none⟩=some (.int .i64 m))∧ShG V (encI R') g ((j+1)) LR'∧Pl V g:=by
 obtain ⟨K0,rfl,c0',h⟩:=h;refine ⟨K0,rfl,fun V hV=>?_⟩;have hn:ShG w (encI R') g (j+1) K0:=h;exact ⟨(by obtain ⟨m,hm⟩:=c0';exact hV.num _ _ _ _ hm),hn.lk hV,hV.pl g hp⟩
theorem markGI (xs:List Int) (a:Option Addr) (l c:Nat) (L:List Adr) (k0:Int) (w:World) (h:ShS w 1 a l (encI xs) L) (hU:Uni L) (hk0:0≤k0) (hk1:k0+L.length≤4611686018427387904) :
  Calls Tryz.prog 25 #[.slice a l c,.int .i64 k0] w fun e u=>e = .returned (.int .i64 (k0+L.length))∧Wr w u L k0:=by
 obtain ⟨h1,h2,h3⟩:=h;rw[encI_len] at h1
 have hxl:xs.length=l:=by omega
 rcases h3 with ⟨rfl,hd,rfl⟩|⟨g,hp,rfl,hpl,hsh⟩
 ·
  go_enter Tryz.func25,Tryz.ntmps25;go_wp2;refine wp_loop_rounds 1 ?_;rw[rounds_succ];go_wp2;go_ret;exact ⟨by simp,Wr.quiet (grf _ _) _⟩
 have HU:Hid (Uni L):=hU;clear hU;have H0:Hid (ShG w (encI xs) g 0 L∧Pl w g):=⟨hsh,hpl⟩;clear hsh hpl h1;go_enter Tryz.func25,Tryz.ntmps25;go_wp2
 go_loopw [1,5] (fun v i wr=>∃ (j:Nat) (R:List Int) (LD LR:List Adr) (kj:Int),j≤l∧i = .int .i64 j∧v = .int .i64 kj∧0≤kj∧kj+LR.length=k0+L.length∧R.length+j=l∧Hid (L=LD++LR∧kj=k0+LD.length∧Wr w wr LD k0∧ShG wr (encI R) g (j) LR∧Pl wr g)) (fun _ i _=>l - (intOf i).toNat)
 case atStart=>exact ⟨0,xs,[],L,k0,Nat.zero_le _,rfl,rfl,hk0,rfl,by omega,⟨rfl,by simp,Wr.quiet (grf _ _) _,by simpa using H0.out.1,H0.out.2⟩⟩
 case round =>
  obtain ⟨j,R,LD,LR,kj,hj,rfl,rfl,hj0,hjk,hRl,HR⟩:=hrel;clear H0;by_cases hlt:j < l
  ·
   obtain ⟨z,R',rfl⟩:∃ y r,R=y::r:=by
    cases R with
    | nil=>simp at hRl;omega
    | cons y r=>exact ⟨y,r,rfl⟩
   obtain ⟨LR',hLR,hS⟩:=peelI HR.out.2.2.2.1 HR.out.2.2.2.2;have SH:Hid (∀ V,Lk wr V→(∃ m,V.cell? ⟨g,j,none⟩=some (.int .i64 m))∧ShG V (encI R') g ((j+1)) LR'∧Pl V g):=hS;have HL:Hid (LR=[(g,j,i64)]++LR'):=hLR;clear hS hLR
   have hlen:(LR.length:Int)=1+(LR'.length:Int):=by
    rw[HL.out];simp only[lA,lB,lC];(try push_cast);omega
   simp only[lB] at hRl;have PR:Hid (Wr w wr (LD) k0∧Lk wr wr):=⟨HR.out.2.2.1,⟨fun _ _ _ _ _ h=>h,fun _ _ _ n h=>⟨n,h⟩,fun _ h=>h⟩⟩;have KC:Hid (kj=k0+LD.length∧L=LD++LR):=⟨HR.out.2.1,HR.out.1⟩;clear HR;obtain ⟨m0,hm0⟩:=(SH.out wr PR.out.2).1;have fr0:wr.frozen? ⟨g,j,none⟩=false:=((SH.out wr PR.out.2).2).2.free _;have O0:Wr wr (wr.setCell ⟨g,j,none⟩ (.int .i64 (kj))) [(g,j,i64)] (kj):=Wr.one ((SH.out wr PR.out.2).2).2 hm0 _ _ (by rw[IntWalk.i64_in _ (by omega)]);have PR2:Hid (Wr w (wr.setCell ⟨g,j,none⟩ (.int .i64 (kj))) (LD++[(g,j,i64)]) k0∧Lk wr (wr.setCell ⟨g,j,none⟩ (.int .i64 (kj)))):=⟨Wr.app PR.out.1 O0 (by have:=KC.out.1;(try simp only[lA,lB,lC]);(try push_cast);omega) (Uni.left (L2:=LR') (by have h9:=HU.out;rw[KC.out.2,HL.out] at h9;simpa using h9)),PR.out.2.trans O0.lk⟩;clear PR O0;have PR:Hid _:=PR2.out;clear PR2
   -- world (wr.setCell ⟨g,j,none⟩ (.int .i64 (kj)))
   have hfin:(kj+1)+(LR'.length:Int)=k0+L.length:=by omega
   have HN:Hid (L=(LD++[(g,j,i64)])++LR'∧(kj+1)=k0+((LD++[(g,j,i64)]).length:Int)∧Wr w (wr.setCell ⟨g,j,none⟩ (.int .i64 (kj))) (LD++[(g,j,i64)]) k0∧ShG (wr.setCell ⟨g,j,none⟩ (.int .i64 (kj))) (encI R') g ((j+1)) LR'∧Pl (wr.setCell ⟨g,j,none⟩ (.int .i64 (kj))) g):=⟨by rw[KC.out.2,HL.out];simp,by have:=KC.out.1;(try simp only[lA,lB,lC]);(try push_cast);omega,PR.out.1,((SH.out _ PR.out.2).2).1,((SH.out _ PR.out.2).2).2⟩;clear PR SH HL KC;go_wp2;go_roundw
   case rel=>exact ⟨j+1,R',_,LR',_,by omega,by go_num,rfl,by omega,hfin,by omega,HN⟩
   case measure=>simp [intOf];omega
  ·
   obtain rfl:j=l:=by omega
   obtain rfl:R=[]:=lz0 (by omega);have hr0:LR=[]:=HR.out.2.2.2.1;subst hr0;have HF:Hid (Wr w wr L k0∧kj=k0+(L.length:Int)):=⟨by have h9:=HR.out.1;rw[List.append_nil] at h9;rw[h9];exact HR.out.2.2.1,by simpa using hjk⟩;clear HR hjk;go_wp2;go_ret;exact ⟨by rw[← HF.out.2];rfl,HF.out.1⟩
theorem heldGI (xs:List Int) (a:Option Addr) (l c:Nat) (L:List Adr) (k0:Int) (w:World) (h:ShS w 1 a l (encI xs) L) (hH:Hl w L k0) (hk0:0≤k0) (hk1:k0+L.length≤4611686018427387904) :
  Calls Tryz.prog 28 #[.slice a l c,.int .i64 k0] w fun e u=>e = .returned (.int .i64 (k0+L.length))∧w.grownBy u none:=by
 obtain ⟨h1,h2,h3⟩:=h;rw[encI_len] at h1
 have hxl:xs.length=l:=by omega
 rcases h3 with ⟨rfl,hd,rfl⟩|⟨g,hp,rfl,hpl,hsh⟩
 ·
  go_enter Tryz.func28,Tryz.ntmps28;go_wp2;refine wp_loop_rounds 1 ?_;rw[rounds_succ];go_wp2;go_ret;exact ⟨by simp,grf _ _⟩
 have HH:Hid (Hl w L k0):=hH;clear hH;have H0:Hid (ShG w (encI xs) g 0 L∧Pl w g):=⟨hsh,hpl⟩;clear hsh hpl h1;go_enter Tryz.func28,Tryz.ntmps28;go_wp2
 go_loopw [1,5] (fun v i wr=>∃ (j:Nat) (R:List Int) (LD LR:List Adr) (kj:Int),j≤l∧i = .int .i64 j∧v = .int .i64 kj∧0≤kj∧kj+LR.length=k0+L.length∧R.length+j=l∧Hid (L=LD++LR∧kj=k0+LD.length∧w.grownBy wr none∧Hl wr LR kj∧ShG wr (encI R) g (j) LR∧Pl wr g)) (fun _ i _=>l - (intOf i).toNat)
 case atStart=>exact ⟨0,xs,[],L,k0,Nat.zero_le _,rfl,rfl,hk0,rfl,by omega,⟨rfl,by simp,grf _ _,HH.out,by simpa using H0.out.1,H0.out.2⟩⟩
 case round =>
  obtain ⟨j,R,LD,LR,kj,hj,rfl,rfl,hj0,hjk,hRl,HR⟩:=hrel;clear H0;by_cases hlt:j < l
  ·
   obtain ⟨z,R',rfl⟩:∃ y r,R=y::r:=by
    cases R with
    | nil=>simp at hRl;omega
    | cons y r=>exact ⟨y,r,rfl⟩
   obtain ⟨LR',hLR,hS⟩:=peelI HR.out.2.2.2.2.1 HR.out.2.2.2.2.2;have SH:Hid (∀ V,Lk wr V→(∃ m,V.cell? ⟨g,j,none⟩=some (.int .i64 m))∧ShG V (encI R') g ((j+1)) LR'∧Pl V g):=hS;have HL:Hid (LR=[(g,j,i64)]++LR'):=hLR;clear hS hLR
   have hlen:(LR.length:Int)=1+(LR'.length:Int):=by
    rw[HL.out];simp only[lA,lB,lC];(try push_cast);omega
   simp only[lB] at hRl;have PR:Hid (w.grownBy wr none∧Lk wr wr∧Hl wr LR kj):=⟨HR.out.2.2.1,⟨fun _ _ _ _ _ h=>h,fun _ _ _ n h=>⟨n,h⟩,fun _ h=>h⟩,HR.out.2.2.2.1⟩;have KC:Hid (kj=k0+LD.length∧L=LD++LR):=⟨HR.out.2.1,HR.out.1⟩;clear HR;obtain ⟨m0,hm0⟩:=(SH.out wr PR.out.2.1).1
   have e0:wr.cell? ⟨g,j,none⟩=some (.int i64 (kj)):=by
    have h9:=PR.out.2.2;rw[HL.out] at h9
    have h8:=Hl.head (x:=(g,j,i64)) (L:=LR') (k:=kj) (w:=wr) (by
     have h7:=h9
     simpa using h7)
    rw[IntWalk.i64_in _ (by omega)] at h8;exact h8
   clear hm0
   have hfin:(kj+1)+(LR'.length:Int)=k0+L.length:=by omega
   have HN:Hid (L=(LD++[(g,j,i64)])++LR'∧(kj+1)=k0+((LD++[(g,j,i64)]).length:Int)∧(w.grownBy wr none∧Hl wr LR' (kj+1))∧ShG wr (encI R') g ((j+1)) LR'∧Pl wr g):=⟨by rw[KC.out.2,HL.out];simp,by have:=KC.out.1;(try simp only[lA,lB,lC]);(try push_cast);omega,⟨PR.out.1,by
    have h9:=PR.out.2.2;rw[HL.out] at h9;have h7:=Hl.right (L1:=[(g,j,i64)]) (L2:=LR') (by simpa using h9);rw[show (kj+1:Int)=kj+(([(g,j,i64)]).length:Int) by first|rfl|omega | ((try simp only[lA,lB,lC]);(try push_cast);omega)]
    exact h7⟩,((SH.out _ PR.out.2.1).2).1,((SH.out _ PR.out.2.1).2).2⟩
   clear PR SH HL KC;go_wp2;go_roundw
   case rel=>exact ⟨j+1,R',_,LR',_,by omega,by go_num,rfl,by omega,hfin,by omega,⟨HN.out.1,HN.out.2.1,HN.out.2.2.1.1,HN.out.2.2.1.2,HN.out.2.2.2⟩⟩
   case measure=>simp [intOf];omega
  ·
   obtain rfl:j=l:=by omega
   obtain rfl:R=[]:=lz0 (by omega);have hr0:LR=[]:=HR.out.2.2.2.2.1;subst hr0;have HF:Hid (w.grownBy wr none∧kj=k0+(L.length:Int)):=⟨HR.out.2.2.1,by simpa using hjk⟩;clear HR hjk;go_wp2;go_ret;exact ⟨by rw[← HF.out.2];rfl,HF.out.1⟩
theorem peelN {w:World} {g j:Nat} {LR:List Adr} {x:RIns} {R':List RIns} (h:ShG w (encInss (x::R')) g (j * 5) LR) (hp:Pl w g) :
  ∃ (a3:Option Addr) (l3 c3:Nat) (M3:List Adr),∃ (a4:Option Addr) (l4 c4:Nat) (M4:List Adr),∃ LR':List Adr,LR=[(g,j * 5,i64)]++([(g,j * 5+1,i64)]++([(g,j * 5+2,i64)]++(M3++(M4++LR'))))∧∀ V,Lk w V→(∃ m,V.cell? ⟨g,j * 5,none⟩=some (.int .i64 m))∧(∃ m,V.cell? ⟨g,j * 5+1,none⟩=some (.int .i64 m))∧(∃ m,V.cell? ⟨g,j * 5+2,none⟩=some (.int .i64 m))∧(V.cell? ⟨g,j * 5+3,none⟩=some (.slice a3 l3 c3)∧ShS V 1 a3 l3 (encB x.lit) M3)∧(V.cell? ⟨g,j * 5+4,none⟩=some (.slice a4 l4 c4)∧ShS V 1 a4 l4 (encI x.tos) M4)∧ShG V (encInss R') g ((j+1) * 5) LR'∧Pl V g:=by
 obtain ⟨K0,rfl,c0',h⟩:=h;obtain ⟨K1,rfl,c1',h⟩:=h;obtain ⟨K2,rfl,c2',h⟩:=h;obtain ⟨M3,K3,a3,l3,c3,rfl,c3',s3',h⟩:=h.outS;obtain ⟨M4,K4,a4,l4,c4,rfl,c4',s4',h⟩:=h.outS;refine ⟨a3,l3,c3,M3,a4,l4,c4,M4,K4,rfl,fun V hV=>?_⟩
 have hn:ShG w (encInss R') g ((j+1) * 5) K4:=by
  rw[show (j+1) * 5=j * 5+1+1+1+1+1 by omega];exact h
 exact ⟨(by obtain ⟨m,hm⟩:=c0';exact hV.num _ _ _ _ hm),(by obtain ⟨m,hm⟩:=c1';exact hV.num _ _ _ _ hm),(by obtain ⟨m,hm⟩:=c2';exact hV.num _ _ _ _ hm),⟨hV.sl _ _ _ _ _ c3',s3'.lk hV⟩,⟨hV.sl _ _ _ _ _ c4',s4'.lk hV⟩,hn.lk hV,hV.pl g hp⟩
theorem markGN (xs:List RIns) (a:Option Addr) (l c:Nat) (L:List Adr) (k0:Int) (w:World) (h:ShS w 5 a l (encInss xs) L) (hU:Uni L) (hk0:0≤k0) (hk1:k0+L.length≤4611686018427387904) :
  Calls Tryz.prog 48 #[.slice a l c,.int .i64 k0] w fun e u=>e = .returned (.int .i64 (k0+L.length))∧Wr w u L k0:=by
 obtain ⟨h1,h2,h3⟩:=h;rw[encInss_len] at h1
 have hxl:xs.length=l:=by omega
 rcases h3 with ⟨rfl,hd,rfl⟩|⟨g,hp,rfl,hpl,hsh⟩
 ·
  go_enter Tryz.func48,Tryz.ntmps48;go_wp2;refine wp_loop_rounds 1 ?_;rw[rounds_succ];go_wp2;go_ret;exact ⟨by simp,Wr.quiet (grf _ _) _⟩
 have HU:Hid (Uni L):=hU;clear hU;have H0:Hid (ShG w (encInss xs) g 0 L∧Pl w g):=⟨hsh,hpl⟩;clear hsh hpl h1;go_enter Tryz.func48,Tryz.ntmps48;go_wp2
 go_loopw [1,5] (fun v i wr=>∃ (j:Nat) (R:List RIns) (LD LR:List Adr) (kj:Int),j≤l∧i = .int .i64 j∧v = .int .i64 kj∧0≤kj∧kj+LR.length=k0+L.length∧R.length+j=l∧Hid (L=LD++LR∧kj=k0+LD.length∧Wr w wr LD k0∧ShG wr (encInss R) g (j * 5) LR∧Pl wr g)) (fun _ i _=>l - (intOf i).toNat)
 case atStart=>exact ⟨0,xs,[],L,k0,Nat.zero_le _,rfl,rfl,hk0,rfl,by omega,⟨rfl,by simp,Wr.quiet (grf _ _) _,by simpa using H0.out.1,H0.out.2⟩⟩
 case round =>
  obtain ⟨j,R,LD,LR,kj,hj,rfl,rfl,hj0,hjk,hRl,HR⟩:=hrel;clear H0;by_cases hlt:j < l
  ·
   obtain ⟨x,R',rfl⟩:∃ y r,R=y::r:=by
    cases R with
    | nil=>simp at hRl;omega
    | cons y r=>exact ⟨y,r,rfl⟩
   obtain ⟨a3,l3,c3,M3,a4,l4,c4,M4,LR',hLR,hS⟩:=peelN HR.out.2.2.2.1 HR.out.2.2.2.2;have SH:Hid (∀ V,Lk wr V→(∃ m,V.cell? ⟨g,j * 5,none⟩=some (.int .i64 m))∧(∃ m,V.cell? ⟨g,j * 5+1,none⟩=some (.int .i64 m))∧(∃ m,V.cell? ⟨g,j * 5+2,none⟩=some (.int .i64 m))∧(V.cell? ⟨g,j * 5+3,none⟩=some (.slice a3 l3 c3)∧ShS V 1 a3 l3 (encB x.lit) M3)∧(V.cell? ⟨g,j * 5+4,none⟩=some (.slice a4 l4 c4)∧ShS V 1 a4 l4 (encI x.tos) M4)∧ShG V (encInss R') g ((j+1) * 5) LR'∧Pl V g):=hS;have HL:Hid (LR=[(g,j * 5,i64)]++([(g,j * 5+1,i64)]++([(g,j * 5+2,i64)]++(M3++(M4++LR'))))):=hLR;clear hS hLR
   have hlen:(LR.length:Int)=1+1+1+(M3.length:Int)+(M4.length:Int)+(LR'.length:Int):=by
    rw[HL.out];simp only[lA,lB,lC];(try push_cast);omega
   simp only[lB] at hRl;have PR:Hid (Wr w wr (LD) k0∧Lk wr wr):=⟨HR.out.2.2.1,⟨fun _ _ _ _ _ h=>h,fun _ _ _ n h=>⟨n,h⟩,fun _ h=>h⟩⟩;have KC:Hid (kj=k0+LD.length∧L=LD++LR):=⟨HR.out.2.1,HR.out.1⟩;clear HR;obtain ⟨m0,hm0⟩:=(SH.out wr PR.out.2).1;have fr0:wr.frozen? ⟨g,j * 5,none⟩=false:=((SH.out wr PR.out.2).2.2.2.2.2).2.free _;obtain ⟨m1,hm1⟩:=(SH.out wr PR.out.2).2.1;have fr1:wr.frozen? ⟨g,j * 5+1,none⟩=false:=((SH.out wr PR.out.2).2.2.2.2.2).2.free _;obtain ⟨m2,hm2⟩:=(SH.out wr PR.out.2).2.2.1;have fr2:wr.frozen? ⟨g,j * 5+2,none⟩=false:=((SH.out wr PR.out.2).2.2.2.2.2).2.free _;have O0:Wr wr (wr.setCell ⟨g,j * 5,none⟩ (.int .i64 (kj))) [(g,j * 5,i64)] (kj):=Wr.one ((SH.out wr PR.out.2).2.2.2.2.2).2 hm0 _ _ (by rw[IntWalk.i64_in _ (by omega)]);have PR2:Hid (Wr w (wr.setCell ⟨g,j * 5,none⟩ (.int .i64 (kj))) (LD++[(g,j * 5,i64)]) k0∧Lk wr (wr.setCell ⟨g,j * 5,none⟩ (.int .i64 (kj)))):=⟨Wr.app PR.out.1 O0 (by have:=KC.out.1;(try simp only[lA,lB,lC]);(try push_cast);omega) (Uni.left (L2:=[(g,j * 5+1,i64)]++[(g,j * 5+2,i64)]++M3++M4++LR') (by have h9:=HU.out;rw[KC.out.2,HL.out] at h9;simpa using h9)),PR.out.2.trans O0.lk⟩
   clear PR O0;have PR:Hid _:=PR2.out;clear PR2;obtain ⟨x1,hx1⟩:=(SH.out (wr.setCell ⟨g,j * 5,none⟩ (.int .i64 (kj))) PR.out.2).2.1;have O1:Wr (wr.setCell ⟨g,j * 5,none⟩ (.int .i64 (kj))) ((wr.setCell ⟨g,j * 5,none⟩ (.int .i64 (kj))).setCell ⟨g,j * 5+1,none⟩ (.int .i64 (kj+1))) [(g,j * 5+1,i64)] (kj+1):=Wr.one ((SH.out (wr.setCell ⟨g,j * 5,none⟩ (.int .i64 (kj))) PR.out.2).2.2.2.2.2).2 hx1 _ _ (by rw[IntWalk.i64_in _ (by omega)]);have PR2:Hid (Wr w ((wr.setCell ⟨g,j * 5,none⟩ (.int .i64 (kj))).setCell ⟨g,j * 5+1,none⟩ (.int .i64 (kj+1))) (LD++[(g,j * 5,i64)]++[(g,j * 5+1,i64)]) k0∧Lk wr ((wr.setCell ⟨g,j * 5,none⟩ (.int .i64 (kj))).setCell ⟨g,j * 5+1,none⟩ (.int .i64 (kj+1)))):=⟨Wr.app PR.out.1 O1 (by have:=KC.out.1;(try simp only[lA,lB,lC]);(try push_cast);omega) (Uni.left (L2:=[(g,j * 5+2,i64)]++M3++M4++LR') (by have h9:=HU.out;rw[KC.out.2,HL.out] at h9;simpa using h9)),PR.out.2.trans O1.lk⟩
   clear PR O1 hx1;have PR:Hid _:=PR2.out;clear PR2;obtain ⟨x2,hx2⟩:=(SH.out ((wr.setCell ⟨g,j * 5,none⟩ (.int .i64 (kj))).setCell ⟨g,j * 5+1,none⟩ (.int .i64 (kj+1))) PR.out.2).2.2.1;have O2:Wr ((wr.setCell ⟨g,j * 5,none⟩ (.int .i64 (kj))).setCell ⟨g,j * 5+1,none⟩ (.int .i64 (kj+1))) (((wr.setCell ⟨g,j * 5,none⟩ (.int .i64 (kj))).setCell ⟨g,j * 5+1,none⟩ (.int .i64 (kj+1))).setCell ⟨g,j * 5+2,none⟩ (.int .i64 (kj+1+1))) [(g,j * 5+2,i64)] (kj+1+1):=Wr.one ((SH.out ((wr.setCell ⟨g,j * 5,none⟩ (.int .i64 (kj))).setCell ⟨g,j * 5+1,none⟩ (.int .i64 (kj+1))) PR.out.2).2.2.2.2.2).2 hx2 _ _ (by rw[IntWalk.i64_in _ (by omega)]);have PR2:Hid (Wr w (((wr.setCell ⟨g,j * 5,none⟩ (.int .i64 (kj))).setCell ⟨g,j * 5+1,none⟩ (.int .i64 (kj+1))).setCell ⟨g,j * 5+2,none⟩ (.int .i64 (kj+1+1))) (LD++[(g,j * 5,i64)]++[(g,j * 5+1,i64)]++[(g,j * 5+2,i64)]) k0∧Lk wr (((wr.setCell ⟨g,j * 5,none⟩ (.int .i64 (kj))).setCell ⟨g,j * 5+1,none⟩ (.int .i64 (kj+1))).setCell ⟨g,j * 5+2,none⟩ (.int .i64 (kj+1+1)))):=⟨Wr.app PR.out.1 O2 (by have:=KC.out.1;(try simp only[lA,lB,lC]);(try push_cast);omega) (Uni.left (L2:=M3++M4++LR') (by have h9:=HU.out;rw[KC.out.2,HL.out] at h9;simpa using h9)),PR.out.2.trans O2.lk⟩
   clear PR O2 hx2;have PR:Hid _:=PR2.out;clear PR2
   -- world (((wr.setCell ⟨g,j * 5,none⟩ (.int .i64 (kj))).setCell ⟨g,j * 5+1,none⟩ (.int .i64 (kj+1))).setCell ⟨g,j * 5+2,none⟩ (.int .i64 (kj+1+1)))
   have hc3:=(SH.out (((wr.setCell ⟨g,j * 5,none⟩ (.int .i64 (kj))).setCell ⟨g,j * 5+1,none⟩ (.int .i64 (kj+1))).setCell ⟨g,j * 5+2,none⟩ (.int .i64 (kj+1+1))) PR.out.2).2.2.2.1;have CC:Hid _:=markGB (x.lit) a3 l3 c3 M3 (kj+1+1+1) (((wr.setCell ⟨g,j * 5,none⟩ (.int .i64 (kj))).setCell ⟨g,j * 5+1,none⟩ (.int .i64 (kj+1))).setCell ⟨g,j * 5+2,none⟩ (.int .i64 (kj+1+1))) hc3.2 (by have h9:=HU.out;rw[KC.out.2,HL.out] at h9;exact Uni.left (L2:=M4++LR') (Uni.right (L1:=LD++[(g,j * 5,i64)]++[(g,j * 5+1,i64)]++[(g,j * 5+2,i64)]) (by simpa using h9))) (by omega) (by omega);have hh3:=hc3.1;clear hc3;go_wp2_with fail;refine Calls.mono CC.out ?_;rintro e u3 ⟨rfl,hw⟩;have PR2:Hid (Wr w u3 (LD++[(g,j * 5,i64)]++[(g,j * 5+1,i64)]++[(g,j * 5+2,i64)]++M3) k0∧Lk wr u3):=⟨Wr.app PR.out.1 hw (by have:=KC.out.1;(try simp only[lA,lB,lC]);(try push_cast);omega) (Uni.left (L2:=M4++LR') (by have h9:=HU.out;rw[KC.out.2,HL.out] at h9;simpa using h9)),PR.out.2.trans hw.lk⟩
   clear PR CC hw hh3 hm0 fr0 hm1 fr1 hm2 fr2;have PR:Hid _:=PR2.out;clear PR2;simp only[];have hc4:=(SH.out u3 PR.out.2).2.2.2.2.1;have CC:Hid _:=markGI (x.tos) a4 l4 c4 M4 (kj+1+1+1+(M3.length:Int)) u3 hc4.2 (by have h9:=HU.out;rw[KC.out.2,HL.out] at h9;exact Uni.left (L2:=LR') (Uni.right (L1:=LD++[(g,j * 5,i64)]++[(g,j * 5+1,i64)]++[(g,j * 5+2,i64)]++M3) (by simpa using h9))) (by omega) (by omega);have hh4:=hc4.1;clear hc4;go_wp2_with fail;refine Calls.mono CC.out ?_;rintro e u4 ⟨rfl,hw⟩;have PR2:Hid (Wr w u4 (LD++[(g,j * 5,i64)]++[(g,j * 5+1,i64)]++[(g,j * 5+2,i64)]++M3++M4) k0∧Lk wr u4):=⟨Wr.app PR.out.1 hw (by have:=KC.out.1;(try simp only[lA,lB,lC]);(try push_cast);omega) (Uni.left (L2:=LR') (by have h9:=HU.out;rw[KC.out.2,HL.out] at h9;simpa using h9)),PR.out.2.trans hw.lk⟩;clear PR CC hw hh4;have PR:Hid _:=PR2.out;clear PR2;simp only[]
   have hfin:(kj+1+1+1+(M3.length:Int)+(M4.length:Int))+(LR'.length:Int)=k0+L.length:=by omega
   have HN:Hid (L=(LD++[(g,j * 5,i64)]++[(g,j * 5+1,i64)]++[(g,j * 5+2,i64)]++M3++M4)++LR'∧(kj+1+1+1+(M3.length:Int)+(M4.length:Int))=k0+((LD++[(g,j * 5,i64)]++[(g,j * 5+1,i64)]++[(g,j * 5+2,i64)]++M3++M4).length:Int)∧Wr w u4 (LD++[(g,j * 5,i64)]++[(g,j * 5+1,i64)]++[(g,j * 5+2,i64)]++M3++M4) k0∧ShG u4 (encInss R') g ((j+1) * 5) LR'∧Pl u4 g):=⟨by rw[KC.out.2,HL.out];simp,by have:=KC.out.1;(try simp only[lA,lB,lC]);(try push_cast);omega,PR.out.1,((SH.out _ PR.out.2).2.2.2.2.2).1,((SH.out _ PR.out.2).2.2.2.2.2).2⟩;clear PR SH HL KC;go_wp2;go_roundw
   case rel=>exact ⟨j+1,R',_,LR',_,by omega,by go_num,rfl,by omega,hfin,by omega,HN⟩
   case measure=>simp [intOf];omega
  ·
   obtain rfl:j=l:=by omega
   obtain rfl:R=[]:=lz0 (by omega);have hr0:LR=[]:=HR.out.2.2.2.1;subst hr0;have HF:Hid (Wr w wr L k0∧kj=k0+(L.length:Int)):=⟨by have h9:=HR.out.1;rw[List.append_nil] at h9;rw[h9];exact HR.out.2.2.1,by simpa using hjk⟩;clear HR hjk;go_wp2;go_ret;exact ⟨by rw[← HF.out.2];rfl,HF.out.1⟩
theorem heldGN (xs:List RIns) (a:Option Addr) (l c:Nat) (L:List Adr) (k0:Int) (w:World) (h:ShS w 5 a l (encInss xs) L) (hH:Hl w L k0) (hk0:0≤k0) (hk1:k0+L.length≤4611686018427387904) :
  Calls Tryz.prog 51 #[.slice a l c,.int .i64 k0] w fun e u=>e = .returned (.int .i64 (k0+L.length))∧w.grownBy u none:=by
 obtain ⟨h1,h2,h3⟩:=h;rw[encInss_len] at h1
 have hxl:xs.length=l:=by omega
 rcases h3 with ⟨rfl,hd,rfl⟩|⟨g,hp,rfl,hpl,hsh⟩
 ·
  go_enter Tryz.func51,Tryz.ntmps51;go_wp2;refine wp_loop_rounds 1 ?_;rw[rounds_succ];go_wp2;go_ret;exact ⟨by simp,grf _ _⟩
 have HH:Hid (Hl w L k0):=hH;clear hH;have H0:Hid (ShG w (encInss xs) g 0 L∧Pl w g):=⟨hsh,hpl⟩;clear hsh hpl h1;go_enter Tryz.func51,Tryz.ntmps51;go_wp2
 go_loopw [1,5] (fun v i wr=>∃ (j:Nat) (R:List RIns) (LD LR:List Adr) (kj:Int),j≤l∧i = .int .i64 j∧v = .int .i64 kj∧0≤kj∧kj+LR.length=k0+L.length∧R.length+j=l∧Hid (L=LD++LR∧kj=k0+LD.length∧w.grownBy wr none∧Hl wr LR kj∧ShG wr (encInss R) g (j * 5) LR∧Pl wr g)) (fun _ i _=>l - (intOf i).toNat)
 case atStart=>exact ⟨0,xs,[],L,k0,Nat.zero_le _,rfl,rfl,hk0,rfl,by omega,⟨rfl,by simp,grf _ _,HH.out,by simpa using H0.out.1,H0.out.2⟩⟩
 case round =>
  obtain ⟨j,R,LD,LR,kj,hj,rfl,rfl,hj0,hjk,hRl,HR⟩:=hrel;clear H0;by_cases hlt:j < l
  ·
   obtain ⟨x,R',rfl⟩:∃ y r,R=y::r:=by
    cases R with
    | nil=>simp at hRl;omega
    | cons y r=>exact ⟨y,r,rfl⟩
   obtain ⟨a3,l3,c3,M3,a4,l4,c4,M4,LR',hLR,hS⟩:=peelN HR.out.2.2.2.2.1 HR.out.2.2.2.2.2;have SH:Hid (∀ V,Lk wr V→(∃ m,V.cell? ⟨g,j * 5,none⟩=some (.int .i64 m))∧(∃ m,V.cell? ⟨g,j * 5+1,none⟩=some (.int .i64 m))∧(∃ m,V.cell? ⟨g,j * 5+2,none⟩=some (.int .i64 m))∧(V.cell? ⟨g,j * 5+3,none⟩=some (.slice a3 l3 c3)∧ShS V 1 a3 l3 (encB x.lit) M3)∧(V.cell? ⟨g,j * 5+4,none⟩=some (.slice a4 l4 c4)∧ShS V 1 a4 l4 (encI x.tos) M4)∧ShG V (encInss R') g ((j+1) * 5) LR'∧Pl V g):=hS;have HL:Hid (LR=[(g,j * 5,i64)]++([(g,j * 5+1,i64)]++([(g,j * 5+2,i64)]++(M3++(M4++LR'))))):=hLR;clear hS hLR
   have hlen:(LR.length:Int)=1+1+1+(M3.length:Int)+(M4.length:Int)+(LR'.length:Int):=by
    rw[HL.out];simp only[lA,lB,lC];(try push_cast);omega
   simp only[lB] at hRl;have PR:Hid (w.grownBy wr none∧Lk wr wr∧Hl wr LR kj):=⟨HR.out.2.2.1,⟨fun _ _ _ _ _ h=>h,fun _ _ _ n h=>⟨n,h⟩,fun _ h=>h⟩,HR.out.2.2.2.1⟩;have KC:Hid (kj=k0+LD.length∧L=LD++LR):=⟨HR.out.2.1,HR.out.1⟩;clear HR;obtain ⟨m0,hm0⟩:=(SH.out wr PR.out.2.1).1;obtain ⟨m1,hm1⟩:=(SH.out wr PR.out.2.1).2.1;obtain ⟨m2,hm2⟩:=(SH.out wr PR.out.2.1).2.2.1
   have e0:wr.cell? ⟨g,j * 5,none⟩=some (.int i64 (kj)):=by
    have h9:=PR.out.2.2;rw[HL.out] at h9
    have h8:=Hl.head (x:=(g,j * 5,i64)) (L:=[(g,j * 5+1,i64)]++[(g,j * 5+2,i64)]++M3++M4++LR') (k:=kj) (w:=wr) (by
     have h7:=h9
     simpa using h7)
    rw[IntWalk.i64_in _ (by omega)] at h8;exact h8
   clear hm0
   have e1:wr.cell? ⟨g,j * 5+1,none⟩=some (.int i64 (kj+1)):=by
    have h9:=PR.out.2.2;rw[HL.out] at h9
    have h8:=Hl.head (x:=(g,j * 5+1,i64)) (L:=[(g,j * 5+2,i64)]++M3++M4++LR') (k:=kj+1) (w:=wr) (by
     have h7:=Hl.right (L1:=[(g,j * 5,i64)]) (L2:=[(g,j * 5+1,i64)]++[(g,j * 5+2,i64)]++M3++M4++LR') (by simpa using h9);rw[show (kj+1:Int)=kj+(([(g,j * 5,i64)]).length:Int) by first|rfl|omega | ((try simp only[lA,lB,lC]);(try push_cast);omega)]
     simpa using h7)
    rw[IntWalk.i64_in _ (by omega)] at h8;exact h8
   clear hm1
   have e2:wr.cell? ⟨g,j * 5+2,none⟩=some (.int i64 (kj+1+1)):=by
    have h9:=PR.out.2.2;rw[HL.out] at h9
    have h8:=Hl.head (x:=(g,j * 5+2,i64)) (L:=M3++M4++LR') (k:=kj+1+1) (w:=wr) (by
     have h7:=Hl.right (L1:=[(g,j * 5,i64)]++[(g,j * 5+1,i64)]) (L2:=[(g,j * 5+2,i64)]++M3++M4++LR') (by simpa using h9);rw[show (kj+1+1:Int)=kj+(([(g,j * 5,i64)]++[(g,j * 5+1,i64)]).length:Int) by first|rfl|omega | ((try simp only[lA,lB,lC]);(try push_cast);omega)]
     simpa using h7)
    rw[IntWalk.i64_in _ (by omega)] at h8;exact h8
   clear hm2;have hc3:=(SH.out wr PR.out.2.1).2.2.2.1
   have CC:Hid _:=heldGB (x.lit) a3 l3 c3 M3 (kj+1+1+1) wr hc3.2 (by
    have h9:=PR.out.2.2;rw[HL.out] at h9;have h7:=Hl.right (L1:=[(g,j * 5,i64)]++[(g,j * 5+1,i64)]++[(g,j * 5+2,i64)]) (L2:=M3++M4++LR') (by simpa using h9);have h5:=Hl.left (L1:=M3) (L2:=M4++LR') (k:=kj+(([(g,j * 5,i64)]++[(g,j * 5+1,i64)]++[(g,j * 5+2,i64)]).length:Int)) (by simpa using h7);rw[show (kj+1+1+1:Int)=kj+(([(g,j * 5,i64)]++[(g,j * 5+1,i64)]++[(g,j * 5+2,i64)]).length:Int) by first|rfl|omega | ((try simp only[lA,lB,lC]);(try push_cast);omega)]
    exact h5) (by omega) (by omega)
   have hh3:=hc3.1;clear hc3;go_wp2_with fail;refine Calls.mono CC.out ?_;rintro e u3 ⟨rfl,hw⟩;have PR2:Hid (w.grownBy u3 none∧Lk wr u3∧Hl u3 LR kj):=⟨gtr PR.out.1 hw,PR.out.2.1.trans (Lk.quiet hw),PR.out.2.2.old hw⟩;clear PR CC hw hh3;have PR:Hid _:=PR2.out;clear PR2;simp only[]
   have hng4:¬ (kj+1+1+1+(M3.length:Int)) < 0:=by omega
   have hc4:=(SH.out u3 PR.out.2.1).2.2.2.2.1
   have CC:Hid _:=heldGI (x.tos) a4 l4 c4 M4 (kj+1+1+1+(M3.length:Int)) u3 hc4.2 (by
    have h9:=PR.out.2.2;rw[HL.out] at h9;have h7:=Hl.right (L1:=[(g,j * 5,i64)]++[(g,j * 5+1,i64)]++[(g,j * 5+2,i64)]++M3) (L2:=M4++LR') (by simpa using h9);have h5:=Hl.left (L1:=M4) (L2:=LR') (k:=kj+(([(g,j * 5,i64)]++[(g,j * 5+1,i64)]++[(g,j * 5+2,i64)]++M3).length:Int)) (by simpa using h7);rw[show (kj+1+1+1+(M3.length:Int):Int)=kj+(([(g,j * 5,i64)]++[(g,j * 5+1,i64)]++[(g,j * 5+2,i64)]++M3).length:Int) by first|rfl|omega | ((try simp only[lA,lB,lC]);(try push_cast);omega)]
    exact h5) (by omega) (by omega)
   have hh4:=hc4.1;clear hc4;go_wp2_with fail;refine Calls.mono CC.out ?_;rintro e u4 ⟨rfl,hw⟩;have PR2:Hid (w.grownBy u4 none∧Lk wr u4∧Hl u4 LR kj):=⟨gtr PR.out.1 hw,PR.out.2.1.trans (Lk.quiet hw),PR.out.2.2.old hw⟩;clear PR CC hw hh4;have PR:Hid _:=PR2.out;clear PR2;simp only[]
   have hng5:¬ (kj+1+1+1+(M3.length:Int)+(M4.length:Int)) < 0:=by omega
   have hfin:(kj+1+1+1+(M3.length:Int)+(M4.length:Int))+(LR'.length:Int)=k0+L.length:=by omega
   have HN:Hid (L=(LD++[(g,j * 5,i64)]++[(g,j * 5+1,i64)]++[(g,j * 5+2,i64)]++M3++M4)++LR'∧(kj+1+1+1+(M3.length:Int)+(M4.length:Int))=k0+((LD++[(g,j * 5,i64)]++[(g,j * 5+1,i64)]++[(g,j * 5+2,i64)]++M3++M4).length:Int)∧(w.grownBy u4 none∧Hl u4 LR' (kj+1+1+1+(M3.length:Int)+(M4.length:Int)))∧ShG u4 (encInss R') g ((j+1) * 5) LR'∧Pl u4 g):=⟨by rw[KC.out.2,HL.out];simp,by have:=KC.out.1;(try simp only[lA,lB,lC]);(try push_cast);omega,⟨PR.out.1,by
    have h9:=PR.out.2.2;rw[HL.out] at h9;have h7:=Hl.right (L1:=[(g,j * 5,i64)]++[(g,j * 5+1,i64)]++[(g,j * 5+2,i64)]++M3++M4) (L2:=LR') (by simpa using h9);rw[show (kj+1+1+1+(M3.length:Int)+(M4.length:Int):Int)=kj+(([(g,j * 5,i64)]++[(g,j * 5+1,i64)]++[(g,j * 5+2,i64)]++M3++M4).length:Int) by first|rfl|omega | ((try simp only[lA,lB,lC]);(try push_cast);omega)]
    exact h7⟩,((SH.out _ PR.out.2.1).2.2.2.2.2).1,((SH.out _ PR.out.2.1).2.2.2.2.2).2⟩
   clear PR SH HL KC;go_wp2;go_roundw
   case rel=>exact ⟨j+1,R',_,LR',_,by omega,by go_num,rfl,by omega,hfin,by omega,⟨HN.out.1,HN.out.2.1,HN.out.2.2.1.1,HN.out.2.2.1.2,HN.out.2.2.2⟩⟩
   case measure=>simp [intOf];omega
  ·
   obtain rfl:j=l:=by omega
   obtain rfl:R=[]:=lz0 (by omega);have hr0:LR=[]:=HR.out.2.2.2.2.1;subst hr0;have HF:Hid (w.grownBy wr none∧kj=k0+(L.length:Int)):=⟨HR.out.2.2.1,by simpa using hjk⟩;clear HR hjk;go_wp2;go_ret;exact ⟨by rw[← HF.out.2];rfl,HF.out.1⟩
end Go.Proofs.YtnmlbeefjjohfaaGreatDoor.By
