/-
  No statement is proved here.
-/
import Derived.Test.YtnmlbeefjjohfaaGreatDoorGKNAlsoSh
namespace Go.Proofs.YtnmlbeefjjohfaaGreatDoor.By
open Go.IntKind (i64)
set_option maxRecDepth 100000
set_option maxHeartbeats 16000000
open Go.RowKit
set_option linter.unusedVariables false
set_option linter.unusedSimpArgs false
theorem peelK {w:World} {g j:Nat} {LR:List Adr} {x:RBlock} {R':List RBlock} (h:ShG w (encBlks (x::R')) g (j * 9) LR) (hp:Pl w g) :
  ∃ (a0:Option Addr) (l0 c0:Nat) (M0:List Adr),∃ (a3:Option Addr) (l3 c3:Nat) (M3:List Adr),∃ (a6:Option Addr) (l6 c6:Nat) (M6:List Adr),∃ (a7:Option Addr) (l7 c7:Nat) (M7:List Adr),∃ (a8:Option Addr) (l8 c8:Nat) (M8:List Adr),∃ LR':List Adr,LR=M0++([(g,j * 9+1,i64)]++([(g,j * 9+2,i64)]++(M3++([(g,j * 9+4,i64)]++([(g,j * 9+5,i64)]++(M6++(M7++(M8++LR'))))))))∧∀ V,Lk w V→(V.cell? ⟨g,j * 9,none⟩=some (.slice a0 l0 c0)∧ShS V 3 a0 l0 (encF x.env) M0)∧(∃ m,V.cell? ⟨g,j * 9+1,none⟩=some (.int .i64 m))∧(∃ m,V.cell? ⟨g,j * 9+2,none⟩=some (.int .i64 m))∧(V.cell? ⟨g,j * 9+3,none⟩=some (.slice a3 l3 c3)∧ShS V 3 a3 l3 (encF x.argf) M3)∧(∃ m,V.cell? ⟨g,j * 9+4,none⟩=some (.int .i64 m))∧(∃ m,V.cell? ⟨g,j * 9+5,none⟩=some (.int .i64 m))∧(V.cell? ⟨g,j * 9+6,none⟩=some (.slice a6 l6 c6)∧ShS V 3 a6 l6 (encF x.resf) M6)∧(V.cell? ⟨g,j * 9+7,none⟩=some (.slice a7 l7 c7)∧ShS V 3 a7 l7 (encF x.locs) M7)∧(V.cell? ⟨g,j * 9+8,none⟩=some (.slice a8 l8 c8)∧ShS V 5 a8 l8 (encInss x.code) M8)∧ShG V (encBlks R') g ((j+1) * 9) LR'∧Pl V g:=by
 obtain ⟨M0,K0,a0,l0,c0,rfl,c0',s0',h⟩:=h.outS;obtain ⟨K1,rfl,c1',h⟩:=h;obtain ⟨K2,rfl,c2',h⟩:=h;obtain ⟨M3,K3,a3,l3,c3,rfl,c3',s3',h⟩:=h.outS;obtain ⟨K4,rfl,c4',h⟩:=h;obtain ⟨K5,rfl,c5',h⟩:=h;obtain ⟨M6,K6,a6,l6,c6,rfl,c6',s6',h⟩:=h.outS;obtain ⟨M7,K7,a7,l7,c7,rfl,c7',s7',h⟩:=h.outS;obtain ⟨M8,K8,a8,l8,c8,rfl,c8',s8',h⟩:=h.outS;refine ⟨a0,l0,c0,M0,a3,l3,c3,M3,a6,l6,c6,M6,a7,l7,c7,M7,a8,l8,c8,M8,K8,rfl,fun V hV=>?_⟩
 have hn:ShG w (encBlks R') g ((j+1) * 9) K8:=by
  rw[show (j+1) * 9=j * 9+1+1+1+1+1+1+1+1+1 by omega];exact h
 exact ⟨⟨hV.sl _ _ _ _ _ c0',s0'.lk hV⟩,(by obtain ⟨m,hm⟩:=c1';exact hV.num _ _ _ _ hm),(by obtain ⟨m,hm⟩:=c2';exact hV.num _ _ _ _ hm),⟨hV.sl _ _ _ _ _ c3',s3'.lk hV⟩,(by obtain ⟨m,hm⟩:=c4';exact hV.num _ _ _ _ hm),(by obtain ⟨m,hm⟩:=c5';exact hV.num _ _ _ _ hm),⟨hV.sl _ _ _ _ _ c6',s6'.lk hV⟩,⟨hV.sl _ _ _ _ _ c7',s7'.lk hV⟩,⟨hV.sl _ _ _ _ _ c8',s8'.lk hV⟩,hn.lk hV,hV.pl g hp⟩
theorem markGK (xs:List RBlock) (a:Option Addr) (l c:Nat) (L:List Adr) (k0:Int) (w:World) (h:ShS w 9 a l (encBlks xs) L) (hU:Uni L) (hk0:0≤k0) (hk1:k0+L.length≤4611686018427387904) :
  Calls Tryz.prog 24 #[.slice a l c,.int .i64 k0] w fun e u=>e = .returned (.int .i64 (k0+L.length))∧Wr w u L k0:=by
 obtain ⟨h1,h2,h3⟩:=h;rw[encBlks_len] at h1
 have hxl:xs.length=l:=by omega
 rcases h3 with ⟨rfl,hd,rfl⟩|⟨g,hp,rfl,hpl,hsh⟩
 ·
  go_enter Tryz.func24,Tryz.ntmps24;go_wp2;refine wp_loop_rounds 1 ?_;rw[rounds_succ];go_wp2;go_ret;exact ⟨by simp,Wr.quiet (grf _ _) _⟩
 have HU:Hid (Uni L):=hU;clear hU;have H0:Hid (ShG w (encBlks xs) g 0 L∧Pl w g):=⟨hsh,hpl⟩;clear hsh hpl h1;go_enter Tryz.func24,Tryz.ntmps24;go_wp2
 go_loopw [1,5] (fun v i wr=>∃ (j:Nat) (R:List RBlock) (LD LR:List Adr) (kj:Int),j≤l∧i = .int .i64 j∧v = .int .i64 kj∧0≤kj∧kj+LR.length=k0+L.length∧R.length+j=l∧Hid (L=LD++LR∧kj=k0+LD.length∧Wr w wr LD k0∧ShG wr (encBlks R) g (j * 9) LR∧Pl wr g)) (fun _ i _=>l - (intOf i).toNat)
 case atStart=>exact ⟨0,xs,[],L,k0,Nat.zero_le _,rfl,rfl,hk0,rfl,by omega,⟨rfl,by simp,Wr.quiet (grf _ _) _,by simpa using H0.out.1,H0.out.2⟩⟩
 case round =>
  obtain ⟨j,R,LD,LR,kj,hj,rfl,rfl,hj0,hjk,hRl,HR⟩:=hrel;clear H0;by_cases hlt:j < l
  ·
   obtain ⟨x,R',rfl⟩:∃ y r,R=y::r:=by
    cases R with
    | nil=>simp at hRl;omega
    | cons y r=>exact ⟨y,r,rfl⟩
   obtain ⟨a0,l0,c0,M0,a3,l3,c3,M3,a6,l6,c6,M6,a7,l7,c7,M7,a8,l8,c8,M8,LR',hLR,hS⟩:=peelK HR.out.2.2.2.1 HR.out.2.2.2.2;have SH:Hid (∀ V,Lk wr V→(V.cell? ⟨g,j * 9,none⟩=some (.slice a0 l0 c0)∧ShS V 3 a0 l0 (encF x.env) M0)∧(∃ m,V.cell? ⟨g,j * 9+1,none⟩=some (.int .i64 m))∧(∃ m,V.cell? ⟨g,j * 9+2,none⟩=some (.int .i64 m))∧(V.cell? ⟨g,j * 9+3,none⟩=some (.slice a3 l3 c3)∧ShS V 3 a3 l3 (encF x.argf) M3)∧(∃ m,V.cell? ⟨g,j * 9+4,none⟩=some (.int .i64 m))∧(∃ m,V.cell? ⟨g,j * 9+5,none⟩=some (.int .i64 m))∧(V.cell? ⟨g,j * 9+6,none⟩=some (.slice a6 l6 c6)∧ShS V 3 a6 l6 (encF x.resf) M6)∧(V.cell? ⟨g,j * 9+7,none⟩=some (.slice a7 l7 c7)∧ShS V 3 a7 l7 (encF x.locs) M7)∧(V.cell? ⟨g,j * 9+8,none⟩=some (.slice a8 l8 c8)∧ShS V 5 a8 l8 (encInss x.code) M8)∧ShG V (encBlks R') g ((j+1) * 9) LR'∧Pl V g):=hS;have HL:Hid (LR=M0++([(g,j * 9+1,i64)]++([(g,j * 9+2,i64)]++(M3++([(g,j * 9+4,i64)]++([(g,j * 9+5,i64)]++(M6++(M7++(M8++LR'))))))))):=hLR
   clear hS hLR
   have hlen:(LR.length:Int)=(M0.length:Int)+1+1+(M3.length:Int)+1+1+(M6.length:Int)+(M7.length:Int)+(M8.length:Int)+(LR'.length:Int):=by
    rw[HL.out];simp only[lA,lB,lC];(try push_cast);omega
   simp only[lB] at hRl;have PR:Hid (Wr w wr (LD) k0∧Lk wr wr):=⟨HR.out.2.2.1,⟨fun _ _ _ _ _ h=>h,fun _ _ _ n h=>⟨n,h⟩,fun _ h=>h⟩⟩;have KC:Hid (kj=k0+LD.length∧L=LD++LR):=⟨HR.out.2.1,HR.out.1⟩;clear HR;have hc0:=(SH.out wr PR.out.2).1;have CC:Hid _:=markGT (x.env) _ (Nat.lt_succ_self _) a0 l0 c0 M0 (kj) wr hc0.2 (by have h9:=HU.out;rw[KC.out.2,HL.out] at h9;exact Uni.left (L2:=[(g,j * 9+1,i64)]++[(g,j * 9+2,i64)]++M3++[(g,j * 9+4,i64)]++[(g,j * 9+5,i64)]++M6++M7++M8++LR') (Uni.right (L1:=LD) (by simpa using h9))) (by omega) (by omega);have hh0:=hc0.1;clear hc0;go_wp2_with fail;refine Calls.mono CC.out ?_;rintro e u0 ⟨rfl,hw⟩;have PR2:Hid (Wr w u0 (LD++M0) k0∧Lk wr u0):=⟨Wr.app PR.out.1 hw (by have:=KC.out.1;(try simp only[lA,lB,lC]);(try push_cast);omega) (Uni.left (L2:=[(g,j * 9+1,i64)]++[(g,j * 9+2,i64)]++M3++[(g,j * 9+4,i64)]++[(g,j * 9+5,i64)]++M6++M7++M8++LR') (by have h9:=HU.out;rw[KC.out.2,HL.out] at h9;simpa using h9)),PR.out.2.trans hw.lk⟩
   clear PR CC hw hh0;have PR:Hid _:=PR2.out;clear PR2;simp only[];obtain ⟨m1,hm1⟩:=(SH.out u0 PR.out.2).2.1;have fr1:u0.frozen? ⟨g,j * 9+1,none⟩=false:=((SH.out u0 PR.out.2).2.2.2.2.2.2.2.2.2).2.free _;obtain ⟨m2,hm2⟩:=(SH.out u0 PR.out.2).2.2.1;have fr2:u0.frozen? ⟨g,j * 9+2,none⟩=false:=((SH.out u0 PR.out.2).2.2.2.2.2.2.2.2.2).2.free _;have O1:Wr u0 (u0.setCell ⟨g,j * 9+1,none⟩ (.int .i64 (kj+(M0.length:Int)))) [(g,j * 9+1,i64)] (kj+(M0.length:Int)):=Wr.one ((SH.out u0 PR.out.2).2.2.2.2.2.2.2.2.2).2 hm1 _ _ (by rw[IntWalk.i64_in _ (by omega)]);have PR2:Hid (Wr w (u0.setCell ⟨g,j * 9+1,none⟩ (.int .i64 (kj+(M0.length:Int)))) (LD++M0++[(g,j * 9+1,i64)]) k0∧Lk wr (u0.setCell ⟨g,j * 9+1,none⟩ (.int .i64 (kj+(M0.length:Int))))):=⟨Wr.app PR.out.1 O1 (by have:=KC.out.1;(try simp only[lA,lB,lC]);(try push_cast);omega) (Uni.left (L2:=[(g,j * 9+2,i64)]++M3++[(g,j * 9+4,i64)]++[(g,j * 9+5,i64)]++M6++M7++M8++LR') (by have h9:=HU.out;rw[KC.out.2,HL.out] at h9;simpa using h9)),PR.out.2.trans O1.lk⟩
   clear PR O1;have PR:Hid _:=PR2.out;clear PR2;obtain ⟨x2,hx2⟩:=(SH.out (u0.setCell ⟨g,j * 9+1,none⟩ (.int .i64 (kj+(M0.length:Int)))) PR.out.2).2.2.1;have O2:Wr (u0.setCell ⟨g,j * 9+1,none⟩ (.int .i64 (kj+(M0.length:Int)))) ((u0.setCell ⟨g,j * 9+1,none⟩ (.int .i64 (kj+(M0.length:Int)))).setCell ⟨g,j * 9+2,none⟩ (.int .i64 (kj+(M0.length:Int)+1))) [(g,j * 9+2,i64)] (kj+(M0.length:Int)+1):=Wr.one ((SH.out (u0.setCell ⟨g,j * 9+1,none⟩ (.int .i64 (kj+(M0.length:Int)))) PR.out.2).2.2.2.2.2.2.2.2.2).2 hx2 _ _ (by rw[IntWalk.i64_in _ (by omega)]);have PR2:Hid (Wr w ((u0.setCell ⟨g,j * 9+1,none⟩ (.int .i64 (kj+(M0.length:Int)))).setCell ⟨g,j * 9+2,none⟩ (.int .i64 (kj+(M0.length:Int)+1))) (LD++M0++[(g,j * 9+1,i64)]++[(g,j * 9+2,i64)]) k0∧Lk wr ((u0.setCell ⟨g,j * 9+1,none⟩ (.int .i64 (kj+(M0.length:Int)))).setCell ⟨g,j * 9+2,none⟩ (.int .i64 (kj+(M0.length:Int)+1)))):=⟨Wr.app PR.out.1 O2 (by have:=KC.out.1;(try simp only[lA,lB,lC]);(try push_cast);omega) (Uni.left (L2:=M3++[(g,j * 9+4,i64)]++[(g,j * 9+5,i64)]++M6++M7++M8++LR') (by have h9:=HU.out;rw[KC.out.2,HL.out] at h9;simpa using h9)),PR.out.2.trans O2.lk⟩
   clear PR O2 hx2;have PR:Hid _:=PR2.out;clear PR2
   -- world ((u0.setCell ⟨g,j * 9+1,none⟩ (.int .i64 (kj+(M0.length:Int)))).setCell ⟨g,j * 9+2,none⟩ (.int .i64 (kj+(M0.length:Int)+1)))
   have hc3:=(SH.out ((u0.setCell ⟨g,j * 9+1,none⟩ (.int .i64 (kj+(M0.length:Int)))).setCell ⟨g,j * 9+2,none⟩ (.int .i64 (kj+(M0.length:Int)+1))) PR.out.2).2.2.2.1;have CC:Hid _:=markGT (x.argf) _ (Nat.lt_succ_self _) a3 l3 c3 M3 (kj+(M0.length:Int)+1+1) ((u0.setCell ⟨g,j * 9+1,none⟩ (.int .i64 (kj+(M0.length:Int)))).setCell ⟨g,j * 9+2,none⟩ (.int .i64 (kj+(M0.length:Int)+1))) hc3.2 (by have h9:=HU.out;rw[KC.out.2,HL.out] at h9;exact Uni.left (L2:=[(g,j * 9+4,i64)]++[(g,j * 9+5,i64)]++M6++M7++M8++LR') (Uni.right (L1:=LD++M0++[(g,j * 9+1,i64)]++[(g,j * 9+2,i64)]) (by simpa using h9))) (by omega) (by omega);have hh3:=hc3.1;clear hc3;go_wp2_with fail;refine Calls.mono CC.out ?_;rintro e u3 ⟨rfl,hw⟩;have PR2:Hid (Wr w u3 (LD++M0++[(g,j * 9+1,i64)]++[(g,j * 9+2,i64)]++M3) k0∧Lk wr u3):=⟨Wr.app PR.out.1 hw (by have:=KC.out.1;(try simp only[lA,lB,lC]);(try push_cast);omega) (Uni.left (L2:=[(g,j * 9+4,i64)]++[(g,j * 9+5,i64)]++M6++M7++M8++LR') (by have h9:=HU.out;rw[KC.out.2,HL.out] at h9;simpa using h9)),PR.out.2.trans hw.lk⟩
   clear PR CC hw hh3 hm1 fr1 hm2 fr2;have PR:Hid _:=PR2.out;clear PR2;simp only[];obtain ⟨m4,hm4⟩:=(SH.out u3 PR.out.2).2.2.2.2.1;have fr4:u3.frozen? ⟨g,j * 9+4,none⟩=false:=((SH.out u3 PR.out.2).2.2.2.2.2.2.2.2.2).2.free _;obtain ⟨m5,hm5⟩:=(SH.out u3 PR.out.2).2.2.2.2.2.1;have fr5:u3.frozen? ⟨g,j * 9+5,none⟩=false:=((SH.out u3 PR.out.2).2.2.2.2.2.2.2.2.2).2.free _;have O4:Wr u3 (u3.setCell ⟨g,j * 9+4,none⟩ (.int .i64 (kj+(M0.length:Int)+1+1+(M3.length:Int)))) [(g,j * 9+4,i64)] (kj+(M0.length:Int)+1+1+(M3.length:Int)):=Wr.one ((SH.out u3 PR.out.2).2.2.2.2.2.2.2.2.2).2 hm4 _ _ (by rw[IntWalk.i64_in _ (by omega)]);have PR2:Hid (Wr w (u3.setCell ⟨g,j * 9+4,none⟩ (.int .i64 (kj+(M0.length:Int)+1+1+(M3.length:Int)))) (LD++M0++[(g,j * 9+1,i64)]++[(g,j * 9+2,i64)]++M3++[(g,j * 9+4,i64)]) k0∧Lk wr (u3.setCell ⟨g,j * 9+4,none⟩ (.int .i64 (kj+(M0.length:Int)+1+1+(M3.length:Int))))):=⟨Wr.app PR.out.1 O4 (by have:=KC.out.1;(try simp only[lA,lB,lC]);(try push_cast);omega) (Uni.left (L2:=[(g,j * 9+5,i64)]++M6++M7++M8++LR') (by have h9:=HU.out;rw[KC.out.2,HL.out] at h9;simpa using h9)),PR.out.2.trans O4.lk⟩
   clear PR O4;have PR:Hid _:=PR2.out;clear PR2;obtain ⟨x5,hx5⟩:=(SH.out (u3.setCell ⟨g,j * 9+4,none⟩ (.int .i64 (kj+(M0.length:Int)+1+1+(M3.length:Int)))) PR.out.2).2.2.2.2.2.1;have O5:Wr (u3.setCell ⟨g,j * 9+4,none⟩ (.int .i64 (kj+(M0.length:Int)+1+1+(M3.length:Int)))) ((u3.setCell ⟨g,j * 9+4,none⟩ (.int .i64 (kj+(M0.length:Int)+1+1+(M3.length:Int)))).setCell ⟨g,j * 9+5,none⟩ (.int .i64 (kj+(M0.length:Int)+1+1+(M3.length:Int)+1))) [(g,j * 9+5,i64)] (kj+(M0.length:Int)+1+1+(M3.length:Int)+1):=Wr.one ((SH.out (u3.setCell ⟨g,j * 9+4,none⟩ (.int .i64 (kj+(M0.length:Int)+1+1+(M3.length:Int)))) PR.out.2).2.2.2.2.2.2.2.2.2).2 hx5 _ _ (by rw[IntWalk.i64_in _ (by omega)]);have PR2:Hid (Wr w ((u3.setCell ⟨g,j * 9+4,none⟩ (.int .i64 (kj+(M0.length:Int)+1+1+(M3.length:Int)))).setCell ⟨g,j * 9+5,none⟩ (.int .i64 (kj+(M0.length:Int)+1+1+(M3.length:Int)+1))) (LD++M0++[(g,j * 9+1,i64)]++[(g,j * 9+2,i64)]++M3++[(g,j * 9+4,i64)]++[(g,j * 9+5,i64)]) k0∧Lk wr ((u3.setCell ⟨g,j * 9+4,none⟩ (.int .i64 (kj+(M0.length:Int)+1+1+(M3.length:Int)))).setCell ⟨g,j * 9+5,none⟩ (.int .i64 (kj+(M0.length:Int)+1+1+(M3.length:Int)+1)))):=⟨Wr.app PR.out.1 O5 (by have:=KC.out.1;(try simp only[lA,lB,lC]);(try push_cast);omega) (Uni.left (L2:=M6++M7++M8++LR') (by have h9:=HU.out;rw[KC.out.2,HL.out] at h9;simpa using h9)),PR.out.2.trans O5.lk⟩
   clear PR O5 hx5;have PR:Hid _:=PR2.out;clear PR2
   -- world ((u3.setCell ⟨g,j * 9+4,none⟩ (.int .i64 (kj+(M0.length:Int)+1+1+(M3.length:Int)))).setCell ⟨g,j * 9+5,none⟩ (.int .i64 (kj+(M0.length:Int)+1+1+(M3.length:Int)+1)))
   have hc6:=(SH.out ((u3.setCell ⟨g,j * 9+4,none⟩ (.int .i64 (kj+(M0.length:Int)+1+1+(M3.length:Int)))).setCell ⟨g,j * 9+5,none⟩ (.int .i64 (kj+(M0.length:Int)+1+1+(M3.length:Int)+1))) PR.out.2).2.2.2.2.2.2.1;have CC:Hid _:=markGT (x.resf) _ (Nat.lt_succ_self _) a6 l6 c6 M6 (kj+(M0.length:Int)+1+1+(M3.length:Int)+1+1) ((u3.setCell ⟨g,j * 9+4,none⟩ (.int .i64 (kj+(M0.length:Int)+1+1+(M3.length:Int)))).setCell ⟨g,j * 9+5,none⟩ (.int .i64 (kj+(M0.length:Int)+1+1+(M3.length:Int)+1))) hc6.2 (by have h9:=HU.out;rw[KC.out.2,HL.out] at h9;exact Uni.left (L2:=M7++M8++LR') (Uni.right (L1:=LD++M0++[(g,j * 9+1,i64)]++[(g,j * 9+2,i64)]++M3++[(g,j * 9+4,i64)]++[(g,j * 9+5,i64)]) (by simpa using h9))) (by omega) (by omega);have hh6:=hc6.1;clear hc6;go_wp2_with fail;refine Calls.mono CC.out ?_;rintro e u6 ⟨rfl,hw⟩;have PR2:Hid (Wr w u6 (LD++M0++[(g,j * 9+1,i64)]++[(g,j * 9+2,i64)]++M3++[(g,j * 9+4,i64)]++[(g,j * 9+5,i64)]++M6) k0∧Lk wr u6):=⟨Wr.app PR.out.1 hw (by have:=KC.out.1;(try simp only[lA,lB,lC]);(try push_cast);omega) (Uni.left (L2:=M7++M8++LR') (by have h9:=HU.out;rw[KC.out.2,HL.out] at h9;simpa using h9)),PR.out.2.trans hw.lk⟩
   clear PR CC hw hh6 hm4 fr4 hm5 fr5;have PR:Hid _:=PR2.out;clear PR2;simp only[];have hc7:=(SH.out u6 PR.out.2).2.2.2.2.2.2.2.1;have CC:Hid _:=markGT (x.locs) _ (Nat.lt_succ_self _) a7 l7 c7 M7 (kj+(M0.length:Int)+1+1+(M3.length:Int)+1+1+(M6.length:Int)) u6 hc7.2 (by have h9:=HU.out;rw[KC.out.2,HL.out] at h9;exact Uni.left (L2:=M8++LR') (Uni.right (L1:=LD++M0++[(g,j * 9+1,i64)]++[(g,j * 9+2,i64)]++M3++[(g,j * 9+4,i64)]++[(g,j * 9+5,i64)]++M6) (by simpa using h9))) (by omega) (by omega);have hh7:=hc7.1;clear hc7;go_wp2_with fail;refine Calls.mono CC.out ?_;rintro e u7 ⟨rfl,hw⟩;have PR2:Hid (Wr w u7 (LD++M0++[(g,j * 9+1,i64)]++[(g,j * 9+2,i64)]++M3++[(g,j * 9+4,i64)]++[(g,j * 9+5,i64)]++M6++M7) k0∧Lk wr u7):=⟨Wr.app PR.out.1 hw (by have:=KC.out.1;(try simp only[lA,lB,lC]);(try push_cast);omega) (Uni.left (L2:=M8++LR') (by have h9:=HU.out;rw[KC.out.2,HL.out] at h9;simpa using h9)),PR.out.2.trans hw.lk⟩
   clear PR CC hw hh7;have PR:Hid _:=PR2.out;clear PR2;simp only[];have hc8:=(SH.out u7 PR.out.2).2.2.2.2.2.2.2.2.1;have CC:Hid _:=markGN (x.code) a8 l8 c8 M8 (kj+(M0.length:Int)+1+1+(M3.length:Int)+1+1+(M6.length:Int)+(M7.length:Int)) u7 hc8.2 (by have h9:=HU.out;rw[KC.out.2,HL.out] at h9;exact Uni.left (L2:=LR') (Uni.right (L1:=LD++M0++[(g,j * 9+1,i64)]++[(g,j * 9+2,i64)]++M3++[(g,j * 9+4,i64)]++[(g,j * 9+5,i64)]++M6++M7) (by simpa using h9))) (by omega) (by omega);have hh8:=hc8.1;clear hc8;go_wp2_with fail;refine Calls.mono CC.out ?_;rintro e u8 ⟨rfl,hw⟩;have PR2:Hid (Wr w u8 (LD++M0++[(g,j * 9+1,i64)]++[(g,j * 9+2,i64)]++M3++[(g,j * 9+4,i64)]++[(g,j * 9+5,i64)]++M6++M7++M8) k0∧Lk wr u8):=⟨Wr.app PR.out.1 hw (by have:=KC.out.1;(try simp only[lA,lB,lC]);(try push_cast);omega) (Uni.left (L2:=LR') (by have h9:=HU.out;rw[KC.out.2,HL.out] at h9;simpa using h9)),PR.out.2.trans hw.lk⟩;clear PR CC hw hh8
   have PR:Hid _:=PR2.out;clear PR2;simp only[]
   have hfin:(kj+(M0.length:Int)+1+1+(M3.length:Int)+1+1+(M6.length:Int)+(M7.length:Int)+(M8.length:Int))+(LR'.length:Int)=k0+L.length:=by omega
   have HN:Hid (L=(LD++M0++[(g,j * 9+1,i64)]++[(g,j * 9+2,i64)]++M3++[(g,j * 9+4,i64)]++[(g,j * 9+5,i64)]++M6++M7++M8)++LR'∧(kj+(M0.length:Int)+1+1+(M3.length:Int)+1+1+(M6.length:Int)+(M7.length:Int)+(M8.length:Int))=k0+((LD++M0++[(g,j * 9+1,i64)]++[(g,j * 9+2,i64)]++M3++[(g,j * 9+4,i64)]++[(g,j * 9+5,i64)]++M6++M7++M8).length:Int)∧Wr w u8 (LD++M0++[(g,j * 9+1,i64)]++[(g,j * 9+2,i64)]++M3++[(g,j * 9+4,i64)]++[(g,j * 9+5,i64)]++M6++M7++M8) k0∧ShG u8 (encBlks R') g ((j+1) * 9) LR'∧Pl u8 g):=⟨by rw[KC.out.2,HL.out];simp,by have:=KC.out.1;(try simp only[lA,lB,lC]);(try push_cast);omega,PR.out.1,((SH.out _ PR.out.2).2.2.2.2.2.2.2.2.2).1,((SH.out _ PR.out.2).2.2.2.2.2.2.2.2.2).2⟩;clear PR SH HL KC;go_wp2;go_roundw
   case rel=>exact ⟨j+1,R',_,LR',_,by omega,by go_num,rfl,by omega,hfin,by omega,HN⟩
   case measure=>simp [intOf];omega
  ·
   obtain rfl:j=l:=by omega
   obtain rfl:R=[]:=lz0 (by omega);have hr0:LR=[]:=HR.out.2.2.2.1;subst hr0;have HF:Hid (Wr w wr L k0∧kj=k0+(L.length:Int)):=⟨by have h9:=HR.out.1;rw[List.append_nil] at h9;rw[h9];exact HR.out.2.2.1,by simpa using hjk⟩;clear HR hjk;go_wp2;go_ret;exact ⟨by rw[← HF.out.2];rfl,HF.out.1⟩
theorem heldGK (xs:List RBlock) (a:Option Addr) (l c:Nat) (L:List Adr) (k0:Int) (w:World) (h:ShS w 9 a l (encBlks xs) L) (hH:Hl w L k0) (hk0:0≤k0) (hk1:k0+L.length≤4611686018427387904) :
  Calls Tryz.prog 27 #[.slice a l c,.int .i64 k0] w fun e u=>e = .returned (.int .i64 (k0+L.length))∧w.grownBy u none:=by
 obtain ⟨h1,h2,h3⟩:=h;rw[encBlks_len] at h1
 have hxl:xs.length=l:=by omega
 rcases h3 with ⟨rfl,hd,rfl⟩|⟨g,hp,rfl,hpl,hsh⟩
 ·
  go_enter Tryz.func27,Tryz.ntmps27;go_wp2;refine wp_loop_rounds 1 ?_;rw[rounds_succ];go_wp2;go_ret;exact ⟨by simp,grf _ _⟩
 have HH:Hid (Hl w L k0):=hH;clear hH;have H0:Hid (ShG w (encBlks xs) g 0 L∧Pl w g):=⟨hsh,hpl⟩;clear hsh hpl h1;go_enter Tryz.func27,Tryz.ntmps27;go_wp2
 go_loopw [1,5] (fun v i wr=>∃ (j:Nat) (R:List RBlock) (LD LR:List Adr) (kj:Int),j≤l∧i = .int .i64 j∧v = .int .i64 kj∧0≤kj∧kj+LR.length=k0+L.length∧R.length+j=l∧Hid (L=LD++LR∧kj=k0+LD.length∧w.grownBy wr none∧Hl wr LR kj∧ShG wr (encBlks R) g (j * 9) LR∧Pl wr g)) (fun _ i _=>l - (intOf i).toNat)
 case atStart=>exact ⟨0,xs,[],L,k0,Nat.zero_le _,rfl,rfl,hk0,rfl,by omega,⟨rfl,by simp,grf _ _,HH.out,by simpa using H0.out.1,H0.out.2⟩⟩
 case round =>
  obtain ⟨j,R,LD,LR,kj,hj,rfl,rfl,hj0,hjk,hRl,HR⟩:=hrel;clear H0;by_cases hlt:j < l
  ·
   obtain ⟨x,R',rfl⟩:∃ y r,R=y::r:=by
    cases R with
    | nil=>simp at hRl;omega
    | cons y r=>exact ⟨y,r,rfl⟩
   obtain ⟨a0,l0,c0,M0,a3,l3,c3,M3,a6,l6,c6,M6,a7,l7,c7,M7,a8,l8,c8,M8,LR',hLR,hS⟩:=peelK HR.out.2.2.2.2.1 HR.out.2.2.2.2.2;have SH:Hid (∀ V,Lk wr V→(V.cell? ⟨g,j * 9,none⟩=some (.slice a0 l0 c0)∧ShS V 3 a0 l0 (encF x.env) M0)∧(∃ m,V.cell? ⟨g,j * 9+1,none⟩=some (.int .i64 m))∧(∃ m,V.cell? ⟨g,j * 9+2,none⟩=some (.int .i64 m))∧(V.cell? ⟨g,j * 9+3,none⟩=some (.slice a3 l3 c3)∧ShS V 3 a3 l3 (encF x.argf) M3)∧(∃ m,V.cell? ⟨g,j * 9+4,none⟩=some (.int .i64 m))∧(∃ m,V.cell? ⟨g,j * 9+5,none⟩=some (.int .i64 m))∧(V.cell? ⟨g,j * 9+6,none⟩=some (.slice a6 l6 c6)∧ShS V 3 a6 l6 (encF x.resf) M6)∧(V.cell? ⟨g,j * 9+7,none⟩=some (.slice a7 l7 c7)∧ShS V 3 a7 l7 (encF x.locs) M7)∧(V.cell? ⟨g,j * 9+8,none⟩=some (.slice a8 l8 c8)∧ShS V 5 a8 l8 (encInss x.code) M8)∧ShG V (encBlks R') g ((j+1) * 9) LR'∧Pl V g):=hS;have HL:Hid (LR=M0++([(g,j * 9+1,i64)]++([(g,j * 9+2,i64)]++(M3++([(g,j * 9+4,i64)]++([(g,j * 9+5,i64)]++(M6++(M7++(M8++LR'))))))))):=hLR
   clear hS hLR
   have hlen:(LR.length:Int)=(M0.length:Int)+1+1+(M3.length:Int)+1+1+(M6.length:Int)+(M7.length:Int)+(M8.length:Int)+(LR'.length:Int):=by
    rw[HL.out];simp only[lA,lB,lC];(try push_cast);omega
   simp only[lB] at hRl;have PR:Hid (w.grownBy wr none∧Lk wr wr∧Hl wr LR kj):=⟨HR.out.2.2.1,⟨fun _ _ _ _ _ h=>h,fun _ _ _ n h=>⟨n,h⟩,fun _ h=>h⟩,HR.out.2.2.2.1⟩;have KC:Hid (kj=k0+LD.length∧L=LD++LR):=⟨HR.out.2.1,HR.out.1⟩;clear HR;have hc0:=(SH.out wr PR.out.2.1).1
   have CC:Hid _:=heldGT (x.env) _ (Nat.lt_succ_self _) a0 l0 c0 M0 (kj) wr hc0.2 (by
    have h9:=PR.out.2.2;rw[HL.out] at h9;have h7:=h9;have h5:=Hl.left (L1:=M0) (L2:=[(g,j * 9+1,i64)]++[(g,j * 9+2,i64)]++M3++[(g,j * 9+4,i64)]++[(g,j * 9+5,i64)]++M6++M7++M8++LR') (k:=kj) (by simpa using h7)
    exact h5) (by omega) (by omega)
   have hh0:=hc0.1;clear hc0;go_wp2_with fail;refine Calls.mono CC.out ?_;rintro e u0 ⟨rfl,hw⟩;have PR2:Hid (w.grownBy u0 none∧Lk wr u0∧Hl u0 LR kj):=⟨gtr PR.out.1 hw,PR.out.2.1.trans (Lk.quiet hw),PR.out.2.2.old hw⟩;clear PR CC hw hh0;have PR:Hid _:=PR2.out;clear PR2;simp only[]
   have hng1:¬ (kj+(M0.length:Int)) < 0:=by omega
   obtain ⟨m1,hm1⟩:=(SH.out u0 PR.out.2.1).2.1;obtain ⟨m2,hm2⟩:=(SH.out u0 PR.out.2.1).2.2.1
   have e1:u0.cell? ⟨g,j * 9+1,none⟩=some (.int i64 (kj+(M0.length:Int))):=by
    have h9:=PR.out.2.2;rw[HL.out] at h9
    have h8:=Hl.head (x:=(g,j * 9+1,i64)) (L:=[(g,j * 9+2,i64)]++M3++[(g,j * 9+4,i64)]++[(g,j * 9+5,i64)]++M6++M7++M8++LR') (k:=kj+(M0.length:Int)) (w:=u0) (by
     have h7:=Hl.right (L1:=M0) (L2:=[(g,j * 9+1,i64)]++[(g,j * 9+2,i64)]++M3++[(g,j * 9+4,i64)]++[(g,j * 9+5,i64)]++M6++M7++M8++LR') (by simpa using h9);rw[show (kj+(M0.length:Int):Int)=kj+((M0).length:Int) by first|rfl|omega | ((try simp only[lA,lB,lC]);(try push_cast);omega)]
     simpa using h7)
    rw[IntWalk.i64_in _ (by omega)] at h8;exact h8
   clear hm1
   have e2:u0.cell? ⟨g,j * 9+2,none⟩=some (.int i64 (kj+(M0.length:Int)+1)):=by
    have h9:=PR.out.2.2;rw[HL.out] at h9
    have h8:=Hl.head (x:=(g,j * 9+2,i64)) (L:=M3++[(g,j * 9+4,i64)]++[(g,j * 9+5,i64)]++M6++M7++M8++LR') (k:=kj+(M0.length:Int)+1) (w:=u0) (by
     have h7:=Hl.right (L1:=M0++[(g,j * 9+1,i64)]) (L2:=[(g,j * 9+2,i64)]++M3++[(g,j * 9+4,i64)]++[(g,j * 9+5,i64)]++M6++M7++M8++LR') (by simpa using h9);rw[show (kj+(M0.length:Int)+1:Int)=kj+((M0++[(g,j * 9+1,i64)]).length:Int) by first|rfl|omega | ((try simp only[lA,lB,lC]);(try push_cast);omega)]
     simpa using h7)
    rw[IntWalk.i64_in _ (by omega)] at h8;exact h8
   clear hm2;have hc3:=(SH.out u0 PR.out.2.1).2.2.2.1
   have CC:Hid _:=heldGT (x.argf) _ (Nat.lt_succ_self _) a3 l3 c3 M3 (kj+(M0.length:Int)+1+1) u0 hc3.2 (by
    have h9:=PR.out.2.2;rw[HL.out] at h9;have h7:=Hl.right (L1:=M0++[(g,j * 9+1,i64)]++[(g,j * 9+2,i64)]) (L2:=M3++[(g,j * 9+4,i64)]++[(g,j * 9+5,i64)]++M6++M7++M8++LR') (by simpa using h9);have h5:=Hl.left (L1:=M3) (L2:=[(g,j * 9+4,i64)]++[(g,j * 9+5,i64)]++M6++M7++M8++LR') (k:=kj+((M0++[(g,j * 9+1,i64)]++[(g,j * 9+2,i64)]).length:Int)) (by simpa using h7);rw[show (kj+(M0.length:Int)+1+1:Int)=kj+((M0++[(g,j * 9+1,i64)]++[(g,j * 9+2,i64)]).length:Int) by first|rfl|omega | ((try simp only[lA,lB,lC]);(try push_cast);omega)]
    exact h5) (by omega) (by omega)
   have hh3:=hc3.1;clear hc3;go_wp2_with fail;refine Calls.mono CC.out ?_;rintro e u3 ⟨rfl,hw⟩;have PR2:Hid (w.grownBy u3 none∧Lk wr u3∧Hl u3 LR kj):=⟨gtr PR.out.1 hw,PR.out.2.1.trans (Lk.quiet hw),PR.out.2.2.old hw⟩;clear PR CC hw hh3;have PR:Hid _:=PR2.out;clear PR2;simp only[]
   have hng4:¬ (kj+(M0.length:Int)+1+1+(M3.length:Int)) < 0:=by omega
   obtain ⟨m4,hm4⟩:=(SH.out u3 PR.out.2.1).2.2.2.2.1;obtain ⟨m5,hm5⟩:=(SH.out u3 PR.out.2.1).2.2.2.2.2.1
   have e4:u3.cell? ⟨g,j * 9+4,none⟩=some (.int i64 (kj+(M0.length:Int)+1+1+(M3.length:Int))):=by
    have h9:=PR.out.2.2;rw[HL.out] at h9
    have h8:=Hl.head (x:=(g,j * 9+4,i64)) (L:=[(g,j * 9+5,i64)]++M6++M7++M8++LR') (k:=kj+(M0.length:Int)+1+1+(M3.length:Int)) (w:=u3) (by
     have h7:=Hl.right (L1:=M0++[(g,j * 9+1,i64)]++[(g,j * 9+2,i64)]++M3) (L2:=[(g,j * 9+4,i64)]++[(g,j * 9+5,i64)]++M6++M7++M8++LR') (by simpa using h9);rw[show (kj+(M0.length:Int)+1+1+(M3.length:Int):Int)=kj+((M0++[(g,j * 9+1,i64)]++[(g,j * 9+2,i64)]++M3).length:Int) by first|rfl|omega | ((try simp only[lA,lB,lC]);(try push_cast);omega)]
     simpa using h7)
    rw[IntWalk.i64_in _ (by omega)] at h8;exact h8
   clear hm4
   have e5:u3.cell? ⟨g,j * 9+5,none⟩=some (.int i64 (kj+(M0.length:Int)+1+1+(M3.length:Int)+1)):=by
    have h9:=PR.out.2.2;rw[HL.out] at h9
    have h8:=Hl.head (x:=(g,j * 9+5,i64)) (L:=M6++M7++M8++LR') (k:=kj+(M0.length:Int)+1+1+(M3.length:Int)+1) (w:=u3) (by
     have h7:=Hl.right (L1:=M0++[(g,j * 9+1,i64)]++[(g,j * 9+2,i64)]++M3++[(g,j * 9+4,i64)]) (L2:=[(g,j * 9+5,i64)]++M6++M7++M8++LR') (by simpa using h9);rw[show (kj+(M0.length:Int)+1+1+(M3.length:Int)+1:Int)=kj+((M0++[(g,j * 9+1,i64)]++[(g,j * 9+2,i64)]++M3++[(g,j * 9+4,i64)]).length:Int) by first|rfl|omega | ((try simp only[lA,lB,lC]);(try push_cast);omega)]
     simpa using h7)
    rw[IntWalk.i64_in _ (by omega)] at h8;exact h8
   clear hm5;have hc6:=(SH.out u3 PR.out.2.1).2.2.2.2.2.2.1
   have CC:Hid _:=heldGT (x.resf) _ (Nat.lt_succ_self _) a6 l6 c6 M6 (kj+(M0.length:Int)+1+1+(M3.length:Int)+1+1) u3 hc6.2 (by
    have h9:=PR.out.2.2;rw[HL.out] at h9;have h7:=Hl.right (L1:=M0++[(g,j * 9+1,i64)]++[(g,j * 9+2,i64)]++M3++[(g,j * 9+4,i64)]++[(g,j * 9+5,i64)]) (L2:=M6++M7++M8++LR') (by simpa using h9);have h5:=Hl.left (L1:=M6) (L2:=M7++M8++LR') (k:=kj+((M0++[(g,j * 9+1,i64)]++[(g,j * 9+2,i64)]++M3++[(g,j * 9+4,i64)]++[(g,j * 9+5,i64)]).length:Int)) (by simpa using h7);rw[show (kj+(M0.length:Int)+1+1+(M3.length:Int)+1+1:Int)=kj+((M0++[(g,j * 9+1,i64)]++[(g,j * 9+2,i64)]++M3++[(g,j * 9+4,i64)]++[(g,j * 9+5,i64)]).length:Int) by first|rfl|omega | ((try simp only[lA,lB,lC]);(try push_cast);omega)]
    exact h5) (by omega) (by omega)
   have hh6:=hc6.1;clear hc6;go_wp2_with fail;refine Calls.mono CC.out ?_;rintro e u6 ⟨rfl,hw⟩;have PR2:Hid (w.grownBy u6 none∧Lk wr u6∧Hl u6 LR kj):=⟨gtr PR.out.1 hw,PR.out.2.1.trans (Lk.quiet hw),PR.out.2.2.old hw⟩;clear PR CC hw hh6;have PR:Hid _:=PR2.out;clear PR2;simp only[]
   have hng7:¬ (kj+(M0.length:Int)+1+1+(M3.length:Int)+1+1+(M6.length:Int)) < 0:=by omega
   have hc7:=(SH.out u6 PR.out.2.1).2.2.2.2.2.2.2.1
   have CC:Hid _:=heldGT (x.locs) _ (Nat.lt_succ_self _) a7 l7 c7 M7 (kj+(M0.length:Int)+1+1+(M3.length:Int)+1+1+(M6.length:Int)) u6 hc7.2 (by
    have h9:=PR.out.2.2;rw[HL.out] at h9;have h7:=Hl.right (L1:=M0++[(g,j * 9+1,i64)]++[(g,j * 9+2,i64)]++M3++[(g,j * 9+4,i64)]++[(g,j * 9+5,i64)]++M6) (L2:=M7++M8++LR') (by simpa using h9);have h5:=Hl.left (L1:=M7) (L2:=M8++LR') (k:=kj+((M0++[(g,j * 9+1,i64)]++[(g,j * 9+2,i64)]++M3++[(g,j * 9+4,i64)]++[(g,j * 9+5,i64)]++M6).length:Int)) (by simpa using h7);rw[show (kj+(M0.length:Int)+1+1+(M3.length:Int)+1+1+(M6.length:Int):Int)=kj+((M0++[(g,j * 9+1,i64)]++[(g,j * 9+2,i64)]++M3++[(g,j * 9+4,i64)]++[(g,j * 9+5,i64)]++M6).length:Int) by first|rfl|omega | ((try simp only[lA,lB,lC]);(try push_cast);omega)]
    exact h5) (by omega) (by omega)
   have hh7:=hc7.1;clear hc7;go_wp2_with fail;refine Calls.mono CC.out ?_;rintro e u7 ⟨rfl,hw⟩;have PR2:Hid (w.grownBy u7 none∧Lk wr u7∧Hl u7 LR kj):=⟨gtr PR.out.1 hw,PR.out.2.1.trans (Lk.quiet hw),PR.out.2.2.old hw⟩;clear PR CC hw hh7;have PR:Hid _:=PR2.out;clear PR2;simp only[]
   have hng8:¬ (kj+(M0.length:Int)+1+1+(M3.length:Int)+1+1+(M6.length:Int)+(M7.length:Int)) < 0:=by omega
   have hc8:=(SH.out u7 PR.out.2.1).2.2.2.2.2.2.2.2.1
   have CC:Hid _:=heldGN (x.code) a8 l8 c8 M8 (kj+(M0.length:Int)+1+1+(M3.length:Int)+1+1+(M6.length:Int)+(M7.length:Int)) u7 hc8.2 (by
    have h9:=PR.out.2.2;rw[HL.out] at h9;have h7:=Hl.right (L1:=M0++[(g,j * 9+1,i64)]++[(g,j * 9+2,i64)]++M3++[(g,j * 9+4,i64)]++[(g,j * 9+5,i64)]++M6++M7) (L2:=M8++LR') (by simpa using h9);have h5:=Hl.left (L1:=M8) (L2:=LR') (k:=kj+((M0++[(g,j * 9+1,i64)]++[(g,j * 9+2,i64)]++M3++[(g,j * 9+4,i64)]++[(g,j * 9+5,i64)]++M6++M7).length:Int)) (by simpa using h7);rw[show (kj+(M0.length:Int)+1+1+(M3.length:Int)+1+1+(M6.length:Int)+(M7.length:Int):Int)=kj+((M0++[(g,j * 9+1,i64)]++[(g,j * 9+2,i64)]++M3++[(g,j * 9+4,i64)]++[(g,j * 9+5,i64)]++M6++M7).length:Int) by first|rfl|omega | ((try simp only[lA,lB,lC]);(try push_cast);omega)]
    exact h5) (by omega) (by omega)
   have hh8:=hc8.1;clear hc8;go_wp2_with fail;refine Calls.mono CC.out ?_;rintro e u8 ⟨rfl,hw⟩;have PR2:Hid (w.grownBy u8 none∧Lk wr u8∧Hl u8 LR kj):=⟨gtr PR.out.1 hw,PR.out.2.1.trans (Lk.quiet hw),PR.out.2.2.old hw⟩;clear PR CC hw hh8;have PR:Hid _:=PR2.out;clear PR2;simp only[]
   have hng9:¬ (kj+(M0.length:Int)+1+1+(M3.length:Int)+1+1+(M6.length:Int)+(M7.length:Int)+(M8.length:Int)) < 0:=by omega
   have hfin:(kj+(M0.length:Int)+1+1+(M3.length:Int)+1+1+(M6.length:Int)+(M7.length:Int)+(M8.length:Int))+(LR'.length:Int)=k0+L.length:=by omega
   have HN:Hid (L=(LD++M0++[(g,j * 9+1,i64)]++[(g,j * 9+2,i64)]++M3++[(g,j * 9+4,i64)]++[(g,j * 9+5,i64)]++M6++M7++M8)++LR'∧(kj+(M0.length:Int)+1+1+(M3.length:Int)+1+1+(M6.length:Int)+(M7.length:Int)+(M8.length:Int))=k0+((LD++M0++[(g,j * 9+1,i64)]++[(g,j * 9+2,i64)]++M3++[(g,j * 9+4,i64)]++[(g,j * 9+5,i64)]++M6++M7++M8).length:Int)∧(w.grownBy u8 none∧Hl u8 LR' (kj+(M0.length:Int)+1+1+(M3.length:Int)+1+1+(M6.length:Int)+(M7.length:Int)+(M8.length:Int)))∧ShG u8 (encBlks R') g ((j+1) * 9) LR'∧Pl u8 g):=⟨by rw[KC.out.2,HL.out];simp,by have:=KC.out.1;(try simp only[lA,lB,lC]);(try push_cast);omega,⟨PR.out.1,by
    have h9:=PR.out.2.2;rw[HL.out] at h9;have h7:=Hl.right (L1:=M0++[(g,j * 9+1,i64)]++[(g,j * 9+2,i64)]++M3++[(g,j * 9+4,i64)]++[(g,j * 9+5,i64)]++M6++M7++M8) (L2:=LR') (by simpa using h9);rw[show (kj+(M0.length:Int)+1+1+(M3.length:Int)+1+1+(M6.length:Int)+(M7.length:Int)+(M8.length:Int):Int)=kj+((M0++[(g,j * 9+1,i64)]++[(g,j * 9+2,i64)]++M3++[(g,j * 9+4,i64)]++[(g,j * 9+5,i64)]++M6++M7++M8).length:Int) by first|rfl|omega | ((try simp only[lA,lB,lC]);(try push_cast);omega)]
    exact h7⟩,((SH.out _ PR.out.2.1).2.2.2.2.2.2.2.2.2).1,((SH.out _ PR.out.2.1).2.2.2.2.2.2.2.2.2).2⟩
   clear PR SH HL KC;go_wp2;go_roundw
   case rel=>exact ⟨j+1,R',_,LR',_,by omega,by go_num,rfl,by omega,hfin,by omega,⟨HN.out.1,HN.out.2.1,HN.out.2.2.1.1,HN.out.2.2.1.2,HN.out.2.2.2⟩⟩
   case measure=>simp [intOf];omega
  ·
   obtain rfl:j=l:=by omega
   obtain rfl:R=[]:=lz0 (by omega);have hr0:LR=[]:=HR.out.2.2.2.2.1;subst hr0;have HF:Hid (w.grownBy wr none∧kj=k0+(L.length:Int)):=⟨HR.out.2.2.1,by simpa using hjk⟩;clear HR hjk;go_wp2;go_ret;exact ⟨by rw[← HF.out.2];rfl,HF.out.1⟩
end Go.Proofs.YtnmlbeefjjohfaaGreatDoor.By
