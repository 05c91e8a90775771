/-
  No statement is proved here.
-/
import Derived.Test.YtnmlbeefjjohfaaGreatDoorCRkAlsoSh
namespace Go.Proofs.YtnmlbeefjjohfaaGreatDoor.By
set_option maxRecDepth 100000
set_option maxHeartbeats 16000000
open Go.RowKit
set_option linter.unusedVariables false
set_option linter.unusedSimpArgs false
theorem rlBlockC (q g N:Nat) (zs:List Int) (p:Int) (w:World) (hB:Byq w q g N zs) (b:CRd w q g N p) (hF:OpsIn w) (hp:p≤9223372036854775807) :
  Calls Tryz.prog 41 #[.pointer (some ⟨q,0,none⟩),.func (Fn.func 42) #[.pointer (some ⟨q,0,none⟩)] #[]] w fun e u=>RlA w u q g N 9 (encBlks (listP (parI zs) (blkP (parI zs)) 0 p).1) (listP (parI zs) (blkP (parI zs)) 0 p).1.length (listP (parI zs) (blkP (parI zs)) 0 p).2 e∧∀ x ∈ (listP (parI zs) (blkP (parI zs)) 0 p).1,BytB x:=by
 have HB:Hid (Byq w q g N zs):=hB;have CN:Hid _:=numC q g N zs p w hB b hp;have PQ:Hid (q < w.heap.size):=lbk b;have NB:Hid (N≤30000∧zs.length=N):=⟨hB.2.2.2.1,hB.2.1⟩;have hbb:=getNum_bounds zs hB.2.2.1 p;rw[hB.2.1] at hbb;have ADV:Hid (Adv N (blkP (parI zs))):=blkP_adv hB.2.2.1 hB.2.1
 have HFO:Hid (∀ u,w.grownBy u (some q)→OpsIn u):=fun u hu=>hF.keep b hu
 clear hB b hF;obtain ⟨n,p1,hn⟩:∃ n p1,getNum zs p=(n,p1):=⟨_,_,rfl⟩
 have HL:Hid (listP (parI zs) (blkP (parI zs)) 0 p=listN (blkP (parI zs)) n.toNat p1):=by show _=_;unfold listP;simp [parI,hn]
 rw[hn] at hbb CN;simp only[] at hbb CN
 have hn0:0≤n:=by
  rcases hbb with h|h
  ·
   injection h with h1 h2;omega
  ·
   exact h.1
 have hp1:p1≤N:=by
  rcases hbb with h|h
  ·
   injection h with h1 h2;omega
  ·
   exact h.2.2
 clear hbb hn;go_enter Tryz.func41,Tryz.ntmps41;go_wp2_with fail;refine Calls.mono CN.out ?_;rintro e u0 ⟨rfl,hg,hc⟩;have L0:Hid (w.grownBy u0 (some q)∧CRd u0 q g N p1):=⟨hg,hc⟩;clear CN hg hc;simp only[];go_wp2
 go_loopw [5] (fun s5 wr=>∃ (j:Nat) (P:List (RBlock)) (pp:Int) (a:Option Addr) (c:Nat) (bs:List Nat),s5 = .slice a j c∧Hid (w.grownBy wr (some q)∧CRd wr q g N pp∧SlG wr 9 a j c (encBlks P) bs∧bs.Nodup∧(∀ y ∈ bs,w.heap.size≤y)∧(j=0→c=0∧a=none)∧∀ x ∈ P,BytB x)∧P.length=j∧(j:Int)≤n∧Hid (listN (blkP (parI zs)) n.toNat p1=(P++(listN (blkP (parI zs)) (n.toNat - j) pp).1,(listN (blkP (parI zs)) (n.toNat - j) pp).2))∧pp≤N∧Hid (pp < 0∨(0≤p1∧p1+j≤pp))) (fun s _=>n.toNat - (match s with | .slice _ l _=>l|_=>0))
 case atStart=>exact ⟨0,[],p1,none,0,[],rfl,⟨L0.out.1,L0.out.2,SlG.nil _ _ _ _,List.nodup_nil,fun y hy=>by simp at hy,fun _=>⟨rfl,rfl⟩,fun x hx=>by simp at hx⟩,rfl,by simpa using hn0,by show _=_;simp,hp1,by show _∨_;omega⟩
 case round =>
  obtain ⟨j,P,pp,a,c,bs,rfl,HR,hPl,hjn,HE,hpN,HP⟩:=hrel;clear L0;obtain ⟨⟨z0,z1⟩,h0,h3⟩:=two HR.out.2.1
  have hjb:(j:Int)≤2000000000∨2000000000 < (j:Int):=by omega
  by_cases hlt:(j:Int) < n
  ·
   by_cases hpp:0≤pp
   ·
    have hj3:j≤30000:=by have:=HP.out;have:=NB.out.1;omega
    have CO:Hid _:=blkC q g N zs pp wr (HB.out.to HR.out.1) HR.out.2.1 (HFO.out _ HR.out.1) (by have:=NB.out.1;omega);have HA:Hid _:=ADV.out pp hpp hpN;go_wp2_with fail;refine Calls.mono CO.out ?_;rintro e u ⟨a1,l1,c1,a2,l2,c2,a3,l3,c3,a4,l4,c4,a5,l5,c5,rfl,hby,hg1,hc1,bd,hv,hnd,hlo⟩;have hw0:=HR.out.1.size;have ga:=gal u (.cells #[.slice a1 l1 c1,.int .i64 (blkP (parI zs) pp).1.argk,.int .i64 (blkP (parI zs) pp).1.argn,.slice a2 l2 c2,.int .i64 (blkP (parI zs) pp).1.resk,.int .i64 (blkP (parI zs) pp).1.resn,.slice a3 l3 c3,.slice a4 l4 c4,.slice a5 l5 c5] 49) none
    have hbl:∀ y ∈ bs,y < wr.heap.size:=fun y hy=>HR.out.2.2.1.lt y hy
    have OX:Hid (OwnG (u.alloc (.cells #[.slice a1 l1 c1,.int .i64 (blkP (parI zs) pp).1.argk,.int .i64 (blkP (parI zs) pp).1.argn,.slice a2 l2 c2,.int .i64 (blkP (parI zs) pp).1.resk,.int .i64 (blkP (parI zs) pp).1.resn,.slice a3 l3 c3,.slice a4 l4 c4,.slice a5 l5 c5] 49)) (encBlks [(blkP (parI zs) pp).1]) u.heap.size 0 bd):=(hv.kept ga (fun _ _=>by simp)).own (cells_new (hnw u _));have AC:Hid (SlG (u.alloc (.cells #[.slice a1 l1 c1,.int .i64 (blkP (parI zs) pp).1.argk,.int .i64 (blkP (parI zs) pp).1.argn,.slice a2 l2 c2,.int .i64 (blkP (parI zs) pp).1.resk,.int .i64 (blkP (parI zs) pp).1.resn,.slice a3 l3 c3,.slice a4 l4 c4,.slice a5 l5 c5] 49)) 9 a j c (encBlks P) bs∧bs.Nodup∧(∀ x ∈ bs,x ∉ bd)∧bd.Nodup∧(j=0→c=0∧a=none)):=⟨(HR.out.2.2.1.kept hg1 (fun y hy=>by have:=HR.out.2.2.2.2.1 y hy;have:=PQ.out;simp;omega)).old ga,HR.out.2.2.2.1,fun x hx hy=>by have:=hbl x hx;have:=hlo x hy;omega,hnd,HR.out.2.2.2.2.2.1⟩
    have FR:Hid (w.grownBy (u.alloc (.cells #[.slice a1 l1 c1,.int .i64 (blkP (parI zs) pp).1.argk,.int .i64 (blkP (parI zs) pp).1.argn,.slice a2 l2 c2,.int .i64 (blkP (parI zs) pp).1.resk,.int .i64 (blkP (parI zs) pp).1.resn,.slice a3 l3 c3,.slice a4 l4 c4,.slice a5 l5 c5] 49)) (some q)∧CRd (u.alloc (.cells #[.slice a1 l1 c1,.int .i64 (blkP (parI zs) pp).1.argk,.int .i64 (blkP (parI zs) pp).1.argn,.slice a2 l2 c2,.int .i64 (blkP (parI zs) pp).1.resk,.int .i64 (blkP (parI zs) pp).1.resn,.slice a3 l3 c3,.slice a4 l4 c4,.slice a5 l5 c5] 49)) q g N ((blkP (parI zs)) pp).2∧(∀ y ∈ bs,w.heap.size≤y)∧(∀ y ∈ bd,w.heap.size≤y)∧w.heap.size≤(u.alloc (.cells #[.slice a1 l1 c1,.int .i64 (blkP (parI zs) pp).1.argk,.int .i64 (blkP (parI zs) pp).1.argn,.slice a2 l2 c2,.int .i64 (blkP (parI zs) pp).1.resk,.int .i64 (blkP (parI zs) pp).1.resn,.slice a3 l3 c3,.slice a4 l4 c4,.slice a5 l5 c5] 49)).heap.size∧∀ x ∈ P,BytB x):=⟨gtr HR.out.1 (gtr hg1 (wide_none ga _)),CRd.old hc1 ga,HR.out.2.2.2.2.1,fun y hy=>by have:=hlo y hy;omega,by have:=hg1.size;have:=ga.size;omega,HR.out.2.2.2.2.2.2⟩
    have BY:Hid _:=hby;clear CO HR hg1 hc1 hv hnd hlo hw0 ga hbl z0 z1 h0 h3 hby;obtain ⟨i0,hi,hz0,hz1,hz2⟩:=info_parts infoBlk;go_wp2_with (at_builtin;go_must (refine wpList_pushG rfl (.tmp 20) (.tmp 23) 24 rfl 49 i0 _ Tryz.underlying24 hi hz0 9 hz1 (by rw[hz2];decide) rfl a j c _ bs rfl AC.out.1 AC.out.2.1 AC.out.2.2.2.2 (by omega) u.heap.size 0 rfl _ bd OX.out rfl AC.out.2.2.2.1 AC.out.2.2.1 ?_);intro a3 c3 bs3 u3 h1 h2 h3 h4)
    have hlow:∀ y ∈ bs3,w.heap.size≤y:=fun y hy=>by
     rcases h3 y hy with h|h|h
     ·
      exact FR.out.2.2.1 y h
     ·
      exact FR.out.2.2.2.1 y h
     ·
      have:=FR.out.2.2.2.2.1;omega
    have gq:=Tn.freshR FR.out.1 h4 FR.out.2.2.1;have hcq:CRd u3 q g N ((blkP (parI zs)) pp).2:=(h4.block _ (lbk FR.out.2.1) (fun hx=>by have:=FR.out.2.2.1 _ hx;have:=PQ.out;omega)).trans FR.out.2.1
    have hEn:(encBlks P).app (encBlks [(blkP (parI zs) pp).1])=(encBlks (P++[((blkP (parI zs) pp).1)])):=by rw[encBlks_app]
    rw[hEn] at h1;have RN:Hid (w.grownBy u3 (some q)∧CRd u3 q g N ((blkP (parI zs)) pp).2∧SlG u3 9 a3 (j+1) c3 (encBlks (P++[((blkP (parI zs) pp).1)])) bs3∧bs3.Nodup∧(∀ y ∈ bs3,w.heap.size≤y)∧(j+1=0→c3=0∧a3=none)∧∀ x ∈ P++[((blkP (parI zs) pp).1)],BytB x):=⟨gq,hcq,h1,h2,hlow,fun h=>by omega,fun x hx=>(List.mem_append.1 hx).elim (fun h=>FR.out.2.2.2.2.2 x h) (fun h=>by rw[List.mem_singleton.1 h];exact BY.out)⟩;clear AC OX FR h1 h2 h3 h4 hlow gq hcq hEn i0 hi hz0 hz1 hz2
    have HE2:Hid (listN (blkP (parI zs)) n.toNat p1=((P++[((blkP (parI zs) pp).1)])++(listN (blkP (parI zs)) (n.toNat - (j+1)) ((blkP (parI zs)) pp).2).1,(listN (blkP (parI zs)) (n.toNat - (j+1)) ((blkP (parI zs)) pp).2).2)):=by
     show _=_
     rw[HE.out,show n.toNat - j=(n.toNat - (j+1))+1 by omega,listN_succ _ _ hpp,lD9];rfl
    have HP2:Hid (((blkP (parI zs)) pp).2 < 0∨(0≤p1∧p1+(j+1:Nat)≤((blkP (parI zs)) pp).2)):=by show _∨_;have:=HP.out;have:=HA.out;omega
    have hN2:((blkP (parI zs)) pp).2≤N:=by have:=HA.out;omega
    go_roundw
    case rel=>exact ⟨j+1,P++[((blkP (parI zs) pp).1)],((blkP (parI zs)) pp).2,a3,c3,bs3,rfl,RN,by simp [hPl],by omega,HE2,hN2,HP2⟩
    case measure=>simp;omega
   ·
    have HF:Hid (listP (parI zs) (blkP (parI zs)) 0 p=(P,pp)):=by show _=_;rw[HL.out,HE.out,listN_neg _ _ (by omega)];simp
    clear HE HL;go_wp2;go_ret;rw[HF.out];exact ⟨⟨a,c,bs,by rw[hPl];rfl,HR.out.1,HR.out.2.1,by rw[hPl];exact HR.out.2.2.1,HR.out.2.2.2.1,HR.out.2.2.2.2.1⟩,HR.out.2.2.2.2.2.2⟩
  ·
   have HF:Hid (listP (parI zs) (blkP (parI zs)) 0 p=(P,pp)):=by show _=_;rw[HL.out,HE.out,show n.toNat - j=0 by omega];simp [listN]
   clear HE HL;go_wp2;go_ret;rw[HF.out];exact ⟨⟨a,c,bs,by rw[hPl];rfl,HR.out.1,HR.out.2.1,by rw[hPl];exact HR.out.2.2.1,HR.out.2.2.2.1,HR.out.2.2.2.2.1⟩,HR.out.2.2.2.2.2.2⟩
theorem rlTysC (q g N:Nat) (zs:List Int) (p:Int) (w:World) (hB:Byq w q g N zs) (b:CRd w q g N p) (hp:p≤9223372036854775807) :
  Calls Tryz.prog 62 #[.pointer (some ⟨q,0,none⟩),.func (Fn.func 63) #[.pointer (some ⟨q,0,none⟩)] #[]] w fun e u=>RlA w u q g N 1 (encTys (listP (parI zs) (typesP (parI zs) 3) 0 p).1) (listP (parI zs) (typesP (parI zs) 3) 0 p).1.length (listP (parI zs) (typesP (parI zs) 3) 0 p).2 e:=by
 have HB:Hid (Byq w q g N zs):=hB;have CN:Hid _:=numC q g N zs p w hB b hp;have PQ:Hid (q < w.heap.size):=lbk b;have NB:Hid (N≤30000∧zs.length=N):=⟨hB.2.2.2.1,hB.2.1⟩;have hbb:=getNum_bounds zs hB.2.2.1 p;rw[hB.2.1] at hbb;have ADV:Hid (Adv N (typesP (parI zs) 3)):=typesP_adv hB.2.2.1 hB.2.1;clear hB b;obtain ⟨n,p1,hn⟩:∃ n p1,getNum zs p=(n,p1):=⟨_,_,rfl⟩
 have HL:Hid (listP (parI zs) (typesP (parI zs) 3) 0 p=listN (typesP (parI zs) 3) n.toNat p1):=by show _=_;unfold listP;simp [parI,hn]
 rw[hn] at hbb CN;simp only[] at hbb CN
 have hn0:0≤n:=by
  rcases hbb with h|h
  ·
   injection h with h1 h2;omega
  ·
   exact h.1
 have hp1:p1≤N:=by
  rcases hbb with h|h
  ·
   injection h with h1 h2;omega
  ·
   exact h.2.2
 clear hbb hn;go_enter Tryz.func62,Tryz.ntmps62;go_wp2_with fail;refine Calls.mono CN.out ?_;rintro e u0 ⟨rfl,hg,hc⟩;have L0:Hid (w.grownBy u0 (some q)∧CRd u0 q g N p1):=⟨hg,hc⟩;clear CN hg hc;simp only[];go_wp2
 go_loopw [5] (fun s5 wr=>∃ (j:Nat) (P:List (F)) (pp:Int) (a:Option Addr) (c:Nat) (bs:List Nat),s5 = .slice a j c∧Hid (w.grownBy wr (some q)∧CRd wr q g N pp∧SlG wr 1 a j c (encTys P) bs∧bs.Nodup∧(∀ y ∈ bs,w.heap.size≤y)∧(j=0→c=0∧a=none))∧P.length=j∧(j:Int)≤n∧Hid (listN (typesP (parI zs) 3) n.toNat p1=(P++(listN (typesP (parI zs) 3) (n.toNat - j) pp).1,(listN (typesP (parI zs) 3) (n.toNat - j) pp).2))∧pp≤N∧Hid (pp < 0∨(0≤p1∧p1+j≤pp))) (fun s _=>n.toNat - (match s with | .slice _ l _=>l|_=>0))
 case atStart=>exact ⟨0,[],p1,none,0,[],rfl,⟨L0.out.1,L0.out.2,SlG.nil _ _ _ _,List.nodup_nil,fun y hy=>by simp at hy,fun _=>⟨rfl,rfl⟩⟩,rfl,by simpa using hn0,by show _=_;simp,hp1,by show _∨_;omega⟩
 case round =>
  obtain ⟨j,P,pp,a,c,bs,rfl,HR,hPl,hjn,HE,hpN,HP⟩:=hrel;clear L0;obtain ⟨⟨z0,z1⟩,h0,h3⟩:=two HR.out.2.1
  have hjb:(j:Int)≤2000000000∨2000000000 < (j:Int):=by omega
  by_cases hlt:(j:Int) < n
  ·
   by_cases hpp:0≤pp
   ·
    have hj3:j≤30000:=by have:=HP.out;have:=NB.out.1;omega
    have CO:Hid _:=typesC q g N zs pp wr (HB.out.to HR.out.1) HR.out.2.1 (by have:=NB.out.1;omega);have HA:Hid _:=ADV.out pp hpp hpN;go_wp2_with fail;refine Calls.mono CO.out ?_;rintro e u ⟨a1,c1,rfl,hg1,hc1,bd,hv,hnd,hlo⟩;have hw0:=HR.out.1.size;have ga:=gal u (.cells #[.slice a1 (typesP (parI zs) 3 pp).1.len c1] 43) none
    have hbl:∀ y ∈ bs,y < wr.heap.size:=fun y hy=>HR.out.2.2.1.lt y hy
    have OX:Hid (OwnG (u.alloc (.cells #[.slice a1 (typesP (parI zs) 3 pp).1.len c1] 43)) (.sl 3 (encF (typesP (parI zs) 3 pp).1) .nil) u.heap.size 0 bd):=(hv.kept ga (fun _ _=>by simp)).own (cells_new (hnw u _));have AC:Hid (SlG (u.alloc (.cells #[.slice a1 (typesP (parI zs) 3 pp).1.len c1] 43)) 1 a j c (encTys P) bs∧bs.Nodup∧(∀ x ∈ bs,x ∉ bd)∧bd.Nodup∧(j=0→c=0∧a=none)):=⟨(HR.out.2.2.1.kept hg1 (fun y hy=>by have:=HR.out.2.2.2.2.1 y hy;have:=PQ.out;simp;omega)).old ga,HR.out.2.2.2.1,fun x hx hy=>by have:=hbl x hx;have:=hlo x hy;omega,hnd,HR.out.2.2.2.2.2⟩;have FR:Hid (w.grownBy (u.alloc (.cells #[.slice a1 (typesP (parI zs) 3 pp).1.len c1] 43)) (some q)∧CRd (u.alloc (.cells #[.slice a1 (typesP (parI zs) 3 pp).1.len c1] 43)) q g N ((typesP (parI zs) 3) pp).2∧(∀ y ∈ bs,w.heap.size≤y)∧(∀ y ∈ bd,w.heap.size≤y)∧w.heap.size≤(u.alloc (.cells #[.slice a1 (typesP (parI zs) 3 pp).1.len c1] 43)).heap.size):=⟨gtr HR.out.1 (gtr hg1 (wide_none ga _)),CRd.old hc1 ga,HR.out.2.2.2.2.1,fun y hy=>by have:=hlo y hy;omega,by have:=hg1.size;have:=ga.size;omega⟩
    skip
    clear CO HR hg1 hc1 hv hnd hlo hw0 ga hbl z0 z1 h0 h3;obtain ⟨i0,hi,hz0,hz1,hz2⟩:=info_parts infoTys;go_wp2_with (at_builtin;go_must (refine wpList_pushG rfl (.tmp 20) (.tmp 23) 40 rfl 43 i0 _ Tryz.underlying40 hi hz0 1 hz1 (by rw[hz2];decide) rfl a j c _ bs rfl AC.out.1 AC.out.2.1 AC.out.2.2.2.2 (by omega) u.heap.size 0 rfl _ bd OX.out rfl AC.out.2.2.2.1 AC.out.2.2.1 ?_);intro a3 c3 bs3 u3 h1 h2 h3 h4)
    have hlow:∀ y ∈ bs3,w.heap.size≤y:=fun y hy=>by
     rcases h3 y hy with h|h|h
     ·
      exact FR.out.2.2.1 y h
     ·
      exact FR.out.2.2.2.1 y h
     ·
      have:=FR.out.2.2.2.2;omega
    have gq:=Tn.freshR FR.out.1 h4 FR.out.2.2.1;have hcq:CRd u3 q g N ((typesP (parI zs) 3) pp).2:=(h4.block _ (lbk FR.out.2.1) (fun hx=>by have:=FR.out.2.2.1 _ hx;have:=PQ.out;omega)).trans FR.out.2.1
    have hEn:(encTys P).app (.sl 3 (encF (typesP (parI zs) 3 pp).1) .nil)=(encTys (P++[((typesP (parI zs) 3 pp).1)])):=by rw[encTys_app];rfl
    rw[hEn] at h1;have RN:Hid (w.grownBy u3 (some q)∧CRd u3 q g N ((typesP (parI zs) 3) pp).2∧SlG u3 1 a3 (j+1) c3 (encTys (P++[((typesP (parI zs) 3 pp).1)])) bs3∧bs3.Nodup∧(∀ y ∈ bs3,w.heap.size≤y)∧(j+1=0→c3=0∧a3=none)):=⟨gq,hcq,h1,h2,hlow,fun h=>by omega⟩;clear AC OX FR h1 h2 h3 h4 hlow gq hcq hEn i0 hi hz0 hz1 hz2
    have HE2:Hid (listN (typesP (parI zs) 3) n.toNat p1=((P++[((typesP (parI zs) 3 pp).1)])++(listN (typesP (parI zs) 3) (n.toNat - (j+1)) ((typesP (parI zs) 3) pp).2).1,(listN (typesP (parI zs) 3) (n.toNat - (j+1)) ((typesP (parI zs) 3) pp).2).2)):=by
     show _=_
     rw[HE.out,show n.toNat - j=(n.toNat - (j+1))+1 by omega,listN_succ _ _ hpp,lD9];rfl
    have HP2:Hid (((typesP (parI zs) 3) pp).2 < 0∨(0≤p1∧p1+(j+1:Nat)≤((typesP (parI zs) 3) pp).2)):=by show _∨_;have:=HP.out;have:=HA.out;omega
    have hN2:((typesP (parI zs) 3) pp).2≤N:=by have:=HA.out;omega
    go_roundw
    case rel=>exact ⟨j+1,P++[((typesP (parI zs) 3 pp).1)],((typesP (parI zs) 3) pp).2,a3,c3,bs3,rfl,RN,by simp [hPl],by omega,HE2,hN2,HP2⟩
    case measure=>simp;omega
   ·
    have HF:Hid (listP (parI zs) (typesP (parI zs) 3) 0 p=(P,pp)):=by show _=_;rw[HL.out,HE.out,listN_neg _ _ (by omega)];simp
    clear HE HL;go_wp2;go_ret;rw[HF.out];exact ⟨a,c,bs,by rw[hPl];rfl,HR.out.1,HR.out.2.1,by rw[hPl];exact HR.out.2.2.1,HR.out.2.2.2.1,HR.out.2.2.2.2.1⟩
  ·
   have HF:Hid (listP (parI zs) (typesP (parI zs) 3) 0 p=(P,pp)):=by show _=_;rw[HL.out,HE.out,show n.toNat - j=0 by omega];simp [listN]
   clear HE HL;go_wp2;go_ret;rw[HF.out];exact ⟨a,c,bs,by rw[hPl];rfl,HR.out.1,HR.out.2.1,by rw[hPl];exact HR.out.2.2.1,HR.out.2.2.2.1,HR.out.2.2.2.2.1⟩
theorem layC (q g N:Nat) (zs:List Int) (p:Int) (w:World) (hB:Byq w q g N zs) (b:CRd w q g N p) (hp:p≤9223372036854775807) :
  Calls Tryz.prog 38 #[.pointer (some ⟨q,0,none⟩)] w fun e u=>∃ a c,e = .returned (.agg #[.slice a (layP (parI zs) p).1.cons.length c])∧Own1 w u q g N (layP (parI zs) p).2 [.slice a (layP (parI zs) p).1.cons.length c] (.sl 1 (encTys (layP (parI zs) p).1.cons) .nil):=by
 have ga:=gal w (.cells #[.slice none 0 0] 42) none;have b0:=hnw w (.cells #[.slice none 0 0] 42);have C0:Hid _:=rlTysC q g N zs p (w.alloc (.cells #[.slice none 0 0] 42)) (hB.old ga) (CRd.old b ga) hp;have L0:Hid (w.grownBy (w.alloc (.cells #[.slice none 0 0] 42)) none∧(w.alloc (.cells #[.slice none 0 0] 42)).heap[w.heap.size]? = some (.cells #[.slice none 0 0] 42)∧q < w.heap.size):=⟨ga,b0,lbk b⟩;clear hB b ga b0;go_enter Tryz.func38,Tryz.ntmps38;go_wp2_with fail;generalize e2:w.heap.size=q2 at *;have PE:Hid (w.heap.size=q2):=e2;clear e2;refine Calls.mono C0.out ?_;rintro e u ⟨a,c,bs,rfl,hg,hc,hS,hn,hlo⟩;have bz:=(hg.block _ (lbk L0.out.2.1) (by have:=L0.out.2.2;simp;omega)).trans L0.out.2.1;have hq:=lbk L0.out.2.1;obtain ⟨d2,k2⟩:=fillLayout (.slice a (listP (parI zs) (typesP (parI zs) 3) 0 p).1.length c) bz;have FQ:Hid (_∧w.grownBy _ (some q)∧CRd _ q g N (listP (parI zs) (typesP (parI zs) 3) 0 p).2∧SlG _ 1 a (listP (parI zs) (typesP (parI zs) 3) 0 p).1.length c (encTys (listP (parI zs) (typesP (parI zs) 3) 0 p).1) bs∧bs.Nodup∧∀ y ∈ bs,q2≤y):=⟨d2,grown_intoR (gtr (wide_none L0.out.1 _) hg) k2 (by have:=PE.out;omega),(k2.block _ (lbk hc) (by have:=L0.out.2.2;simp;omega)).trans hc,hS.kept k2 (fun y hy=>by have:=hlo y hy;simp;omega),hn,fun y hy=>by have:=hlo y hy;omega⟩
 obtain ⟨y0,f0⟩:=blkLayout bz;have f00:=f0 0;clear C0 L0 hg hc hS hn hlo bz hq d2 k2 f0;simp only[];go_wp2
 (try simp only[Exit.inBlock,Exit.then])
 refine bodyPost_ret (results_cell_row (P:=Tryz.prog) Tryz.results38 _ _ q2 _ _ _ _ rfl FQ.out.1 Tryz.underlying42 rfl (by kernel_rfl)) rfl ?_;exact ⟨a,c,rfl,FQ.out.2.1,FQ.out.2.2.1,bs,⟨bs,[],a,_,c,by simp,rfl,FQ.out.2.2.2.1,rfl⟩,FQ.out.2.2.2.2.1,fun y hy=>by rw[PE.out];exact FQ.out.2.2.2.2.2 y hy⟩
theorem rlLayoutC (q g N:Nat) (zs:List Int) (p:Int) (w:World) (hB:Byq w q g N zs) (b:CRd w q g N p) (hp:p≤9223372036854775807) :
  Calls Tryz.prog 37 #[.pointer (some ⟨q,0,none⟩),.func (Fn.func 38) #[.pointer (some ⟨q,0,none⟩)] #[]] w fun e u=>RlA w u q g N 1 (encLays (listP (parI zs) (layP (parI zs)) 0 p).1) (listP (parI zs) (layP (parI zs)) 0 p).1.length (listP (parI zs) (layP (parI zs)) 0 p).2 e:=by
 have HB:Hid (Byq w q g N zs):=hB;have CN:Hid _:=numC q g N zs p w hB b hp;have PQ:Hid (q < w.heap.size):=lbk b;have NB:Hid (N≤30000∧zs.length=N):=⟨hB.2.2.2.1,hB.2.1⟩;have hbb:=getNum_bounds zs hB.2.2.1 p;rw[hB.2.1] at hbb;have ADV:Hid (Adv N (layP (parI zs))):=layP_adv hB.2.2.1 hB.2.1;clear hB b;obtain ⟨n,p1,hn⟩:∃ n p1,getNum zs p=(n,p1):=⟨_,_,rfl⟩
 have HL:Hid (listP (parI zs) (layP (parI zs)) 0 p=listN (layP (parI zs)) n.toNat p1):=by show _=_;unfold listP;simp [parI,hn]
 rw[hn] at hbb CN;simp only[] at hbb CN
 have hn0:0≤n:=by
  rcases hbb with h|h
  ·
   injection h with h1 h2;omega
  ·
   exact h.1
 have hp1:p1≤N:=by
  rcases hbb with h|h
  ·
   injection h with h1 h2;omega
  ·
   exact h.2.2
 clear hbb hn;go_enter Tryz.func37,Tryz.ntmps37;go_wp2_with fail;refine Calls.mono CN.out ?_;rintro e u0 ⟨rfl,hg,hc⟩;have L0:Hid (w.grownBy u0 (some q)∧CRd u0 q g N p1):=⟨hg,hc⟩;clear CN hg hc;simp only[];go_wp2
 go_loopw [5] (fun s5 wr=>∃ (j:Nat) (P:List (RLayout)) (pp:Int) (a:Option Addr) (c:Nat) (bs:List Nat),s5 = .slice a j c∧Hid (w.grownBy wr (some q)∧CRd wr q g N pp∧SlG wr 1 a j c (encLays P) bs∧bs.Nodup∧(∀ y ∈ bs,w.heap.size≤y)∧(j=0→c=0∧a=none))∧P.length=j∧(j:Int)≤n∧Hid (listN (layP (parI zs)) n.toNat p1=(P++(listN (layP (parI zs)) (n.toNat - j) pp).1,(listN (layP (parI zs)) (n.toNat - j) pp).2))∧pp≤N∧Hid (pp < 0∨(0≤p1∧p1+j≤pp))) (fun s _=>n.toNat - (match s with | .slice _ l _=>l|_=>0))
 case atStart=>exact ⟨0,[],p1,none,0,[],rfl,⟨L0.out.1,L0.out.2,SlG.nil _ _ _ _,List.nodup_nil,fun y hy=>by simp at hy,fun _=>⟨rfl,rfl⟩⟩,rfl,by simpa using hn0,by show _=_;simp,hp1,by show _∨_;omega⟩
 case round =>
  obtain ⟨j,P,pp,a,c,bs,rfl,HR,hPl,hjn,HE,hpN,HP⟩:=hrel;clear L0;obtain ⟨⟨z0,z1⟩,h0,h3⟩:=two HR.out.2.1
  have hjb:(j:Int)≤2000000000∨2000000000 < (j:Int):=by omega
  by_cases hlt:(j:Int) < n
  ·
   by_cases hpp:0≤pp
   ·
    have hj3:j≤30000:=by have:=HP.out;have:=NB.out.1;omega
    have CO:Hid _:=layC q g N zs pp wr (HB.out.to HR.out.1) HR.out.2.1 (by have:=NB.out.1;omega);have HA:Hid _:=ADV.out pp hpp hpN;go_wp2_with fail;refine Calls.mono CO.out ?_;rintro e u ⟨a1,c1,rfl,hg1,hc1,bd,hv,hnd,hlo⟩;have hw0:=HR.out.1.size;have ga:=gal u (.cells #[.slice a1 (layP (parI zs) pp).1.cons.length c1] 42) none
    have hbl:∀ y ∈ bs,y < wr.heap.size:=fun y hy=>HR.out.2.2.1.lt y hy
    have OX:Hid (OwnG (u.alloc (.cells #[.slice a1 (layP (parI zs) pp).1.cons.length c1] 42)) (.sl 1 (encTys (layP (parI zs) pp).1.cons) .nil) u.heap.size 0 bd):=(hv.kept ga (fun _ _=>by simp)).own (cells_new (hnw u _));have AC:Hid (SlG (u.alloc (.cells #[.slice a1 (layP (parI zs) pp).1.cons.length c1] 42)) 1 a j c (encLays P) bs∧bs.Nodup∧(∀ x ∈ bs,x ∉ bd)∧bd.Nodup∧(j=0→c=0∧a=none)):=⟨(HR.out.2.2.1.kept hg1 (fun y hy=>by have:=HR.out.2.2.2.2.1 y hy;have:=PQ.out;simp;omega)).old ga,HR.out.2.2.2.1,fun x hx hy=>by have:=hbl x hx;have:=hlo x hy;omega,hnd,HR.out.2.2.2.2.2⟩;have FR:Hid (w.grownBy (u.alloc (.cells #[.slice a1 (layP (parI zs) pp).1.cons.length c1] 42)) (some q)∧CRd (u.alloc (.cells #[.slice a1 (layP (parI zs) pp).1.cons.length c1] 42)) q g N ((layP (parI zs)) pp).2∧(∀ y ∈ bs,w.heap.size≤y)∧(∀ y ∈ bd,w.heap.size≤y)∧w.heap.size≤(u.alloc (.cells #[.slice a1 (layP (parI zs) pp).1.cons.length c1] 42)).heap.size):=⟨gtr HR.out.1 (gtr hg1 (wide_none ga _)),CRd.old hc1 ga,HR.out.2.2.2.2.1,fun y hy=>by have:=hlo y hy;omega,by have:=hg1.size;have:=ga.size;omega⟩
    skip
    clear CO HR hg1 hc1 hv hnd hlo hw0 ga hbl z0 z1 h0 h3;obtain ⟨i0,hi,hz0,hz1,hz2⟩:=info_parts infoLay;go_wp2_with (at_builtin;go_must (refine wpList_pushG rfl (.tmp 20) (.tmp 23) 23 rfl 42 i0 _ Tryz.underlying23 hi hz0 1 hz1 (by rw[hz2];decide) rfl a j c _ bs rfl AC.out.1 AC.out.2.1 AC.out.2.2.2.2 (by omega) u.heap.size 0 rfl _ bd OX.out rfl AC.out.2.2.2.1 AC.out.2.2.1 ?_);intro a3 c3 bs3 u3 h1 h2 h3 h4)
    have hlow:∀ y ∈ bs3,w.heap.size≤y:=fun y hy=>by
     rcases h3 y hy with h|h|h
     ·
      exact FR.out.2.2.1 y h
     ·
      exact FR.out.2.2.2.1 y h
     ·
      have:=FR.out.2.2.2.2;omega
    have gq:=Tn.freshR FR.out.1 h4 FR.out.2.2.1;have hcq:CRd u3 q g N ((layP (parI zs)) pp).2:=(h4.block _ (lbk FR.out.2.1) (fun hx=>by have:=FR.out.2.2.1 _ hx;have:=PQ.out;omega)).trans FR.out.2.1
    have hEn:(encLays P).app (.sl 1 (encTys (layP (parI zs) pp).1.cons) .nil)=(encLays (P++[((layP (parI zs) pp).1)])):=by rw[encLays_app];rfl
    rw[hEn] at h1;have RN:Hid (w.grownBy u3 (some q)∧CRd u3 q g N ((layP (parI zs)) pp).2∧SlG u3 1 a3 (j+1) c3 (encLays (P++[((layP (parI zs) pp).1)])) bs3∧bs3.Nodup∧(∀ y ∈ bs3,w.heap.size≤y)∧(j+1=0→c3=0∧a3=none)):=⟨gq,hcq,h1,h2,hlow,fun h=>by omega⟩;clear AC OX FR h1 h2 h3 h4 hlow gq hcq hEn i0 hi hz0 hz1 hz2
    have HE2:Hid (listN (layP (parI zs)) n.toNat p1=((P++[((layP (parI zs) pp).1)])++(listN (layP (parI zs)) (n.toNat - (j+1)) ((layP (parI zs)) pp).2).1,(listN (layP (parI zs)) (n.toNat - (j+1)) ((layP (parI zs)) pp).2).2)):=by
     show _=_
     rw[HE.out,show n.toNat - j=(n.toNat - (j+1))+1 by omega,listN_succ _ _ hpp,lD9];rfl
    have HP2:Hid (((layP (parI zs)) pp).2 < 0∨(0≤p1∧p1+(j+1:Nat)≤((layP (parI zs)) pp).2)):=by show _∨_;have:=HP.out;have:=HA.out;omega
    have hN2:((layP (parI zs)) pp).2≤N:=by have:=HA.out;omega
    go_roundw
    case rel=>exact ⟨j+1,P++[((layP (parI zs) pp).1)],((layP (parI zs)) pp).2,a3,c3,bs3,rfl,RN,by simp [hPl],by omega,HE2,hN2,HP2⟩
    case measure=>simp;omega
   ·
    have HF:Hid (listP (parI zs) (layP (parI zs)) 0 p=(P,pp)):=by show _=_;rw[HL.out,HE.out,listN_neg _ _ (by omega)];simp
    clear HE HL;go_wp2;go_ret;rw[HF.out];exact ⟨a,c,bs,by rw[hPl];rfl,HR.out.1,HR.out.2.1,by rw[hPl];exact HR.out.2.2.1,HR.out.2.2.2.1,HR.out.2.2.2.2.1⟩
  ·
   have HF:Hid (listP (parI zs) (layP (parI zs)) 0 p=(P,pp)):=by show _=_;rw[HL.out,HE.out,show n.toNat - j=0 by omega];simp [listN]
   clear HE HL;go_wp2;go_ret;rw[HF.out];exact ⟨a,c,bs,by rw[hPl];rfl,HR.out.1,HR.out.2.1,by rw[hPl];exact HR.out.2.2.1,HR.out.2.2.2.1,HR.out.2.2.2.2.1⟩
end Go.Proofs.YtnmlbeefjjohfaaGreatDoor.By
