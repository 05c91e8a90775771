/-
  No statement is proved here.
-/
import Derived.Test.YtnmlbeefjjohfaaGreatDoorWCSh
import Derived.Test.YtnmlbeefjjohfaaGreatDoorSRDSh
namespace Go.Proofs.YtnmlbeefjjohfaaGreatDoor.By
set_option maxRecDepth 100000
set_option maxHeartbeats 16000000
open Go.RowKit
set_option linter.unusedVariables false
set_option linter.unusedSimpArgs false
theorem specProgT (x:RProg) (a1:Option Addr) (l1 c1:Nat) (a2:Option Addr) (l2 c2:Nat) (a3:Option Addr) (l3 c3:Nat) (w:World) (h:RdProg w x a1 l1 a2 l2 a3 l3) :
  Calls Tryz.prog 16 #[.agg #[.slice a1 l1 c1,.slice a2 l2 c2,.slice a3 l3 c3]] w fun e u=>e = .returned (.bool (okP x))∧w.grownBy u none:=by
 have g0:=gal w (.cells #[.slice a1 l1 c1,.slice a2 l2 c2,.slice a3 l3 c3] 27) none;have b0:=hnw w (.cells #[.slice a1 l1 c1,.slice a2 l2 c2,.slice a3 l3 c3] 27);have C0:Hid _:=l8programOkT x a1 l1 c1 a2 l2 c2 a3 l3 c3 (w.alloc (.cells #[.slice a1 l1 c1,.slice a2 l2 c2,.slice a3 l3 c3] 27)) (h.none g0);have L0:Hid (w.grownBy _ none∧_=some (Obj.cells #[.slice a1 l1 c1,.slice a2 l2 c2,.slice a3 l3 c3] 27)):=⟨g0,b0⟩
 have HS:Hid (∀ u,w.grownBy u none→RdProg u x a1 l1 a2 l2 a3 l3):=fun u hu=>h.none hu
 obtain ⟨⟨y0,y1,y2⟩,-⟩:=blkProg b0;clear h g0 b0;go_enter Tryz.func16,Tryz.ntmps16;go_wp2_with fail;refine Calls.mono C0.out ?_;rintro e u0 ⟨he,hg⟩;subst he;have L1:Hid (w.grownBy u0 none∧u0.heap[w.heap.size]? = some (Obj.cells #[.slice a1 l1 c1,.slice a2 l2 c2,.slice a3 l3 c3] 27)):=⟨gtr L0.out.1 hg,(hg.block _ (lbk L0.out.2) (by simp)).trans L0.out.2⟩;clear C0 L0 hg y0 y1 y2;generalize w.heap.size=p0 at *;obtain ⟨⟨y0,y1,y2⟩,-⟩:=blkProg L1.out.2;simp only[]
 cases hst:standsV x with
 | false =>
  have E:Hid (okP x=false):=by show _=_;unfold okP;rw[hst];rfl
  go_wp2;go_ret;exact ⟨by rw[E.out];rfl,L1.out.1⟩
 | true =>
  have C1:Hid _:=l8bytesT x a1 l1 c1 a2 l2 c2 a3 l3 c3 u0 (HS.out _ L1.out.1) hst;have hpl:=(progB_len hst).1
  have E:Hid (okP x=decide (([76,75]++progB x).length≤30000)):=by show _=_;unfold okP;rw[hst];rfl
  have E3:Hid (([76,75]++progB x).length=(progB x).length+2):=by show _=_;simp
  clear hst;go_wp2_with fail;refine Calls.mono C1.out ?_;rintro e u1 ⟨v,rfl,hA,hg⟩;obtain ⟨a',c',rfl,-⟩:=hA.owB;have G:Hid (w.grownBy u1 none):=gtr L1.out.1 hg;rw[E3.out];clear C1 hA hg y0 y1 y2;generalize hn:(progB x).length+2=n at *
  have E2:Hid (okP x=decide (n≤30000)):=by show _=_;rw[E.out,E3.out]
  simp only[];by_cases hle:n≤30000
  ·
   have hle':(n:Int)≤30000:=by omega
   go_wp2;go_ret;exact ⟨by rw[E2.out,decide_eq_true hle];rfl,G.out⟩
  ·
   have hle':¬ (n:Int)≤30000:=by omega
   go_wp2;go_ret;exact ⟨by rw[E2.out,decide_eq_false hle];rfl,G.out⟩
theorem specReadT (g N:Nat) (zs:List Int) (w:World) (h:Row w g N zs) (hl:zs.length=N) (hz:Byt zs) (hN:N≤1048576) :
  Calls Tryz.prog 4 #[.slice (some ⟨g,0,none⟩) N N] w fun e u=>RdA w u (rdX (parS zs) zs) (rdOk (parS zs) zs) e:=by
 have g0:=gal w (.cells #[.slice none 0 0,.slice none 0 0,.slice none 0 0] 27) none;have L0:Hid (w.grownBy (w.alloc (.cells #[.slice none 0 0,.slice none 0 0,.slice none 0 0] 27)) none∧(w.alloc (.cells #[.slice none 0 0,.slice none 0 0,.slice none 0 0] 27)).heap[w.heap.size]? = some (.cells #[.slice none 0 0,.slice none 0 0,.slice none 0 0] 27 (0,0))):=⟨g0,hnw w _⟩;have HZ:Hid (zs.length=N):=hl;by_cases hlong:30000 < N
 ·
  have EO:Hid (rdOk (parS zs) zs=false):=by show _=_;unfold rdOk;rw[HZ.out,show decide (N≤30000)=false by simpa using hlong];rfl
  clear h g0 hl hz;go_enter Tryz.func4,Tryz.ntmps4;go_upto_region 1 with fail;generalize (w.alloc (.cells #[.slice none 0 0,.slice none 0 0,.slice none 0 0] 27))=w0 at *;generalize e2:w.heap.size=q2 at *;have PE:Hid (w.heap.size=q2):=e2;have LZ:Hid _:=L0.out;clear e2 L0;obtain ⟨⟨y0,y1,y2⟩,hfy⟩:=blkProg LZ.out.2;have f0:=hfy 0;have f1:=hfy 1;have f2:=hfy 2;obtain ⟨dz,kz⟩:=fillProg (.slice none 0 0) (.slice none 0 0) (.slice none 0 0) LZ.out.2;have FQ:Hid (_∧w.grownBy _ none):=⟨dz,grown_into LZ.out.1 kz (by have:=PE.out;omega)⟩;clear hfy dz kz LZ;go_wp2
  (try simp only[Exit.inBlock,Exit.then])
  refine bodyPost_ret (results_cell2 (P:=Tryz.prog) Tryz.results4 _ _ q2 _ _ _ _ rfl FQ.out.1 Tryz.underlying27 rfl (by kernel_rfl)) rfl ?_;unfold rdX;rw[EO.out];exact ⟨none,0,none,0,none,0,[],[],[],rfl,FQ.out.2,⟨SlG.nil _ _ _ _,SlG.nil _ _ _ _,SlG.nil _ _ _ _,fun b hb=>by simp [prog0] at hb⟩,by simp,fun y hy=>by simp at hy⟩
 have hN3:N≤30000:=by omega
 by_cases h2:N < 2
 ·
  have EO:Hid (rdOk (parS zs) zs=false):=by
   show _=_
   unfold rdOk
   rw[show decide (zs.take 2=[76,75])=false by
    rw[decide_eq_false_iff_not];intro e;have:=congrArg List.length e;simp at this
    omega]
   simp
  clear h g0 hl hz;go_enter Tryz.func4,Tryz.ntmps4;go_upto_region 1 with fail;generalize (w.alloc (.cells #[.slice none 0 0,.slice none 0 0,.slice none 0 0] 27))=w0 at *;generalize e2:w.heap.size=q2 at *;have PE:Hid (w.heap.size=q2):=e2;have LZ:Hid _:=L0.out;clear e2 L0;obtain ⟨⟨y0,y1,y2⟩,hfy⟩:=blkProg LZ.out.2;have f0:=hfy 0;have f1:=hfy 1;have f2:=hfy 2;obtain ⟨dz,kz⟩:=fillProg (.slice none 0 0) (.slice none 0 0) (.slice none 0 0) LZ.out.2;have FQ:Hid (_∧w.grownBy _ none):=⟨dz,grown_into LZ.out.1 kz (by have:=PE.out;omega)⟩;clear hfy dz kz LZ;go_wp2
  (try simp only[Exit.inBlock,Exit.then])
  refine bodyPost_ret (results_cell2 (P:=Tryz.prog) Tryz.results4 _ _ q2 _ _ _ _ rfl FQ.out.1 Tryz.underlying27 rfl (by kernel_rfl)) rfl ?_;unfold rdX;rw[EO.out];exact ⟨none,0,none,0,none,0,[],[],[],rfl,FQ.out.2,⟨SlG.nil _ _ _ _,SlG.nil _ _ _ _,SlG.nil _ _ _ _,fun b hb=>by simp [prog0] at hb⟩,by simp,fun y hy=>by simp at hy⟩
 obtain ⟨z0,z1,zr,hzs⟩:∃ z0 z1 zr,zs=z0::z1::zr:=by
  match zs,hl with
  | [],hl=>simp at hl;omega
  | [_],hl=>simp at hl;omega
  | z0::z1::zr,_=>exact ⟨z0,z1,zr,rfl⟩
 have c0:(w.alloc (.cells #[.slice none 0 0,.slice none 0 0,.slice none 0 0] 27)).cell? ⟨g,0,none⟩=some (.int .u8 z0):=g0.cell (by rw[h.cell 0 (by omega),hzs];rfl) (by simp);have c1:(w.alloc (.cells #[.slice none 0 0,.slice none 0 0,.slice none 0 0] 27)).cell? ⟨g,1,none⟩=some (.int .u8 z1):=g0.cell (by rw[h.cell 1 (by omega),hzs];rfl) (by simp)
 have ET:Hid (decide (zs.take 2=[76,75])=(decide (z0=76) && decide (z1=75))):=by
  show _=_
  rw[hzs];rw[Bool.eq_iff_iff];simp
 have hi0:(0:Int) < N:=by omega
 have hi1:(1:Int) < N:=by omega
 by_cases e0:z0=76
 ·
  by_cases e1:z1=75
  ·
   have EP:Hid (decide (zs.take 2=[76,75])=true):=by show _=_;rw[ET.out,e0,e1];rfl
   have hb0:(z0 != 76)=false:=by rw[e0];rfl
   have hb1:(z1 != 75)=false:=by rw[e1];rfl
   have BH:Hid (Row w g N zs∧zs.length=N∧Byt zs∧N≤30000∧g < w.heap.size):=⟨h,hl,hz,hN3,h.lt⟩;have g1:=gal (w.alloc (.cells #[.slice none 0 0,.slice none 0 0,.slice none 0 0] 27)) (.cells #[.slice (some ⟨g,0,none⟩) N N,.int .i64 2] 38) none;have g2:=gal ((w.alloc (.cells #[.slice none 0 0,.slice none 0 0,.slice none 0 0] 27)).alloc (.cells #[.slice (some ⟨g,0,none⟩) N N,.int .i64 2] 38)) (.cells #[.slice none 0 0,.slice none 0 0,.slice none 0 0] 27) none
   have s1:(w.alloc (.cells #[.slice none 0 0,.slice none 0 0,.slice none 0 0] 27)).heap.size=w.heap.size+1:=by simp
   have s2:((w.alloc (.cells #[.slice none 0 0,.slice none 0 0,.slice none 0 0] 27)).alloc (.cells #[.slice (some ⟨g,0,none⟩) N N,.int .i64 2] 38)).heap.size=w.heap.size+1+1:=by simp
   have b1:=hnw (w.alloc (.cells #[.slice none 0 0,.slice none 0 0,.slice none 0 0] 27)) (.cells #[.slice (some ⟨g,0,none⟩) N N,.int .i64 2] 38);have b2:=hnw ((w.alloc (.cells #[.slice none 0 0,.slice none 0 0,.slice none 0 0] 27)).alloc (.cells #[.slice (some ⟨g,0,none⟩) N N,.int .i64 2] 38)) (.cells #[.slice none 0 0,.slice none 0 0,.slice none 0 0] 27);rw[s1] at b1;rw[s2] at b2;have L3:Hid (w.grownBy (((w.alloc (.cells #[.slice none 0 0,.slice none 0 0,.slice none 0 0] 27)).alloc (.cells #[.slice (some ⟨g,0,none⟩) N N,.int .i64 2] 38)).alloc (.cells #[.slice none 0 0,.slice none 0 0,.slice none 0 0] 27)) none∧SCd (((w.alloc (.cells #[.slice none 0 0,.slice none 0 0,.slice none 0 0] 27)).alloc (.cells #[.slice (some ⟨g,0,none⟩) N N,.int .i64 2] 38)).alloc (.cells #[.slice none 0 0,.slice none 0 0,.slice none 0 0] 27)) (w.heap.size+1) g N 2∧(((w.alloc (.cells #[.slice none 0 0,.slice none 0 0,.slice none 0 0] 27)).alloc (.cells #[.slice (some ⟨g,0,none⟩) N N,.int .i64 2] 38)).alloc (.cells #[.slice none 0 0,.slice none 0 0,.slice none 0 0] 27)).heap[w.heap.size]? = some (.cells #[.slice none 0 0,.slice none 0 0,.slice none 0 0] 27 (0,0))∧(((w.alloc (.cells #[.slice none 0 0,.slice none 0 0,.slice none 0 0] 27)).alloc (.cells #[.slice (some ⟨g,0,none⟩) N N,.int .i64 2] 38)).alloc (.cells #[.slice none 0 0,.slice none 0 0,.slice none 0 0] 27)).heap[w.heap.size+1+1]? = some (.cells #[.slice none 0 0,.slice none 0 0,.slice none 0 0] 27 (0,0))):=⟨gtr g0 (gtr g1 g2),(g2.block _ (by simp) (by simp)).trans b1,((gtr g1 g2).block _ (lbk L0.out.2) (by simp)).trans L0.out.2,b2⟩
   clear h g0 hl hz g1 g2 s1 s2 b1 b2 L0 ET hzs e0 e1;go_enter Tryz.func4,Tryz.ntmps4;go_upto_region 5 with fail;clear hb0 hb1 c0 c1 hi0 hi1;generalize (((w.alloc (.cells #[.slice none 0 0,.slice none 0 0,.slice none 0 0] 27)).alloc (.cells #[.slice (some ⟨g,0,none⟩) N N,.int .i64 2] 38)).alloc (.cells #[.slice none 0 0,.slice none 0 0,.slice none 0 0] 27))=w3 at *;generalize e5:w.heap.size+1+1=q5 at *;generalize eq:w.heap.size+1=q at *;generalize e2:w.heap.size=q2 at *;have PQ:Hid (w.heap.size≤q2∧q2 < q∧q < q5):=⟨by omega,by omega,by omega⟩;have PE:Hid (w.heap.size=q2):=e2;clear e5 eq e2;have BH2:Hid (Row w g N zs∧zs.length=N∧Byt zs∧N≤30000∧g < w.heap.size):=⟨BH.out.1,BH.out.2.1,BH.out.2.2.1,BH.out.2.2.2.1,by have:=BH.out.2.2.2.2;have:=PE.out;omega⟩;clear BH;have BH:Hid (Row w g N zs∧zs.length=N∧Byt zs∧N≤30000∧g < w.heap.size):=BH2.out;clear BH2;have CC:Hid _:=l8numT q g N zs 20 2 w3 (byq_of BH.out (by have:=PQ.out;omega) L3.out.1) L3.out.2.1 (by omega)
   go_wp2_with fail;refine Calls.mono CC.out ?_;rintro e v1 ⟨rfl,hg,hcd⟩;obtain ⟨n1,r1,hn⟩:∃ n r,(parS zs).nm 20 2=(n,r):=⟨_,_,rfl⟩;have HN1:Hid ((parS zs).nm 20 2=(n1,r1)):=hn;have hq1:=nmS_le BH.out.2.2.1 BH.out.2.1 20 (p:=2) (by omega);have hnn1:=nmS_nn BH.out.2.2.1 BH.out.2.1 20 (by omega) 2;rw[hn] at hcd hq1 hnn1;rw[hn];clear hn;simp only[] at hcd hq1 hnn1 ⊢;have L4:Hid (w.grownBy v1 none∧SCd v1 q g N r1∧v1.heap[q2]? = some (.cells #[.slice none 0 0,.slice none 0 0,.slice none 0 0] 27 (0,0))∧v1.heap[q5]? = some (.cells #[.slice none 0 0,.slice none 0 0,.slice none 0 0] 27 (0,0))):=⟨grown_into L3.out.1 hg (by have:=PQ.out;omega),hcd,(hg.block _ (lbk L3.out.2.2.1) (by have:=PQ.out;simp;omega)).trans L3.out.2.2.1,(hg.block _ (lbk L3.out.2.2.2) (by have:=PQ.out;simp;omega)).trans L3.out.2.2.2⟩;clear L3 CC hg hcd;go_upto_block 0 with fail;refine loopA _ _ _ _ _ _ _ _ _ _ _ _ _ _ _ _ _ _ _ _ _ _ _ _ _ _ _ _ _ _ _ _ _ _ _ _ _ _ _ _ _ _ _ _ _ _ _ _ _ _ _ _ _ _ _ _ _ _ _ _ _ _ _ _ _ _ _ _ _ _ _ _ _ _ _ _ _ _ _ _ _ _ _ _ _ _ _ _ _ _ _ _ _ _ _ _ _ _ _ _ _ _ _ _ _ _ _ _ _ _ _ _ _ _ _ _ _ _ _ _ _ _ _ _ _ _ _ _ _ _ _ _ _ _ _ _ _ _ _ _ _ _ _ _ _ _ _ _ _ _ _ _ _ _ _ _ _ _ _ _ _ _ _ _ w q2 q q5 g N zs n1 r1 v1 ⟨BH.out,⟨PQ.out.1,PQ.out.2.1,PQ.out.2.2,hnn1.1,hnn1.2,hq1⟩,L4.out⟩ _ _ (fun _ d _ _ _ h=>by cases d <;> exact h) ?_
   clear L4;intro x7 x8 x9 x10 x42 x43 x44 x45 x46 x47 x48 x49 x50 x51 x52 x53 x54 x55 x56 x57 x58 x59 x60 x61 x62 x63 x64 x65 x66 x67 x68 x69 x70 x71 x72 x73 x74 x75 x76 x77 x78 x79 x80 aL cL bL v2 hA;obtain ⟨X,r2,hX⟩:∃ X r,listN (layP (parS zs)) n1.toNat r1=(X,r):=⟨_,_,rfl⟩
   have HX:Hid (listP (parS zs) (layP (parS zs)) 20 2=(X,r2)):=by show _=_;unfold listP;rw[HN1.out];exact hX
   have hq2:r2≤N:=by
    have:=listN_le (N:=N) (f:=layP (parS zs)) (fun p hp=>listS_le BH.out.2.2.1 BH.out.2.1 (fun p hp=>typesS_le BH.out.2.2.1 BH.out.2.1 3 hp) 5 hp) n1.toNat r1 hq1;rw[hX] at this;exact this
   rw[hX] at hA;clear hX;simp only[] at hA;obtain ⟨lL,hlL⟩:∃ l,X.length=l:=⟨_,rfl⟩;have HLL:Hid (X.length=lL):=hlL;rw[hlL] at hA;clear hlL;have A:Hid _:=hA;clear hA;have CC:Hid _:=l8numT q g N zs 5 r2 v2 (byq_of BH.out (by have:=PQ.out;omega) A.out.1) A.out.2.1 (by omega);go_wp2_with fail;refine Calls.mono CC.out ?_;rintro e v3 ⟨rfl,hg,hcd⟩;obtain ⟨n3,r3,hn⟩:∃ n r,(parS zs).nm 5 r2=(n,r):=⟨_,_,rfl⟩;have HN3:Hid ((parS zs).nm 5 r2=(n3,r3)):=hn;have hq3:=nmS_le BH.out.2.2.1 BH.out.2.1 5 hq2;have hnn3:=nmS_nn BH.out.2.2.1 BH.out.2.1 5 (by omega) r2;rw[hn] at hcd hq3 hnn3;rw[hn];clear hn;simp only[] at hcd hq3 hnn3 ⊢;have BLo:Hid (bL.Nodup∧∀ y ∈ bL,q5 < y):=⟨A.out.2.2.2.2.2.1,A.out.2.2.2.2.2.2.1⟩;have L4:Hid (w.grownBy v3 none∧SCd v3 q g N r3∧v3.heap[q2]? = some (.cells #[.slice none 0 0,.slice none 0 0,.slice none 0 0] 27 (0,0))∧v3.heap[q5]? = some (.cells #[.slice aL lL cL,.slice none 0 0,.slice none 0 0] 27 (0,0))∧SlG v3 1 aL lL cL (encLays X) bL):=⟨grown_into A.out.1 hg (by have:=PQ.out;omega),hcd,(hg.block _ (lbk A.out.2.2.1) (by have:=PQ.out;simp;omega)).trans A.out.2.2.1,(hg.block _ (lbk A.out.2.2.2.1) (by have:=PQ.out;simp;omega)).trans A.out.2.2.2.1,A.out.2.2.2.2.1.kept hg (fun y hy=>by have:=A.out.2.2.2.2.2.2.1 y hy;have:=PQ.out;simp;omega)⟩
   clear A CC hg hcd;go_upto_block 4 with fail;refine loopC _ _ _ _ _ _ _ _ _ _ _ _ _ _ _ _ _ _ _ _ _ _ _ _ _ _ _ _ _ _ _ _ _ _ _ _ _ _ _ _ _ _ _ _ _ _ _ _ _ _ _ _ _ _ _ _ _ _ _ _ _ _ _ _ _ _ _ _ _ _ _ _ _ _ _ _ _ _ _ _ _ _ _ _ _ _ _ _ _ _ _ _ _ _ _ _ _ _ _ _ _ _ _ _ _ _ _ _ _ _ _ _ _ _ _ _ _ _ _ _ _ _ _ _ _ _ _ _ _ _ _ _ _ _ _ _ _ _ _ _ _ _ _ _ _ _ _ _ _ _ _ _ _ _ _ _ _ _ _ _ _ _ _ _ w q2 q q5 g N zs n3 r3 v3 aL lL cL (encLays X) bL ⟨BH.out,⟨PQ.out.1,PQ.out.2.1,PQ.out.2.2,hnn3.1,hnn3.2,hq3⟩,BLo.out.2,L4.out⟩ _ _ (fun _ d _ _ _ h=>by cases d <;> exact h) ?_;clear L4;intro x11 x83 x84 x85 x86 x87 x88 x89 x90 x91 x92 x93 x94 x95 x96 x97 x98 x99 x100 x101 aK cK bK v4 hA;obtain ⟨Y,r4,hX⟩:∃ X r,listN ((parS zs).nm 4) n3.toNat r3=(X,r):=⟨_,_,rfl⟩
   have HY:Hid (listP (parS zs) ((parS zs).nm 4) 5 r2=(Y,r4)):=by show _=_;unfold listP;rw[HN3.out];exact hX
   have hq4:r4≤N:=by
    have:=listN_le (N:=N) (f:=(parS zs).nm 4) (fun p hp=>nmS_le BH.out.2.2.1 BH.out.2.1 4 hp) n3.toNat r3 hq3;rw[hX] at this;exact this
   rw[hX] at hA;clear hX;simp only[] at hA;obtain ⟨lK,hlK⟩:∃ l,Y.length=l:=⟨_,rfl⟩;have HLK:Hid (Y.length=lK):=hlK;rw[hlK] at hA;clear hlK;have A:Hid _:=hA;clear hA;have CC:Hid _:=l8numT q g N zs 150 r4 v4 (byq_of BH.out (by have:=PQ.out;omega) A.out.1) A.out.2.1 (by omega);go_wp2_with fail;refine Calls.mono CC.out ?_;rintro e v5 ⟨rfl,hg,hcd⟩;obtain ⟨n5,r5,hn⟩:∃ n r,(parS zs).nm 150 r4=(n,r):=⟨_,_,rfl⟩;have HN5:Hid ((parS zs).nm 150 r4=(n5,r5)):=hn;have hq5:=nmS_le BH.out.2.2.1 BH.out.2.1 150 hq4;have hnn5:=nmS_nn BH.out.2.2.1 BH.out.2.1 150 (by omega) r4;rw[hn] at hcd hq5 hnn5;rw[hn];clear hn;simp only[] at hcd hq5 hnn5 ⊢;have BKo:Hid (bK.Nodup∧∀ y ∈ bK,q5 < y∧y ∉ bL):=⟨A.out.2.2.2.2.2.2.1,A.out.2.2.2.2.2.2.2.1⟩;have L4:Hid (w.grownBy v5 none∧SCd v5 q g N r5∧v5.heap[q2]? = some (.cells #[.slice none 0 0,.slice none 0 0,.slice none 0 0] 27 (0,0))∧v5.heap[q5]? = some (.cells #[.slice aL lL cL,.slice none 0 0,.slice aK lK cK] 27 (0,0))∧SlG v5 1 aL lL cL (encLays X) bL∧SlG v5 1 aK lK cK (encI Y) bK):=⟨grown_into A.out.1 hg (by have:=PQ.out;omega),hcd,(hg.block _ (lbk A.out.2.2.1) (by have:=PQ.out;simp;omega)).trans A.out.2.2.1,(hg.block _ (lbk A.out.2.2.2.1) (by have:=PQ.out;simp;omega)).trans A.out.2.2.2.1,A.out.2.2.2.2.1.kept hg (fun y hy=>by have:=BLo.out.2 y hy;have:=PQ.out;simp;omega),A.out.2.2.2.2.2.1.kept hg (fun y hy=>by have:=(BKo.out.2 y hy).1;have:=PQ.out;simp;omega)⟩
   clear A CC hg hcd;go_upto_block 6 with fail;refine loopD _ _ _ _ _ _ _ _ _ _ _ _ _ _ _ _ _ _ _ _ _ _ _ _ _ _ _ _ _ _ _ _ _ _ _ _ _ _ _ _ _ _ _ _ _ _ _ _ _ _ _ _ _ _ _ _ _ _ _ _ _ _ _ _ _ _ _ _ _ _ _ _ _ _ _ _ _ _ _ _ _ _ _ _ _ _ _ _ _ _ _ _ _ _ _ _ _ _ _ _ _ _ _ _ _ _ _ _ _ _ _ _ _ _ _ _ _ _ _ _ _ _ _ _ _ _ _ _ _ _ _ _ _ _ _ _ _ _ _ _ _ _ _ _ _ _ _ _ _ _ _ _ _ _ _ _ _ _ _ _ _ _ _ _ w q2 q q5 g N zs n5 r5 v5 aL lL cL (encLays X) bL aK lK cK (encI Y) bK ⟨BH.out,⟨PQ.out.1,PQ.out.2.1,PQ.out.2.2,hnn5.1,hnn5.2,hq5⟩,BLo.out.2,fun y hy=>(BKo.out.2 y hy).1,L4.out⟩ _ _ (fun _ d _ _ _ h=>by cases d <;> exact h) ?_;clear L4;intro x12 x13 x14 x15 x104 x105 x106 x107 x108 x109 x110 x111 x112 x113 x114 x115 x116 x117 x118 x119 x120 x121 x122 x123 x124 x125 x126 x127 x128 x129 x130 x131 x132 x133 x134 x135 x136 x137 x138 x139 x140 x141 x142 x143 x144 x145 x146 x147 x148 x149 x150 x151 x152 x153 x154 aV cV bV v6 hA
   obtain ⟨V,r6,hX⟩:∃ X r,listN (blkP (parS zs)) n5.toNat r5=(X,r):=⟨_,_,rfl⟩
   have HV:Hid (listP (parS zs) (blkP (parS zs)) 150 r4=(V,r6)):=by show _=_;unfold listP;rw[HN5.out];exact hX
   rw[hX] at hA;clear hX;simp only[] at hA;obtain ⟨lV,hlV⟩:∃ l,V.length=l:=⟨_,rfl⟩;have HLV:Hid (V.length=lV):=hlV;rw[hlV] at hA;clear hlV;have A:Hid _:=hA;clear hA
   have HPP:Hid (progP (parS zs) 2=(⟨X,V,Y⟩,r6)):=by
    show _=_
    unfold progP;simp only[HX.out,HY.out,HV.out]
   have OP:Hid (OwP v6 ⟨X,V,Y⟩ aL lL cL aV lV cV aK lK cK bL bV bK):=⟨A.out.2.2.2.2.1,A.out.2.2.2.2.2.2.1,A.out.2.2.2.2.2.1,A.out.2.2.2.2.2.2.2.2.2.2⟩
   have ND:Hid ((bL++bV++bK).Nodup∧∀ y ∈ bL++bV++bK,q5 < y):=by
    refine ⟨List.nodup_append.2 ⟨List.nodup_append.2 ⟨BLo.out.1,A.out.2.2.2.2.2.2.2.1,fun x hx y hy e=>(A.out.2.2.2.2.2.2.2.2.1 y hy).2.1 (e ▸ hx)⟩,BKo.out.1,fun x hx y hy e=>?_⟩,fun y hy=>?_⟩
    ·
     rcases List.mem_append.1 hx with h|h
     ·
      exact (BKo.out.2 y hy).2 (e ▸ h)
     ·
      exact (A.out.2.2.2.2.2.2.2.2.1 x h).2.2 (e ▸ hy)
    ·
     rcases List.mem_append.1 hy with h|h
     ·
      rcases List.mem_append.1 h with h|h
      ·
       exact BLo.out.2 y h
      ·
       exact (A.out.2.2.2.2.2.2.2.2.1 y h).1
     ·
      exact (BKo.out.2 y h).1
   have L4:Hid (w.grownBy v6 none∧SCd v6 q g N r6∧v6.heap[q2]? = some (.cells #[.slice none 0 0,.slice none 0 0,.slice none 0 0] 27 (0,0))∧v6.heap[q5]? = some (.cells #[.slice aL lL cL,.slice aV lV cV,.slice aK lK cK] 27 (0,0))):=⟨A.out.1,A.out.2.1,A.out.2.2.1,A.out.2.2.2.1⟩;clear A;obtain ⟨⟨z8,z9⟩,h0,h3⟩:=two L4.out.2.1;obtain ⟨⟨x0,x1,x2⟩,-⟩:=blkProg L4.out.2.2.2;by_cases hrn:r6=(N:Int)
   ·
    have HRN:Hid (r6=(N:Int)):=hrn;clear hrn
    have hd:(r6 != (N:Int))=false:=by rw[HRN.out];simp
    have hd2:¬ r6≠(N:Int):=fun h=>h HRN.out
    have C3:Hid _:=specProgT ⟨X,V,Y⟩ aL lL cL aV lV cV aK lK cK v6 OP.out.rd;go_wp2_with fail;refine Calls.mono C3.out ?_;rintro e v7 ⟨rfl,hg⟩;have L6:Hid (w.grownBy v7 none∧v7.heap[q2]? = some (.cells #[.slice none 0 0,.slice none 0 0,.slice none 0 0] 27 (0,0))∧v7.heap[q5]? = some (.cells #[.slice aL lL cL,.slice aV lV cV,.slice aK lK cK] 27 (0,0))∧OwP v7 ⟨X,V,Y⟩ aL lL cL aV lV cV aK lK cK bL bV bK):=⟨gtr L4.out.1 hg,(hg.block _ (lbk L4.out.2.2.1) (by simp)).trans L4.out.2.2.1,(hg.block _ (lbk L4.out.2.2.2) (by simp)).trans L4.out.2.2.2,⟨OP.out.1.old hg,OP.out.2.1.old hg,OP.out.2.2.1.old hg,OP.out.2.2.2⟩⟩;clear C3 L4 hg z8 z9 h0 h3 x0 x1 x2 hd hd2 OP;simp only[]
    cases hok:okP ⟨X,V,Y⟩ with
    | false =>
     have EO:Hid (rdOk (parS zs) zs=false):=by show _=_;unfold rdOk;rw[HPP.out];simp only[hok];simp
     have LZ:Hid (w.grownBy v7 none∧v7.heap[q2]? = some (.cells #[.slice none 0 0,.slice none 0 0,.slice none 0 0] 27 (0,0))):=⟨L6.out.1,L6.out.2.1⟩;clear L6 hok;obtain ⟨⟨y0,y1,y2⟩,hfy⟩:=blkProg LZ.out.2;have f0:=hfy 0;have f1:=hfy 1;have f2:=hfy 2;obtain ⟨dz,kz⟩:=fillProg (.slice none 0 0) (.slice none 0 0) (.slice none 0 0) LZ.out.2;have FQ:Hid (_∧w.grownBy _ none):=⟨dz,grown_into LZ.out.1 kz (by have:=PE.out;omega)⟩;clear hfy dz kz LZ;go_wp2
     (try simp only[Exit.inBlock,Exit.then])
     refine bodyPost_ret (results_cell2 (P:=Tryz.prog) Tryz.results4 _ _ q2 _ _ _ _ rfl FQ.out.1 Tryz.underlying27 rfl (by kernel_rfl)) rfl ?_;unfold rdX;rw[EO.out];exact ⟨none,0,none,0,none,0,[],[],[],rfl,FQ.out.2,⟨SlG.nil _ _ _ _,SlG.nil _ _ _ _,SlG.nil _ _ _ _,fun b hb=>by simp [prog0] at hb⟩,by simp,fun y hy=>by simp at hy⟩
    | true =>
     have EO:Hid (rdOk (parS zs) zs=true):=by show _=_;unfold rdOk;rw[HPP.out,EP.out];simp only[hok];simp [HRN.out,HZ.out,hN3]
     clear hok;obtain ⟨⟨x0,x1,x2⟩,-⟩:=blkProg L6.out.2.2.1;obtain ⟨⟨y0,y1,y2⟩,hfy⟩:=blkProg L6.out.2.1;have f0:=hfy 0;have f1:=hfy 1;have f2:=hfy 2;obtain ⟨dz,kz⟩:=fillProg (.slice aL lL cL) (.slice aV lV cV) (.slice aK lK cK) L6.out.2.1;have FQ:Hid (_∧w.grownBy _ none∧OwP _ ⟨X,V,Y⟩ aL lL cL aV lV cV aK lK cK bL bV bK):=⟨dz,grown_into L6.out.1 kz (by have:=PE.out;omega),L6.out.2.2.2.1.kept kz (fun y hy=>by have:=ND.out.2 y (by simp [hy]);have:=PQ.out;simp;omega),L6.out.2.2.2.2.1.kept kz (fun y hy=>by have:=ND.out.2 y (by simp [hy]);have:=PQ.out;simp;omega),L6.out.2.2.2.2.2.1.kept kz (fun y hy=>by have:=ND.out.2 y (by simp [hy]);have:=PQ.out;simp;omega),L6.out.2.2.2.2.2.2⟩;clear hfy dz kz L6;go_wp2
     (try simp only[Exit.inBlock,Exit.then])
     refine bodyPost_ret (results_cell2 (P:=Tryz.prog) Tryz.results4 _ _ q2 _ _ _ _ rfl FQ.out.1 Tryz.underlying27 rfl (by kernel_rfl)) rfl ?_
     have hx:rdX (parS zs) zs=⟨X,V,Y⟩:=by unfold rdX;rw[if_pos EO.out,HPP.out]
     rw[EO.out,hx];unfold RdA;rw[HLL.out,HLV.out,HLK.out];exact ⟨aL,cL,aV,cV,aK,cK,bL,bV,bK,rfl,FQ.out.2.1,FQ.out.2.2,ND.out.1,fun y hy=>by have:=ND.out.2 y hy;have:=PE.out;have:=PQ.out;omega⟩
   ·
    have EO:Hid (rdOk (parS zs) zs=false):=by show _=_;unfold rdOk;rw[HPP.out];rw[show decide (r6=(zs.length:Int))=false by rw[HZ.out];simpa using hrn];simp
    have LZ:Hid (w.grownBy v6 none∧v6.heap[q2]? = some (.cells #[.slice none 0 0,.slice none 0 0,.slice none 0 0] 27 (0,0))):=⟨L4.out.1,L4.out.2.2.1⟩
    have hd:(r6 != (N:Int))=true:=by simpa using hrn
    clear L4 x0 x1 x2 OP;obtain ⟨⟨y0,y1,y2⟩,hfy⟩:=blkProg LZ.out.2;have f0:=hfy 0;have f1:=hfy 1;have f2:=hfy 2;obtain ⟨dz,kz⟩:=fillProg (.slice none 0 0) (.slice none 0 0) (.slice none 0 0) LZ.out.2;have FQ:Hid (_∧w.grownBy _ none):=⟨dz,grown_into LZ.out.1 kz (by have:=PE.out;omega)⟩;clear hfy dz kz LZ;go_wp2
    (try simp only[Exit.inBlock,Exit.then])
    refine bodyPost_ret (results_cell2 (P:=Tryz.prog) Tryz.results4 _ _ q2 _ _ _ _ rfl FQ.out.1 Tryz.underlying27 rfl (by kernel_rfl)) rfl ?_;unfold rdX;rw[EO.out];exact ⟨none,0,none,0,none,0,[],[],[],rfl,FQ.out.2,⟨SlG.nil _ _ _ _,SlG.nil _ _ _ _,SlG.nil _ _ _ _,fun b hb=>by simp [prog0] at hb⟩,by simp,fun y hy=>by simp at hy⟩
  ·
   have EO:Hid (rdOk (parS zs) zs=false):=by show _=_;unfold rdOk;rw[ET.out,show decide (z1=75)=false by simpa using e1];simp
   have hb0:(z0 != 76)=false:=by rw[e0];rfl
   have hb1:(z1 != 75)=true:=by simpa using e1
   clear h g0 hl hz ET hzs e0 e1;go_enter Tryz.func4,Tryz.ntmps4;go_upto_region 1 with fail;generalize (w.alloc (.cells #[.slice none 0 0,.slice none 0 0,.slice none 0 0] 27))=w0 at *;generalize e2:w.heap.size=q2 at *;have PE:Hid (w.heap.size=q2):=e2;have LZ:Hid _:=L0.out;clear e2 L0;obtain ⟨⟨y0,y1,y2⟩,hfy⟩:=blkProg LZ.out.2;have f0:=hfy 0;have f1:=hfy 1;have f2:=hfy 2;obtain ⟨dz,kz⟩:=fillProg (.slice none 0 0) (.slice none 0 0) (.slice none 0 0) LZ.out.2;have FQ:Hid (_∧w.grownBy _ none):=⟨dz,grown_into LZ.out.1 kz (by have:=PE.out;omega)⟩;clear hfy dz kz LZ;go_wp2
   (try simp only[Exit.inBlock,Exit.then])
   refine bodyPost_ret (results_cell2 (P:=Tryz.prog) Tryz.results4 _ _ q2 _ _ _ _ rfl FQ.out.1 Tryz.underlying27 rfl (by kernel_rfl)) rfl ?_;unfold rdX;rw[EO.out];exact ⟨none,0,none,0,none,0,[],[],[],rfl,FQ.out.2,⟨SlG.nil _ _ _ _,SlG.nil _ _ _ _,SlG.nil _ _ _ _,fun b hb=>by simp [prog0] at hb⟩,by simp,fun y hy=>by simp at hy⟩
 ·
  have EO:Hid (rdOk (parS zs) zs=false):=by show _=_;unfold rdOk;rw[ET.out,show decide (z0=76)=false by simpa using e0];simp
  have hb0:(z0 != 76)=true:=by simpa using e0
  clear h g0 hl hz ET hzs e0;go_enter Tryz.func4,Tryz.ntmps4;go_upto_region 1 with fail;generalize (w.alloc (.cells #[.slice none 0 0,.slice none 0 0,.slice none 0 0] 27))=w0 at *;generalize e2:w.heap.size=q2 at *;have PE:Hid (w.heap.size=q2):=e2;have LZ:Hid _:=L0.out;clear e2 L0;obtain ⟨⟨y0,y1,y2⟩,hfy⟩:=blkProg LZ.out.2;have f0:=hfy 0;have f1:=hfy 1;have f2:=hfy 2;obtain ⟨dz,kz⟩:=fillProg (.slice none 0 0) (.slice none 0 0) (.slice none 0 0) LZ.out.2;have FQ:Hid (_∧w.grownBy _ none):=⟨dz,grown_into LZ.out.1 kz (by have:=PE.out;omega)⟩;clear hfy dz kz LZ;go_wp2
  (try simp only[Exit.inBlock,Exit.then])
  refine bodyPost_ret (results_cell2 (P:=Tryz.prog) Tryz.results4 _ _ q2 _ _ _ _ rfl FQ.out.1 Tryz.underlying27 rfl (by kernel_rfl)) rfl ?_;unfold rdX;rw[EO.out];exact ⟨none,0,none,0,none,0,[],[],[],rfl,FQ.out.2,⟨SlG.nil _ _ _ _,SlG.nil _ _ _ _,SlG.nil _ _ _ _,fun b hb=>by simp [prog0] at hb⟩,by simp,fun y hy=>by simp at hy⟩
end Go.Proofs.YtnmlbeefjjohfaaGreatDoor.By
