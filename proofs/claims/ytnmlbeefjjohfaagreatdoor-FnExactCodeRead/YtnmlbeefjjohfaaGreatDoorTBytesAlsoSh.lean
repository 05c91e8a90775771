/-
  No statement is proved here.
-/
import Derived.Test.YtnmlbeefjjohfaaGreatDoorCRlLayoutAlsoSh
namespace Go.Proofs.YtnmlbeefjjohfaaGreatDoor.By
set_option maxRecDepth 100000
set_option maxHeartbeats 16000000
open Go.RowKit
set_option linter.unusedVariables false
set_option linter.unusedSimpArgs false
theorem listP_le {X:Type} {zs:List Int} {N:Nat} (hz:Byt zs) (hl:zs.length=N) {sz:X→Nat} {f:Int→X × Int} (hf:AdvS sz N f) (m:Int) {p:Int} (h:p≤N):(listP (parI zs) f m p).2≤N:=by
 by_cases h0:(listP (parI zs) f m p).2 < 0
 ·
  omega
 ·
  have:=listP_at (parI_good hz) (Int.not_lt.1 h0);have:=listP_advS hz hl hf m p this h;omega
def PgA (w u:World) (q g N:Nat) (R:RProg × Int) (e:Ending):Prop :=
 ∃ a1 c1 a2 c2 a3 c3 b1 b2 b3,e = .returned (.agg #[.slice a1 R.1.lays.length c1,.slice a2 R.1.blks.length c2,.slice a3 R.1.caps.length c3])∧w.grownBy u (some q)∧CRd u q g N R.2∧OwP u R.1 a1 R.1.lays.length c1 a2 R.1.blks.length c2 a3 R.1.caps.length c3 b1 b2 b3∧(b1++b2++b3).Nodup∧∀ y ∈ b1++b2++b3,w.heap.size≤y
theorem progC (q g N:Nat) (zs:List Int) (p:Int) (w:World) (hB:Byq w q g N zs) (b:CRd w q g N p) (hF:OpsIn w) (hp:p≤N) :
    Calls Tryz.prog 18 #[.pointer (some ⟨q,0,none⟩)] w fun e u=>PgA w u q g N (progP (parI zs) p) e:=by
  have HB:Hid (Byq w q g N zs):=hB;have NB:Hid (N≤30000):=hB.2.2.2.1
  have HO:Hid (∀ u,w.grownBy u (some q)→OpsIn u):=fun u hu=>hF.keep b hu
  have g1:=gal w (.cells #[.slice none 0 0,.slice none 0 0,.slice none 0 0] 27) none;have g2:=gal (w.alloc (.cells #[.slice none 0 0,.slice none 0 0,.slice none 0 0] 27)) (.cells #[.slice none 0 0,.slice none 0 0,.slice none 0 0] 27) none;have gg:=gtr g1 g2
  have sz1:(w.alloc (.cells #[.slice none 0 0,.slice none 0 0,.slice none 0 0] 27)).heap.size=w.heap.size+1:=by simp
  have b2:=hnw (w.alloc (.cells #[.slice none 0 0,.slice none 0 0,.slice none 0 0] 27)) (.cells #[.slice none 0 0,.slice none 0 0,.slice none 0 0] 27);rw[sz1] at b2;have L:Hid (w.grownBy ((w.alloc (.cells #[.slice none 0 0,.slice none 0 0,.slice none 0 0] 27)).alloc (.cells #[.slice none 0 0,.slice none 0 0,.slice none 0 0] 27)) (some q)∧CRd ((w.alloc (.cells #[.slice none 0 0,.slice none 0 0,.slice none 0 0] 27)).alloc (.cells #[.slice none 0 0,.slice none 0 0,.slice none 0 0] 27)) q g N p∧((w.alloc (.cells #[.slice none 0 0,.slice none 0 0,.slice none 0 0] 27)).alloc (.cells #[.slice none 0 0,.slice none 0 0,.slice none 0 0] 27)).heap[w.heap.size]? = some (.cells #[.slice none 0 0,.slice none 0 0,.slice none 0 0] 27)∧((w.alloc (.cells #[.slice none 0 0,.slice none 0 0,.slice none 0 0] 27)).alloc (.cells #[.slice none 0 0,.slice none 0 0,.slice none 0 0] 27)).heap[w.heap.size+1]? = some (.cells #[.slice none 0 0,.slice none 0 0,.slice none 0 0] 27)∧True∧([]:List Nat).Nodup∧∀ y ∈ ([]:List Nat),w.heap.size+1 < y):=⟨wide_none gg _,CRd.old b gg,(g2.block _ (by simp) (by simp)).trans (hnw w _),b2,trivial,List.nodup_nil,fun y hy=>by simp at hy⟩
  have PE0:Hid (q < w.heap.size∧w.heap.size < w.heap.size+1):=⟨lbk b,by omega⟩;clear hB b hF g1 g2 gg b2 sz1;go_enter Tryz.func18,Tryz.ntmps18;go_upto_region 2 with fail;generalize ((w.alloc (.cells #[.slice none 0 0,.slice none 0 0,.slice none 0 0] 27)).alloc (.cells #[.slice none 0 0,.slice none 0 0,.slice none 0 0] 27))=w0 at *;generalize e3:w.heap.size+1=q3 at *;generalize e2:w.heap.size=q2 at *;have PE:Hid (w.heap.size=q2∧q < q2∧q2 < q3):=⟨e2,PE0.out.1,PE0.out.2⟩;clear e2 e3 PE0;have CC:Hid _:=rlLayoutC q g N zs p w0 (HB.out.to L.out.1) L.out.2.1 (by have:=NB.out;omega);go_wp2_with fail;refine Calls.mono CC.out ?_;rintro e v1 ⟨a1,c1,b1,rfl,hg,hc,hS,hn,hlo⟩;have hb1:=listP_le HB.out.2.2.1 HB.out.2.1 (layP_advS HB.out.2.2.1 HB.out.2.1) 0 hp;obtain ⟨X,r1,hE⟩:∃ F r,listP (parI zs) (layP (parI zs)) 0 p=(F,r):=⟨_,_,rfl⟩;have HX:Hid (listP (parI zs) (layP (parI zs)) 0 p=(X,r1)):=hE;rw[hE] at hc hS hb1
  rw[hE];clear hE;simp only[] at hc hS hb1 ⊢;generalize hl1:X.length=l1 at *;have HL1:Hid (X.length=l1):=hl1;clear hl1
  have hlt:∀ y ∈ ([]:List Nat),y < w0.heap.size:=(fun y hy=>by
      first
      | (simp at hy;done)
      | (simp at hy))
  have L2:Hid (w.grownBy v1 (some q)∧CRd v1 q g N r1∧v1.heap[q2]? = some (.cells #[.slice none 0 0,.slice none 0 0,.slice none 0 0] 27)∧v1.heap[q3]? = some (.cells #[.slice none 0 0,.slice none 0 0,.slice none 0 0] 27)∧(SlG v1 1 a1 l1 c1 (encLays X) b1)∧(b1).Nodup∧∀ y ∈ (b1:List Nat),q3 < y):=⟨gtr L.out.1 hg,hc,(hg.block _ (lbk L.out.2.2.1) (by have:=PE.out;simp;omega)).trans L.out.2.2.1,(hg.block _ (lbk L.out.2.2.2.1) (by have:=PE.out;simp;omega)).trans L.out.2.2.2.1,hS,hn,fun y h=>by have:=hlo y h;have:=lbk L.out.2.2.2.1;omega⟩;clear L CC hg hc hS hn hlo hlt;have L:Hid _:=L2.out;clear L2;obtain ⟨⟨y0,y1,y2⟩,hfy⟩:=blkProg L.out.2.2.2.1;have f0:=hfy 0;clear hfy;have ks:=gsc v1 q3 0 (.slice a1 l1 c1);have L2:Hid (w.grownBy (v1.setCell ⟨q3,0,none⟩ (.slice a1 l1 c1)) (some q)∧CRd (v1.setCell ⟨q3,0,none⟩ (.slice a1 l1 c1)) q g N r1∧(v1.setCell ⟨q3,0,none⟩ (.slice a1 l1 c1)).heap[q2]? = some (.cells #[.slice none 0 0,.slice none 0 0,.slice none 0 0] 27)∧(v1.setCell ⟨q3,0,none⟩ (.slice a1 l1 c1)).heap[q3]? = some (.cells #[.slice a1 l1 c1,.slice none 0 0,.slice none 0 0] 27)∧(SlG (v1.setCell ⟨q3,0,none⟩ (.slice a1 l1 c1)) 1 a1 l1 c1 (encLays X) b1)∧(b1).Nodup∧∀ y ∈ (b1:List Nat),q3 < y):=⟨grown_intoR L.out.1 ks (by have:=PE.out;omega),(ks.block _ (lbk L.out.2.1) (by have:=PE.out;simp;omega)).trans L.out.2.1,(ks.block _ (lbk L.out.2.2.1) (by have:=PE.out;simp;omega)).trans L.out.2.2.1,hsm v1 q3 0 _ _ (.slice a1 l1 c1) L.out.2.2.2.1,L.out.2.2.2.2.1.kept ks (fun y hy=>by have:=L.out.2.2.2.2.2.2 y (by simp [hy]);simp;omega),L.out.2.2.2.2.2⟩
  clear ks L;have L:Hid _:=L2.out;clear L2;go_upto_region 3 with fail;generalize (v1.setCell ⟨q3,0,none⟩ (.slice a1 l1 c1))=w1 at *;clear y0 y1 y2 f0;have CC:Hid _:=rlIntC q g N zs r1 w1 (HB.out.to L.out.1) L.out.2.1 (by have:=NB.out;omega);go_wp2_with fail;refine Calls.mono CC.out ?_;rintro e v2 ⟨a2,c2,b2,rfl,hg,hc,hS,hn,hlo⟩;have hb2:=listP_le HB.out.2.2.1 HB.out.2.1 (nm_advS HB.out.2.2.1 HB.out.2.1 0) 0 hb1;obtain ⟨Y,r2,hE⟩:∃ F r,listP (parI zs) ((parI zs).nm 0) 0 r1=(F,r):=⟨_,_,rfl⟩;have HY:Hid (listP (parI zs) ((parI zs).nm 0) 0 r1=(Y,r2)):=hE;rw[hE] at hc hS hb2;rw[hE];clear hE;simp only[] at hc hS hb2 ⊢;generalize hl2:Y.length=l2 at *;have HL2:Hid (Y.length=l2):=hl2;clear hl2
  have hlt:∀ y ∈ (b1:List Nat),y < w1.heap.size:=(fun y hy=>by
      first
      | (simp at hy;done)
      | (exact L.out.2.2.2.2.1.lt y hy))
  have L2:Hid (w.grownBy v2 (some q)∧CRd v2 q g N r2∧v2.heap[q2]? = some (.cells #[.slice none 0 0,.slice none 0 0,.slice none 0 0] 27)∧v2.heap[q3]? = some (.cells #[.slice a1 l1 c1,.slice none 0 0,.slice none 0 0] 27)∧(SlG v2 1 a1 l1 c1 (encLays X) b1∧SlG v2 1 a2 l2 c2 (encI Y) b2)∧(b1++b2).Nodup∧∀ y ∈ (b1++b2:List Nat),q3 < y):=⟨gtr L.out.1 hg,hc,(hg.block _ (lbk L.out.2.2.1) (by have:=PE.out;simp;omega)).trans L.out.2.2.1,(hg.block _ (lbk L.out.2.2.2.1) (by have:=PE.out;simp;omega)).trans L.out.2.2.2.1,⟨L.out.2.2.2.2.1.kept hg (fun y hy=>by have:=L.out.2.2.2.2.2.2 y (by simp [hy]);have:=PE.out;simp;omega),hS⟩,nodup_join L.out.2.2.2.2.2.1 hn hlt hlo,fun y hy=>(List.mem_append.1 hy).elim (fun h=>L.out.2.2.2.2.2.2 y h) (fun h=>by have:=hlo y h;have:=lbk L.out.2.2.2.1;omega)⟩;clear L CC hg hc hS hn hlo hlt;have L:Hid _:=L2.out;clear L2;obtain ⟨⟨y0,y1,y2⟩,hfy⟩:=blkProg L.out.2.2.2.1;have f2:=hfy 2
  clear hfy;have ks:=gsc v2 q3 2 (.slice a2 l2 c2);have L2:Hid (w.grownBy (v2.setCell ⟨q3,2,none⟩ (.slice a2 l2 c2)) (some q)∧CRd (v2.setCell ⟨q3,2,none⟩ (.slice a2 l2 c2)) q g N r2∧(v2.setCell ⟨q3,2,none⟩ (.slice a2 l2 c2)).heap[q2]? = some (.cells #[.slice none 0 0,.slice none 0 0,.slice none 0 0] 27)∧(v2.setCell ⟨q3,2,none⟩ (.slice a2 l2 c2)).heap[q3]? = some (.cells #[.slice a1 l1 c1,.slice none 0 0,.slice a2 l2 c2] 27)∧(SlG (v2.setCell ⟨q3,2,none⟩ (.slice a2 l2 c2)) 1 a1 l1 c1 (encLays X) b1∧SlG (v2.setCell ⟨q3,2,none⟩ (.slice a2 l2 c2)) 1 a2 l2 c2 (encI Y) b2)∧(b1++b2).Nodup∧∀ y ∈ (b1++b2:List Nat),q3 < y):=⟨grown_intoR L.out.1 ks (by have:=PE.out;omega),(ks.block _ (lbk L.out.2.1) (by have:=PE.out;simp;omega)).trans L.out.2.1,(ks.block _ (lbk L.out.2.2.1) (by have:=PE.out;simp;omega)).trans L.out.2.2.1,hsm v2 q3 2 _ _ (.slice a2 l2 c2) L.out.2.2.2.1,⟨L.out.2.2.2.2.1.1.kept ks (fun y hy=>by have:=L.out.2.2.2.2.2.2 y (by simp [hy]);simp;omega),L.out.2.2.2.2.1.2.kept ks (fun y hy=>by have:=L.out.2.2.2.2.2.2 y (by simp [hy]);simp;omega)⟩,L.out.2.2.2.2.2⟩
  clear ks L;have L:Hid _:=L2.out;clear L2;go_upto_region 4 with fail;generalize (v2.setCell ⟨q3,2,none⟩ (.slice a2 l2 c2))=w2 at *;clear y0 y1 y2 f2;have CC:Hid _:=rlBlockC q g N zs r2 w2 (HB.out.to L.out.1) L.out.2.1 (HO.out _ L.out.1) (by have:=NB.out;omega);go_wp2_with fail;refine Calls.mono CC.out ?_;rintro e v3 ⟨⟨a3,c3,b3,rfl,hg,hc,hS,hn,hlo⟩,hby⟩;have hb3:=listP_le HB.out.2.2.1 HB.out.2.1 (blkP_advS HB.out.2.2.1 HB.out.2.1) 0 hb2;obtain ⟨V,r3,hE⟩:∃ F r,listP (parI zs) (blkP (parI zs)) 0 r2=(F,r):=⟨_,_,rfl⟩;have HV:Hid (listP (parI zs) (blkP (parI zs)) 0 r2=(V,r3)):=hE;rw[hE] at hc hS hb3 hby;rw[hE];clear hE;simp only[] at hc hS hb3 hby ⊢;have BY:Hid _:=hby;clear hby;generalize hl3:V.length=l3 at *;have HL3:Hid (V.length=l3):=hl3;clear hl3
  have hlt:∀ y ∈ (b1++b2:List Nat),y < w2.heap.size:=(fun y hy=>by
      first
      | (simp at hy;done)
      | (rcases List.mem_append.1 hy with hy|hy
         · exact L.out.2.2.2.2.1.1.lt y hy
         · exact L.out.2.2.2.2.1.2.lt y hy))
  have L2:Hid (w.grownBy v3 (some q)∧CRd v3 q g N r3∧v3.heap[q2]? = some (.cells #[.slice none 0 0,.slice none 0 0,.slice none 0 0] 27)∧v3.heap[q3]? = some (.cells #[.slice a1 l1 c1,.slice none 0 0,.slice a2 l2 c2] 27)∧(SlG v3 1 a1 l1 c1 (encLays X) b1∧SlG v3 1 a2 l2 c2 (encI Y) b2∧SlG v3 9 a3 l3 c3 (encBlks V) b3)∧(b1++b2++b3).Nodup∧∀ y ∈ (b1++b2++b3:List Nat),q3 < y):=⟨gtr L.out.1 hg,hc,(hg.block _ (lbk L.out.2.2.1) (by have:=PE.out;simp;omega)).trans L.out.2.2.1,(hg.block _ (lbk L.out.2.2.2.1) (by have:=PE.out;simp;omega)).trans L.out.2.2.2.1,⟨L.out.2.2.2.2.1.1.kept hg (fun y hy=>by have:=L.out.2.2.2.2.2.2 y (by simp [hy]);have:=PE.out;simp;omega),L.out.2.2.2.2.1.2.kept hg (fun y hy=>by have:=L.out.2.2.2.2.2.2 y (by simp [hy]);have:=PE.out;simp;omega),hS⟩,nodup_join L.out.2.2.2.2.2.1 hn hlt hlo,fun y hy=>(List.mem_append.1 hy).elim (fun h=>L.out.2.2.2.2.2.2 y h) (fun h=>by have:=hlo y h;have:=lbk L.out.2.2.2.1;omega)⟩
  clear L CC hg hc hS hn hlo hlt;have L:Hid _:=L2.out;clear L2;obtain ⟨⟨y0,y1,y2⟩,hfy⟩:=blkProg L.out.2.2.2.1;have f1:=hfy 1;clear hfy;have ks:=gsc v3 q3 1 (.slice a3 l3 c3);have L2:Hid (w.grownBy (v3.setCell ⟨q3,1,none⟩ (.slice a3 l3 c3)) (some q)∧CRd (v3.setCell ⟨q3,1,none⟩ (.slice a3 l3 c3)) q g N r3∧(v3.setCell ⟨q3,1,none⟩ (.slice a3 l3 c3)).heap[q2]? = some (.cells #[.slice none 0 0,.slice none 0 0,.slice none 0 0] 27)∧(v3.setCell ⟨q3,1,none⟩ (.slice a3 l3 c3)).heap[q3]? = some (.cells #[.slice a1 l1 c1,.slice a3 l3 c3,.slice a2 l2 c2] 27)∧(SlG (v3.setCell ⟨q3,1,none⟩ (.slice a3 l3 c3)) 1 a1 l1 c1 (encLays X) b1∧SlG (v3.setCell ⟨q3,1,none⟩ (.slice a3 l3 c3)) 1 a2 l2 c2 (encI Y) b2∧SlG (v3.setCell ⟨q3,1,none⟩ (.slice a3 l3 c3)) 9 a3 l3 c3 (encBlks V) b3)∧(b1++b2++b3).Nodup∧∀ y ∈ (b1++b2++b3:List Nat),q3 < y):=⟨grown_intoR L.out.1 ks (by have:=PE.out;omega),(ks.block _ (lbk L.out.2.1) (by have:=PE.out;simp;omega)).trans L.out.2.1,(ks.block _ (lbk L.out.2.2.1) (by have:=PE.out;simp;omega)).trans L.out.2.2.1,hsm v3 q3 1 _ _ (.slice a3 l3 c3) L.out.2.2.2.1,⟨L.out.2.2.2.2.1.1.kept ks (fun y hy=>by have:=L.out.2.2.2.2.2.2 y (by simp [hy]);simp;omega),L.out.2.2.2.2.1.2.1.kept ks (fun y hy=>by have:=L.out.2.2.2.2.2.2 y (by simp [hy]);simp;omega),L.out.2.2.2.2.1.2.2.kept ks (fun y hy=>by have:=L.out.2.2.2.2.2.2 y (by simp [hy]);simp;omega)⟩,L.out.2.2.2.2.2⟩
  clear ks L;have L:Hid _:=L2.out;clear L2;go_upto_region 5 with fail;generalize (v3.setCell ⟨q3,1,none⟩ (.slice a3 l3 c3))=w3 at *;clear y0 y1 y2 f1;obtain ⟨⟨x0,x1,x2⟩,-⟩:=blkProg L.out.2.2.2.1;obtain ⟨⟨y0,y1,y2⟩,hfy⟩:=blkProg L.out.2.2.1;have f0:=hfy 0;have f1:=hfy 1;have f2:=hfy 2;clear hfy;obtain ⟨dz,kz⟩:=fillProg (.slice a1 l1 c1) (.slice a3 l3 c3) (.slice a2 l2 c2) L.out.2.2.1;have FQ:Hid (_∧w.grownBy _ (some q)∧CRd _ q g N r3∧(SlG _ 1 a1 l1 c1 (encLays X) b1∧SlG _ 1 a2 l2 c2 (encI Y) b2∧SlG _ 9 a3 l3 c3 (encBlks V) b3)):=⟨dz,grown_intoR L.out.1 kz (by have:=PE.out;omega),(kz.block _ (lbk L.out.2.1) (by have:=PE.out;simp;omega)).trans L.out.2.1,L.out.2.2.2.2.1.1.kept kz (fun y hy=>by have:=L.out.2.2.2.2.2.2 y (by simp [hy]);have:=PE.out;simp;omega),L.out.2.2.2.2.1.2.1.kept kz (fun y hy=>by have:=L.out.2.2.2.2.2.2 y (by simp [hy]);have:=PE.out;simp;omega),L.out.2.2.2.2.1.2.2.kept kz (fun y hy=>by have:=L.out.2.2.2.2.2.2 y (by simp [hy]);have:=PE.out;simp;omega)⟩
  have FN:Hid ((b1++b2++b3).Nodup∧∀ y ∈ (b1++b2++b3:List Nat),w.heap.size≤y):=⟨L.out.2.2.2.2.2.1,fun y hy=>by have:=L.out.2.2.2.2.2.2 y hy;have:=PE.out;omega⟩;clear dz kz L;go_wp2
  (try simp only[Exit.inBlock,Exit.then])
  refine bodyPost_ret (results_cell_row (P:=Tryz.prog) Tryz.results18 _ _ q2 _ _ _ _ rfl FQ.out.1 Tryz.underlying27 rfl (by kernel_rfl)) rfl ?_
  have hR:progP (parI zs) p=(⟨X,V,Y⟩,r3):=by
    have e1:listP (parI zs) (layP (parI zs)) 20 p=(X,r1):=HX.out;have e2:listP (parI zs) ((parI zs).nm 4) 5 r1=(Y,r2):=HY.out;have e3:listP (parI zs) (blkP (parI zs)) 150 r2=(V,r3):=HV.out;unfold progP;simp only[e1,e2,e3]
  rw[hR]
  have hp:(b1++b3++b2).Perm (b1++b2++b3):=by
    rw[lD9,lD9];exact List.Perm.append_left _ List.perm_append_comm
  refine ⟨a1,c1,a3,c3,a2,c2,b1,b3,b2,by simp only[HL1.out,HL2.out,HL3.out],FQ.out.2.1,FQ.out.2.2.1,⟨?_,?_,?_,BY.out⟩,hp.symm.nodup FN.out.1,fun y hy=>FN.out.2 y (hp.mem_iff.1 hy)⟩
  · simp only[HL1.out];exact FQ.out.2.2.2.1
  · simp only[HL3.out];exact FQ.out.2.2.2.2.2
  · simp only[HL2.out];exact FQ.out.2.2.2.2.1
theorem reads_nil (w:World):Reads w none 0 []:=⟨rfl,.inl rfl⟩
theorem implPut (a:Option Addr) (n cap:Nat) (zs:List Int) (N:Int) (w:World) (h:Reads w a n zs) (hn:n≤1500000) :
  Calls Tryz.prog 103 #[.slice a n cap,.int .i64 N] w fun e w'=>∃ g,e = .returned (.slice (some ⟨g,0,none⟩) (n+(numB N).length) (n+(numB N).length))∧w.grownBy w' none∧w.heap.size≤g∧Row w' g (n+(numB N).length) (zs++numB N):=by
 by_cases hN:0≤N∧N≤2147483647
 ·
  obtain ⟨h0,h1⟩:=hN;have hP:=partsT N w h0 h1;obtain ⟨L,hL⟩:∃ L,L=numB N:=⟨_,rfl⟩;rw[← hL] at hP ⊢;clear hL;go_enter Tryz.func103,Tryz.ntmps103;go_wp2_with fail;refine hP.mono ?_;rintro e w1 ⟨p0,p1,p2,p3,p4,c,rfl,hL,hc1,hc5,hg1⟩
  have hLl:L.length=c:=by rw[← hL];simp;omega
  have HL:Hid ([p0,p1,p2,p3,p4].take c=L):=hL;have HLl:Hid (L.length=c):=hLl;clear hP hL hLl;have hA:=(gal w1 (.cells #[.int .u8 p0,.int .u8 p1,.int .u8 p2,.int .u8 p3,.int .u8 p4] 146) none);have HR:Hid (Reads (w1.alloc (.cells #[.int .u8 p0,.int .u8 p1,.int .u8 p2,.int .u8 p3,.int .u8 p4] 146)) a n zs):=(h.none hg1).none hA;have HG:Hid (w.grownBy (w1.alloc (.cells #[.int .u8 p0,.int .u8 p1,.int .u8 p2,.int .u8 p3,.int .u8 p4] 146)) none):=gtr hg1 hA;clear hA hg1 h
  have hc5':(c:Int)≤5:=by omega
  go_wp2_with fail;refine (joinedT a (some ⟨w1.heap.size,0,none⟩) n c cap 5 zs L _ HR.out (reads_parts w1 p0 p1 p2 p3 p4 c 146 L hc5 HL.out) (by omega) (by omega)).mono ?_;rintro e w2 ⟨g,rfl,hg2,hlt2,hrow2⟩;have HG2:Hid (w.grownBy w2 none):=gtr HG.out hg2;have hlt:w.heap.size≤g:=Nat.le_trans HG.out.size hlt2;clear hg2 hlt2 HR HG;go_wp2;go_ret;rw[HLl.out];exact ⟨g,rfl,HG2.out,hlt,hrow2⟩
 ·
  have e0:=numB_out (show N < 0∨2147483647 < N by omega);have hJ:=joinedT a none n 0 cap 0 zs [] w h (reads_nil w) (by omega) (by omega);rw[e0];rcases (show N < 0∨2147483647 < N by omega) with h1|h1
  all_goals
   go_enter Tryz.func103,Tryz.ntmps103;go_wp2_with fail;refine hJ.mono ?_;rintro e w1 ⟨g,rfl,hg,hlt,hrow⟩;clear hJ;go_wp2;go_ret;exact ⟨g,rfl,hg,hlt,hrow⟩
theorem InF.below {w w':World} {f:F} {b off:Nat} (h:InF w f b off) (hb:Below w.heap.size w w'):InF w' f b off :=
 h.cells fun p v hv=>by rw[hb.cell (p:=p) (block_lt_of_cell hv)];exact hv
structure Fr (B:Nat) (w u:World):Prop where
 below:Below B w u
 other:∀ (i:Nat) (cur:Array Value) (t:TypeId) (r:Nat × Nat),w.heap[i]? = some (.cells cur t r)→t≠5→u.heap[i]? = some (.cells cur t r)
theorem Fr.refl (B:Nat) (w:World):Fr B w w:=⟨Below.refl _ _,fun _ _ _ _ h _=>h⟩
theorem Fr.trans {B:Nat} {a b c:World} (h:Fr B a b) (k:Fr B b c):Fr B a c:=⟨h.below.trans k.below,fun i cur t r hi ht=>k.other i cur t r (h.other i cur t r hi ht) ht⟩
theorem Fr.grown {B:Nat} {w u:World} (h:w.grownBy u none) (hB:B≤w.heap.size):Fr B w u :=
 ⟨(Below.refl B w).grown h hB (fun k hk=>by cases hk),fun i cur t r hi _=>(h.block i (lbk hi) (by simp)).trans hi⟩
theorem Fr.own {B N:Nat} {w u:World} {v:Value} {xs:List Value} (h:w.grownBy u v.ownBlock) (ho:w.ownsRow B 5 1 v N xs) (hB:B≤w.heap.size):Fr B w u:=by
 refine ⟨(Below.refl B w).grown h hB (own_lt ho),fun i cur t r hi ht=>(h.block i (lbk hi) ?_).trans hi⟩;rcases ho.2 with ⟨rfl,_⟩|⟨g,cap,cur',rfl,_,hg,_⟩
 ·
  simp [Value.ownBlock]
 ·
  simp only[Value.ownBlock];intro e;injection e with e;subst e;rw[hg] at hi;injection hi with hi;injection hi with _ h2;exact ht h2.symm
theorem Fr.three {B g:Nat} {w u:World} {t:TypeId} {c0 c1 c2:Value} (f:Fr B w u) (h:w.heap[g]? = some (.cells #[c0,c1,c2] t (0,0))) (ht:t≠5):u.heap[g]? = some (.cells #[c0,c1,c2] t (0,0)):=f.other _ _ _ _ h ht
def headB (k n:Int) (l:Nat):List Int:=k::(if k=6 then numB n++numB (l:Int) else if k=7 then numB n else [])
def bytesF:F→List Int
 | .nil=>[]
 | .cons k n d r=>headB k n d.len++bytesF d++bytesF r
def tyB (k n:Int) (d:F):List Int:=headB k n d.len++bytesF d
theorem headB_len (k n:Int) (l:Nat):(headB k n l).length≤11:=by
 unfold headB;have h1:=numB_len n;have h2:=numB_len (l:Int);by_cases h6:k=6
 ·
  rw[if_pos h6];simp only[lB,lA];omega
 ·
  rw[if_neg h6];by_cases h7:k=7
  ·
   rw[if_pos h7];simp only[lB];omega
  ·
   rw[if_neg h7];simp
theorem bytesF_len (f:F):(bytesF f).length≤11 * f.size:=by
 induction f with
 | nil=>simp [bytesF]
 | cons k n d r ihd ihr =>
  have:=headB_len k n d.len;simp only[bytesF,lA,F.size];omega
theorem fits_range {k n:Int} {l:Nat} (h:fitsB k n l=true):0≤k∧k≤7:=by
 by_cases h0:0≤k∧k≤7
 ·
  exact h0
 ·
  rw[fitsx (by omega) (by omega) (by omega) (by omega) (by omega) (by omega) (by omega) (by omega)] at h;cases h
def Acc (B:Nat) (w:World) (v:Value) (zs:List Int):Prop:=w.ownsRow B 5 1 v zs.length (vals zs)∧v≠.slice none 0 0
theorem Acc.row {B:Nat} {w:World} {v:Value} {zs:List Int} (h:Acc B w v zs):∃ g cap,v = .slice (some ⟨g,0,none⟩) zs.length cap∧B≤g∧Row w g cap zs∧cap≤maxLen:=by
 obtain ⟨g,cap,e,hB,hr,_,hm⟩:=row_own h.1 h.2;exact ⟨g,cap,e,hB,hr,hm⟩
theorem Acc.of_row {B g cap:Nat} {w:World} {zs:List Int} (h:Row w g cap zs) (hB:B≤g) (hm:cap≤maxLen):Acc B w (.slice (some ⟨g,0,none⟩) zs.length cap) zs :=
 ⟨own_row h rfl hB hm,by simp⟩
theorem Acc.fr {B:Nat} {w u:World} {v:Value} {zs:List Int} (h:Acc B w v zs) (hg:w.grownBy u none):Acc B u v zs :=
 ⟨h.1.kept hg (Classical.em _),h.2⟩
theorem l3bytesT (W0:World) (m:Nat):∀ (d:F) (k n:Int) (a:Option Addr) (l c:Nat) (v:Value) (zs:List Int) (w:World) (p:Nat),d.size < m→SlF W0 a l d→Below W0.heap.size W0 w→w.ownsRow W0.heap.size 5 1 v zs.length (vals zs)→fitsB k n l=true→okF d p=true→zs.length+11 * (1+d.size)≤90000000 →
  Calls Tryz.prog 60 #[v,.agg #[.int .i64 k,.int .i64 n,.slice a l c]] w fun e u=>∃ v',e = .returned v'∧Acc W0.heap.size u v' (zs++tyB k n d)∧Fr W0.heap.size w u:=by
 induction m with
 | zero=>intro d k n a l c v zs w p hm;exact absurd hm (Nat.not_lt_zero _)
 | succ m ih =>
  intro d k n a l c v zs w p hm h hb ho hf hok hlen;obtain ⟨i0,hi,hz0,hz1,hz2⟩:=info_parts info5;have hfl:=h.1;have hl:=h.2.1;have hk:=fits_range hf;have hB:=hb.size
  -- the box of the tree,then the byte of its kind
  have g0:=gal w (.cells #[.int .i64 k,.int .i64 n,.slice a l c] 46) none;have b0:=hnw w (.cells #[.int .i64 k,.int .i64 n,.slice a l c] 46);have ho1:=ho.kept g0 (Classical.em _);have HO:Hid (World.ownsRow _ W0.heap.size 5 1 v zs.length (vals zs)):=ho1
  have E1:Hid (zs.length+1≤maxLen):=by show _≤_;unfold maxLen;omega
  have E2:Hid ((zs.length+1) * 1≤140737488355328):=by show _≤_;omega
  have E3:∀ o,Hid (W0.heap.size≤((w.alloc (.cells #[.int .i64 k,.int .i64 n,.slice a l c] 46)).alloc o).heap.size):=by intro o;show _≤_;simp;omega
  have hkw:IntKind.u8.wrap k=k:=IntWalk.u8_in k (by omega)
  have HC:Hid (∀ j u,[Value.int .u8 k][j]? = some u→((w.alloc (.cells #[.int .i64 k,.int .i64 n,.slice a l c] 46)).alloc (.cells #[.int .u8 k] 5)).cell? ((⟨w.heap.size+1,0,none⟩:Addr).add j)=some u):=by
   have e:(w.alloc (.cells #[.int .i64 k,.int .i64 n,.slice a l c] 46)).heap.size=w.heap.size+1:=by simp
   have hc:=cell_one_new (w.alloc (.cells #[.int .i64 k,.int .i64 n,.slice a l c] 46)) (.int .u8 k) 5;rw[e] at hc;exact hc
  have IH:Hid _:=ih;have HS:Hid (SlF W0 a l d∧Below W0.heap.size W0 w):=⟨h,hb⟩;have FX:Hid (w.grownBy _ none∧_=some (Obj.cells #[.int .i64 k,.int .i64 n,.slice a l c] 46)∧W0.heap.size≤w.heap.size):=⟨g0,b0,hB⟩;have HF:Hid (fitsB k n l=true∧okF d p=true∧zs.length+11 * (1+d.size)≤90000000):=⟨hf,hok,hlen⟩;clear ih h hb g0 b0 hB ho ho1 hf hok hlen;go_enter Tryz.func60,Tryz.ntmps60;go_upto_region 2 with (at_builtin;go_must (refine wpList_append_own _ rfl (.tmp 6) (.tmp 10) 22 rfl W0.heap.size 5 i0 (.int .u8 0) 1 1 Tryz.underlying22 hi hz0 hz1 hz2 rfl (by decide) v zs.length (vals zs) rfl (HO.out.alloc _) ⟨w.heap.size+1,0,none⟩ 1 1 [.int .u8 k] rfl rfl HC.out (by simp [Value.oneCell']) E1.out E2.out (E3 _).out ?_);intro v1 w1 hown1 hgrow1 hnil1)
  have A1:Hid (Acc W0.heap.size w1 v1 (zs++[k])):=by
   refine And.intro ?_ (fun e=>by have:=(hnil1.1 e).2;omega);have e:=own_step hown1;simpa using e
  have FY:Hid (Fr W0.heap.size w w1∧w1.heap[w.heap.size]? = some (Obj.cells #[.int .i64 k,.int .i64 n,.slice a l c] 46)):=by
   obtain ⟨g0,b0,hB⟩:=FX.out;have ga:=gal (w.alloc (.cells #[.int .i64 k,.int .i64 n,.slice a l c] 46)) (.cells #[.int .u8 k] 5) none;have f1:=Fr.own hgrow1 (HO.out.alloc _) (E3 _).out;exact ⟨(Fr.grown (gtr g0 ga) hB).trans f1,f1.three ((ga.block _ (lbk b0) (by simp)).trans b0) (by decide)⟩
  clear hown1 hgrow1 hnil1 HC HO E1 E2 E3 hi hz0 hz1 hz2;have hB:W0.heap.size≤w.heap.size:=FX.out.2.2;clear FX;generalize ep:w.heap.size=q at *;obtain ⟨⟨x0,x1,x2⟩,-⟩:=three FY.out.2;obtain ⟨gr,cap,hv1,hgB,hrow,hcm⟩:=A1.out.row
  have e11:(zs++[k]).length=zs.length+1:=by simp
  rw[e11] at hv1;subst hv1;have hlen:=HF.out.2.2;generalize hN1:zs.length+1=N1 at *;have E11:Hid ((zs++[k]).length=N1∧zs.length+1=N1):=⟨e11,hN1⟩;clear e11 hN1;by_cases h6:k=6
  ·
   have CC:Hid _:=specPutM gr N1 cap (zs++[k]) n w1 hrow E11.out.1 (by have:=E11.out.2;omega);have hl5:=numB_len n;have hL5:Hid ((numB n).length≤5∧N1≤90000000):=⟨hl5,by have:=E11.out.2;omega⟩;subst h6;clear hrow hl5 hlen;go_wp2_with fail;refine Calls.mono CC.out ?_;rintro e u ⟨g,cp,rfl,hg,hgs,hr,hcp⟩;have FZ:Hid (Fr W0.heap.size w u∧u.heap[q]? = some (Obj.cells #[.int .i64 6,.int .i64 n,.slice a l c] 46)):=⟨FY.out.1.trans (Fr.grown hg (by have:=FY.out.1.below.size;omega)),(hg.block _ (lbk FY.out.2) (by simp)).trans FY.out.2⟩;have C2:Hid _:=specPutM g _ cp (zs++[6]++numB n) (l:Int) u hr (by rw[lA,E11.out.1]) (by have:=hL5.out;omega);obtain ⟨⟨y0,y1,y2⟩,-⟩:=three FZ.out.2
   have hgs':W0.heap.size≤u.heap.size:=by have:=hg.size;have:=FY.out.1.below.size;omega
   clear hg hgs hr hcp CC x0 x1 x2 A1 FY;simp only[];go_wp2_with fail;refine Calls.mono C2.out ?_;rintro e u2 ⟨g2,cp2,rfl,hg,hgs,hr,hcp⟩
   have AL:Hid (Acc W0.heap.size u2 (.slice (some ⟨g2,0,none⟩) (N1+(numB n).length+(numB (l:Int)).length) cp2) (zs++headB 6 n l)):=by
    show Acc _ _ _ _
    have e:zs++headB 6 n l=zs++[6]++numB n++numB (l:Int):=by simp [headB]
    have:=Acc.of_row (B:=W0.heap.size) hr (by omega) hcp;rw[e]
    have e2:(zs++[6]++numB n++numB (l:Int)).length=N1+(numB n).length+(numB (l:Int)).length:=by rw[lA,lA,E11.out.1]
    rw[e2] at this;exact this
   have FL:Hid (Fr W0.heap.size w u2∧u2.heap[q]? = some (Obj.cells #[.int .i64 6,.int .i64 n,.slice a l c] 46)):=⟨FZ.out.1.trans (Fr.grown hg hgs'),(hg.block _ (lbk FZ.out.2) (by simp)).trans FZ.out.2⟩;clear hg hgs hr hcp C2 y0 y1 y2 FZ hgs';simp only[];generalize Value.slice (some ⟨g2,0,none⟩) (N1+(numB n).length+(numB (l:Int)).length) cp2=vl at *;clear hL5 E11;rcases HS.out.1.cases with ⟨rfl,rfl⟩|⟨b,o,rfl,hin,-,hpos⟩
   ·
    obtain ⟨⟨y0,y1,y2⟩,-⟩:=three FL.out.2
    have FIN:Hid (Acc W0.heap.size u2 vl (zs++tyB 6 n .nil)):=by
     show Acc _ _ _ _
     have e:zs++tyB 6 n .nil=zs++headB 6 n 0:=by simp [tyB,bytesF,F.len]
     rw[e];exact AL.out
    clear IH AL;go_wp2;refine wp_loop_rounds 1 ?_;rw[rounds_succ];go_wp2;go_ret;exact ⟨_,rfl,FIN.out,FL.out.1⟩
   have IN:Hid (InF W0 d b o):=hin;have HB:Hid (Below W0.heap.size W0 w):=HS.out.2
   have PR:Hid (headB 6 n l++bytesF d=tyB 6 n d):=by show _=_;rw[tyB,hfl]
   have hhl:(headB 6 n l).length≤11:=headB_len _ _ _;have hokd:okF d p=true:=HF.out.2.1;have hlen2:zs.length+11 * (1+d.size)≤90000000:=HF.out.2.2;clear hin HS;have Q0:=three FL.out.2;obtain ⟨⟨y0,y1,y2⟩,-⟩:=Q0;go_wp2;clear y0 y1 y2
   go_loopw [0,5] (fun v i wr=>∃ (j:Nat) (R:F) (pre:List Int),j≤l∧i = .int .i64 j∧R.len+j=l∧R.size≤d.size∧Hid (InF W0 R b (o+j * 3))∧Hid (Acc W0.heap.size wr v (zs++pre))∧Hid (pre++bytesF R=tyB 6 n d)∧Hid (Fr W0.heap.size w wr∧wr.heap[q]? = some (Obj.cells #[.int .i64 6,.int .i64 n,.slice (some ⟨b,o,none⟩) l c] 46))∧Hid (zs.length+pre.length+11 * R.size≤90000000)∧Hid (okF R p=true)) (fun _ i _=>l - (intOf i).toNat)
   case atStart=>exact ⟨0,d,headB 6 n l,Nat.zero_le _,rfl,by omega,Nat.le_refl _,by simpa using IN,AL,PR,FL,by show _≤_;omega,hokd⟩
   case round =>
    clear AL FL;obtain ⟨j,R,pre,hj,rfl,hRl,hRs,hR,hA,hP,hFr,hN,hokR⟩:=hrel;obtain ⟨⟨y0,y1,y2⟩,-⟩:=three hFr.out.2;by_cases hlt:j < l
    ·
     obtain ⟨q1,hq1⟩:∃ q,R.len=q+1:=⟨R.len - 1,by omega⟩;obtain ⟨kk,nn,d',R',rfl,hR'⟩:=F.cons_of_len hq1;have hbw:=HB.out.trans hFr.out.1.below;obtain ⟨a',l',c',-,-,-,hd,hR2⟩:=hR.out.out;obtain ⟨a2,l2,c2,z0,z1,z2,hd2,-⟩:=(hR.out.below hbw).out;have hokc:=hokR.out;simp only[okF,bA9,dE9] at hokc
     have e3:o+j * 3+3=o+(j+1) * 3:=by omega
     rw[e3] at hR2
     have hds:d'.size < m:=by simp only[F.size] at hRs hm;omega
     have hRs':R'.size≤d.size:=by simp only[F.size] at hRs;omega
     have hNN:=hN.out;simp only[F.size] at hNN;obtain ⟨a3,l3,c3,w0',w1',w2',hd3,-⟩:=hR.out.out;have hlt0:=block_lt_of_cell w2';have e5:=(hbw.cell (p:=⟨b,o+j * 3+2,none⟩) hlt0).trans w2';rw[z2] at e5;injection e5 with e5;injection e5 with e6 e7 e8;subst e6 e7 e8;have CC:Hid _:=IH.out d' kk nn a2 l2 c2 u0 (zs++pre) wr (p - 1) hds hd3 hbw (by have:=hA.out.1;exact this) (by rw[← hd3.1];exact hokc.1.1.2) hokc.1.2 (by rw[lA];omega)
     have FX:Hid (InF W0 R' b (o+(j+1) * 3)∧okF R' p=true∧zs.length+(pre++tyB kk nn d').length+11 * R'.size≤90000000∧(pre++tyB kk nn d')++bytesF R' = tyB 6 n d):=by
      refine ⟨hR2,hokc.2,?_,?_⟩
      ·
       have h1:=headB_len kk nn d'.len;have h2:=bytesF_len d';rw[lA,tyB,lA];omega
      ·
       rw[← hP.out,bytesF,tyB];simp only[lD9]
     clear hR hR2 hd hd2 hd3 hP hbw hokc w0' w1' w2' hN hNN hokR IN IH PR hhl hokd hlen2;go_wp2_with fail;refine Calls.mono CC.out ?_;rintro e u ⟨v',rfl,hA2,hF2⟩
     have AC:Hid (Acc W0.heap.size u v' (zs++(pre++tyB kk nn d'))):=by show Acc _ _ _ _;rw[← lD9];exact hA2
     have FR:Hid (Fr W0.heap.size w u∧u.heap[q]? = some (Obj.cells #[.int .i64 6,.int .i64 n,.slice (some ⟨b,o,none⟩) l c] 46)):=⟨hFr.out.1.trans hF2,hF2.three hFr.out.2 (by decide)⟩;clear hA2 hF2 CC z0 z1 z2 y0 y1 y2 hFr hA;simp only[];go_wp2;go_roundw
     case rel=>exact ⟨j+1,R',pre++tyB kk nn d',by omega,by go_num,by omega,hRs',FX.out.1,AC,FX.out.2.2.2,FR,FX.out.2.2.1,FX.out.2.1⟩
     case measure=>simp [intOf];omega
    ·
     obtain rfl:j=l:=by omega
     obtain rfl:R = .nil:=F.nil_of_len (by omega)
     have FIN:Hid (Acc W0.heap.size wr u0 (zs++tyB 6 n d)):=by
      show Acc _ _ _ _
      have e:=hP.out;simp only[bytesF,List.append_nil] at e;rw[← e];exact hA.out
     clear hP hA;go_wp2;go_ret;exact ⟨_,rfl,FIN.out,hFr.out.1⟩
  by_cases h7:k=7
  ·
   have CC:Hid _:=specPutM gr N1 cap (zs++[k]) n w1 hrow E11.out.1 (by have:=E11.out.2;omega);subst h7;clear hrow hlen;go_wp2_with fail;refine Calls.mono CC.out ?_;rintro e u ⟨g,cp,rfl,hg,hgs,hr,hcp⟩
   have AL:Hid (Acc W0.heap.size u (.slice (some ⟨g,0,none⟩) (N1+(numB n).length) cp) (zs++headB 7 n l)):=by
    show Acc _ _ _ _
    have e:zs++headB 7 n l=zs++[7]++numB n:=by simp [headB]
    have:=Acc.of_row (B:=W0.heap.size) hr (by have:=FY.out.1.below.size;omega) hcp;rw[e]
    have e2:(zs++[7]++numB n).length=N1+(numB n).length:=by rw[lA,E11.out.1]
    rw[e2] at this;exact this
   have FL:Hid (Fr W0.heap.size w u∧u.heap[q]? = some (Obj.cells #[.int .i64 7,.int .i64 n,.slice a l c] 46)):=⟨FY.out.1.trans (Fr.grown hg (by have:=FY.out.1.below.size;omega)),(hg.block _ (lbk FY.out.2) (by simp)).trans FY.out.2⟩;clear hg hgs hr hcp CC x0 x1 x2 A1 FY;obtain ⟨⟨x0,x1,x2⟩,-⟩:=three FL.out.2;generalize Value.slice (some ⟨g,0,none⟩) (N1+(numB n).length) cp=vl at *;clear E11;simp only[];rcases HS.out.1.cases with ⟨rfl,rfl⟩|⟨b,o,rfl,hin,-,hpos⟩
   ·
    obtain ⟨⟨y0,y1,y2⟩,-⟩:=three FL.out.2
    have FIN:Hid (Acc W0.heap.size u vl (zs++tyB 7 n .nil)):=by
     show Acc _ _ _ _
     have e:zs++tyB 7 n .nil=zs++headB 7 n 0:=by simp [tyB,bytesF,F.len]
     rw[e];exact AL.out
    clear IH AL;go_wp2;refine wp_loop_rounds 1 ?_;rw[rounds_succ];go_wp2;go_ret;exact ⟨_,rfl,FIN.out,FL.out.1⟩
   have IN:Hid (InF W0 d b o):=hin;have HB:Hid (Below W0.heap.size W0 w):=HS.out.2
   have PR:Hid (headB 7 n l++bytesF d=tyB 7 n d):=by show _=_;rw[tyB,hfl]
   have hhl:(headB 7 n l).length≤11:=headB_len _ _ _;have hokd:okF d p=true:=HF.out.2.1;have hlen2:zs.length+11 * (1+d.size)≤90000000:=HF.out.2.2;clear hin HS;have Q0:=three FL.out.2;obtain ⟨⟨y0,y1,y2⟩,-⟩:=Q0;go_wp2;clear y0 y1 y2
   go_loopw [0,5] (fun v i wr=>∃ (j:Nat) (R:F) (pre:List Int),j≤l∧i = .int .i64 j∧R.len+j=l∧R.size≤d.size∧Hid (InF W0 R b (o+j * 3))∧Hid (Acc W0.heap.size wr v (zs++pre))∧Hid (pre++bytesF R=tyB 7 n d)∧Hid (Fr W0.heap.size w wr∧wr.heap[q]? = some (Obj.cells #[.int .i64 7,.int .i64 n,.slice (some ⟨b,o,none⟩) l c] 46))∧Hid (zs.length+pre.length+11 * R.size≤90000000)∧Hid (okF R p=true)) (fun _ i _=>l - (intOf i).toNat)
   case atStart=>exact ⟨0,d,headB 7 n l,Nat.zero_le _,rfl,by omega,Nat.le_refl _,by simpa using IN,AL,PR,FL,by show _≤_;omega,hokd⟩
   case round =>
    clear AL FL;obtain ⟨j,R,pre,hj,rfl,hRl,hRs,hR,hA,hP,hFr,hN,hokR⟩:=hrel;obtain ⟨⟨y0,y1,y2⟩,-⟩:=three hFr.out.2;by_cases hlt:j < l
    ·
     obtain ⟨q1,hq1⟩:∃ q,R.len=q+1:=⟨R.len - 1,by omega⟩;obtain ⟨kk,nn,d',R',rfl,hR'⟩:=F.cons_of_len hq1;have hbw:=HB.out.trans hFr.out.1.below;obtain ⟨a',l',c',-,-,-,hd,hR2⟩:=hR.out.out;obtain ⟨a2,l2,c2,z0,z1,z2,hd2,-⟩:=(hR.out.below hbw).out;have hokc:=hokR.out;simp only[okF,bA9,dE9] at hokc
     have e3:o+j * 3+3=o+(j+1) * 3:=by omega
     rw[e3] at hR2
     have hds:d'.size < m:=by simp only[F.size] at hRs hm;omega
     have hRs':R'.size≤d.size:=by simp only[F.size] at hRs;omega
     have hNN:=hN.out;simp only[F.size] at hNN;obtain ⟨a3,l3,c3,w0',w1',w2',hd3,-⟩:=hR.out.out;have hlt0:=block_lt_of_cell w2';have e5:=(hbw.cell (p:=⟨b,o+j * 3+2,none⟩) hlt0).trans w2';rw[z2] at e5;injection e5 with e5;injection e5 with e6 e7 e8;subst e6 e7 e8;have CC:Hid _:=IH.out d' kk nn a2 l2 c2 u0 (zs++pre) wr (p - 1) hds hd3 hbw (by have:=hA.out.1;exact this) (by rw[← hd3.1];exact hokc.1.1.2) hokc.1.2 (by rw[lA];omega)
     have FX:Hid (InF W0 R' b (o+(j+1) * 3)∧okF R' p=true∧zs.length+(pre++tyB kk nn d').length+11 * R'.size≤90000000∧(pre++tyB kk nn d')++bytesF R' = tyB 7 n d):=by
      refine ⟨hR2,hokc.2,?_,?_⟩
      ·
       have h1:=headB_len kk nn d'.len;have h2:=bytesF_len d';rw[lA,tyB,lA];omega
      ·
       rw[← hP.out,bytesF,tyB];simp only[lD9]
     clear hR hR2 hd hd2 hd3 hP hbw hokc w0' w1' w2' hN hNN hokR IN IH PR hhl hokd hlen2;go_wp2_with fail;refine Calls.mono CC.out ?_;rintro e u ⟨v',rfl,hA2,hF2⟩
     have AC:Hid (Acc W0.heap.size u v' (zs++(pre++tyB kk nn d'))):=by show Acc _ _ _ _;rw[← lD9];exact hA2
     have FR:Hid (Fr W0.heap.size w u∧u.heap[q]? = some (Obj.cells #[.int .i64 7,.int .i64 n,.slice (some ⟨b,o,none⟩) l c] 46)):=⟨hFr.out.1.trans hF2,hF2.three hFr.out.2 (by decide)⟩;clear hA2 hF2 CC z0 z1 z2 y0 y1 y2 hFr hA;simp only[];go_wp2;go_roundw
     case rel=>exact ⟨j+1,R',pre++tyB kk nn d',by omega,by go_num,by omega,hRs',FX.out.1,AC,FX.out.2.2.2,FR,FX.out.2.2.1,FX.out.2.1⟩
     case measure=>simp [intOf];omega
    ·
     obtain rfl:j=l:=by omega
     obtain rfl:R = .nil:=F.nil_of_len (by omega)
     have FIN:Hid (Acc W0.heap.size wr u0 (zs++tyB 7 n d)):=by
      show Acc _ _ _ _
      have e:=hP.out;simp only[bytesF,List.append_nil] at e;rw[← e];exact hA.out
     clear hP hA;go_wp2;go_ret;exact ⟨_,rfl,FIN.out,hFr.out.1⟩
  have AL:Hid (Acc W0.heap.size w1 (.slice (some ⟨gr,0,none⟩) N1 cap) (zs++headB k n l)):=by
   show Acc _ _ _ _
   have e:headB k n l=[k]:=by simp [headB,h6,h7]
   rw[e];exact A1.out
  have FL:=FY;generalize Value.slice (some ⟨gr,0,none⟩) N1 cap=vl at *
  have hb6:(k == (6:Int))=false:=by simp [h6]
  have hb7:(k == (7:Int))=false:=by simp [h7]
  clear A1 FY E11 hrow hlen h6 h7;rcases HS.out.1.cases with ⟨rfl,rfl⟩|⟨b,o,rfl,hin,-,hpos⟩
  ·
   obtain ⟨⟨y0,y1,y2⟩,-⟩:=three FL.out.2
   have FIN:Hid (Acc W0.heap.size w1 vl (zs++tyB k n .nil)):=by
    show Acc _ _ _ _
    have e:zs++tyB k n .nil=zs++headB k n 0:=by simp [tyB,bytesF,F.len]
    rw[e];exact AL.out
   clear IH AL;go_wp2;refine wp_loop_rounds 1 ?_;rw[rounds_succ];go_wp2;go_ret;exact ⟨_,rfl,FIN.out,FL.out.1⟩
  have IN:Hid (InF W0 d b o):=hin;have HB:Hid (Below W0.heap.size W0 w):=HS.out.2
  have PR:Hid (headB k n l++bytesF d=tyB k n d):=by show _=_;rw[tyB,hfl]
  have hhl:(headB k n l).length≤11:=headB_len _ _ _;have hokd:okF d p=true:=HF.out.2.1;have hlen2:zs.length+11 * (1+d.size)≤90000000:=HF.out.2.2;clear hin HS;have Q0:=three FL.out.2;obtain ⟨⟨y0,y1,y2⟩,-⟩:=Q0;go_wp2;clear y0 y1 y2
  go_loopw [0,5] (fun v i wr=>∃ (j:Nat) (R:F) (pre:List Int),j≤l∧i = .int .i64 j∧R.len+j=l∧R.size≤d.size∧Hid (InF W0 R b (o+j * 3))∧Hid (Acc W0.heap.size wr v (zs++pre))∧Hid (pre++bytesF R=tyB k n d)∧Hid (Fr W0.heap.size w wr∧wr.heap[q]? = some (Obj.cells #[.int .i64 k,.int .i64 n,.slice (some ⟨b,o,none⟩) l c] 46))∧Hid (zs.length+pre.length+11 * R.size≤90000000)∧Hid (okF R p=true)) (fun _ i _=>l - (intOf i).toNat)
  case atStart=>exact ⟨0,d,headB k n l,Nat.zero_le _,rfl,by omega,Nat.le_refl _,by simpa using IN,AL,PR,FL,by show _≤_;omega,hokd⟩
  case round =>
   clear AL FL;obtain ⟨j,R,pre,hj,rfl,hRl,hRs,hR,hA,hP,hFr,hN,hokR⟩:=hrel;obtain ⟨⟨y0,y1,y2⟩,-⟩:=three hFr.out.2;by_cases hlt:j < l
   ·
    obtain ⟨q1,hq1⟩:∃ q,R.len=q+1:=⟨R.len - 1,by omega⟩;obtain ⟨kk,nn,d',R',rfl,hR'⟩:=F.cons_of_len hq1;have hbw:=HB.out.trans hFr.out.1.below;obtain ⟨a',l',c',-,-,-,hd,hR2⟩:=hR.out.out;obtain ⟨a2,l2,c2,z0,z1,z2,hd2,-⟩:=(hR.out.below hbw).out;have hokc:=hokR.out;simp only[okF,bA9,dE9] at hokc
    have e3:o+j * 3+3=o+(j+1) * 3:=by omega
    rw[e3] at hR2
    have hds:d'.size < m:=by simp only[F.size] at hRs hm;omega
    have hRs':R'.size≤d.size:=by simp only[F.size] at hRs;omega
    have hNN:=hN.out;simp only[F.size] at hNN;obtain ⟨a3,l3,c3,w0',w1',w2',hd3,-⟩:=hR.out.out;have hlt0:=block_lt_of_cell w2';have e5:=(hbw.cell (p:=⟨b,o+j * 3+2,none⟩) hlt0).trans w2';rw[z2] at e5;injection e5 with e5;injection e5 with e6 e7 e8;subst e6 e7 e8;have CC:Hid _:=IH.out d' kk nn a2 l2 c2 u0 (zs++pre) wr (p - 1) hds hd3 hbw (by have:=hA.out.1;exact this) (by rw[← hd3.1];exact hokc.1.1.2) hokc.1.2 (by rw[lA];omega)
    have FX:Hid (InF W0 R' b (o+(j+1) * 3)∧okF R' p=true∧zs.length+(pre++tyB kk nn d').length+11 * R'.size≤90000000∧(pre++tyB kk nn d')++bytesF R' = tyB k n d):=by
     refine ⟨hR2,hokc.2,?_,?_⟩
     ·
      have h1:=headB_len kk nn d'.len;have h2:=bytesF_len d';rw[lA,tyB,lA];omega
     ·
      rw[← hP.out,bytesF,tyB];simp only[lD9]
    clear hR hR2 hd hd2 hd3 hP hbw hokc w0' w1' w2' hN hNN hokR IN IH PR hhl hokd hlen2;go_wp2_with fail;refine Calls.mono CC.out ?_;rintro e u ⟨v',rfl,hA2,hF2⟩
    have AC:Hid (Acc W0.heap.size u v' (zs++(pre++tyB kk nn d'))):=by show Acc _ _ _ _;rw[← lD9];exact hA2
    have FR:Hid (Fr W0.heap.size w u∧u.heap[q]? = some (Obj.cells #[.int .i64 k,.int .i64 n,.slice (some ⟨b,o,none⟩) l c] 46)):=⟨hFr.out.1.trans hF2,hF2.three hFr.out.2 (by decide)⟩;clear hA2 hF2 CC z0 z1 z2 y0 y1 y2 hFr hA;simp only[];go_wp2;go_roundw
    case rel=>exact ⟨j+1,R',pre++tyB kk nn d',by omega,by go_num,by omega,hRs',FX.out.1,AC,FX.out.2.2.2,FR,FX.out.2.2.1,FX.out.2.1⟩
    case measure=>simp [intOf];omega
   ·
    obtain rfl:j=l:=by omega
    obtain rfl:R = .nil:=F.nil_of_len (by omega)
    have FIN:Hid (Acc W0.heap.size wr u0 (zs++tyB k n d)):=by
     show Acc _ _ _ _
     have e:=hP.out;simp only[bytesF,List.append_nil] at e;rw[← e];exact hA.out
    clear hP hA;go_wp2;go_ret;exact ⟨_,rfl,FIN.out,hFr.out.1⟩
end Go.Proofs.YtnmlbeefjjohfaaGreatDoor.By
